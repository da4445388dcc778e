import PyProof.Rows.All
import Wide.All
import OpenK.AllK
import Wide.FinOn
import Lean
import PyProof.EqAt
import PyProof.EqKinds
import PyProof.TupleCall
import PySem.Challenge.RW_knotwise_k72_settling_is_the_least_choic
open Array renaming length_toList -> dF, getD -> pP, getElem?_eq_getElem -> y7, getElem?_eq_none -> CJ
open Array.Perm renaming refl -> jD
open Bool renaming and_eq_true -> aA, false_eq_true -> aB, noConfusion -> bA, not_true -> bO, false_ne_true -> dn, and_eq_true_iff -> gC, not_false -> jm, or_eq_true -> pO, false_or -> tY, false_and -> Av, and_false -> Aw, beq_eq_decide_eq -> FF
open Classical renaming byContradiction -> vC
open False renaming elim -> bg
open ForInStep renaming yield -> nF
open Int renaming toNat_natCast -> eV, natCast_nonneg -> lP, emod_lt_of_pos -> lQ, zero_add -> pT, emod_nonneg -> pU
open List renaming getElem?_cons_zero -> aa, getElem?_cons_succ -> af, length_map -> ah, getElem?_eq_getElem -> ai, set_cons_zero -> aj, length_cons -> ao, set_cons_succ -> au, length_nil -> av, mem_cons_of_mem -> aw, map_cons -> az, size_toArray -> aC, getD_eq_getElem?_getD -> aI, map_append -> aK, cons_append -> aP, replicate -> aT, length_append -> aU, mem_cons_self -> a0, nil_append -> a5, map_nil -> a9, getElem_mem -> bu, range -> bK, mem_append_right -> bT, getElem?_map -> bZ, flatten_cons -> cx, drop_eq_getElem_cons -> cD, length_range -> cK, nodup_nil -> cP, length_drop -> cU, length_replicate -> dh, length -> du, mem_of_getElem? -> dw, getElem_of_mem -> dR, find?_cons -> dS, append_nil -> dU, getElem?_append_right -> ed, getElem_map -> eh, getElem?_append_left -> eC, all_eq_true -> fm, getElem?_set_self -> fB, take_append_drop -> fR, length_singleton -> fS, append_assoc -> gq, mem_append_left -> gz, getElem?_set_ne -> gB, flatten_append -> hV, map_map -> hX, all_map -> h8, nodup_cons -> iL, map_singleton -> iM, length_set -> iN, getElem?_replicate -> iO, drop_eq_nil_of_le -> i5, nodup_append -> jc, any_cons -> j9, foldl_cons -> kG, mem_singleton -> lJ, getElem_range -> lK, foldl_append -> mX, length_take -> nW, filterMap_cons -> q5, take_nil -> tV, drop_nil -> tW, all_cons -> tX, pairwise_map -> uM, set_nil -> vB, lookup_cons -> wR, of_mem_zip -> yE, pairwise_iff_getElem -> Au, pairwise_singleton -> CC, pairwise_mergeSort -> CD, mem_cons -> CF, map_take -> CG, map_drop -> CH, take_of_length_le -> Dg, flatMap_singleton -> Dh, find?_cons_of_pos -> Di, find?_cons_of_neg -> Dj, getElem?_eq_none -> FE, replicate_succ' -> FV, mem_of_mem_drop -> FW
open List.Pairwise renaming imp -> yX
open List.Perm renaming eq_of_pairwise -> wU
open Nat renaming le_refl -> aF, lt_of_lt_of_le -> a6, ne_of_lt -> ba, le_trans -> bx, zero_le -> bJ, lt_irrefl -> cS, not_lt_zero -> gc, lt_succ_of_lt -> nE, add_sub_cancel_left -> nV, succ_le_succ -> oq, lt_succ_self -> ot, lt_of_succ_lt_succ -> oC, le_of_succ_le_succ -> oD, pow_le_pow_right -> qL, mul_le_mul -> q4, le_succ -> rM, le_of_lt -> FU
open Ne renaming symm -> j8
open Option renaming isSome_map -> iW
open Option.some renaming inj -> aW
open PyProof.Rows renaming seqObj -> ji, IntsAre -> jk, slot_tuple_getitem -> pN, callWith_builtin1 -> pR, subscriptTail_builtinR -> qJ, callWith_type1 -> q0, envOfC -> rJ, AllBare -> vD, oneType' -> CB, get?_update_seq -> C9
open PySem renaming wpAny_bind -> ae, Shared -> ak, wpAny_pure -> aq, FuncData -> aE, sizeLine -> aY, Program -> bf, wpAny_loadPart' -> bo, mainGlobals -> bp, starEach -> bI, sizeLine_eq -> bM, wpAny_newObj_type -> bR, Around -> bW, bootBuiltins -> cF, compareOp -> cG, wpAny_holding -> cM, sysModules -> c3, wpAny_call_entry -> c5, wpAny_tryCatch -> dW, ReadsAll -> eB, plainId_quiet -> eG, mem_of_lookup -> e8, codeAny_builtin -> e9, wpAny_callSpecial?_slot -> fC, wpAny_typeNameOfWhole_valiter -> fK, wpAny_typeNameOfWhole_keyiter -> fL, rawInt -> fM, wpAny_Call_Name_kw -> gm, wpAny_updateSeq -> gE, wpAny_passesOwn -> gF, wpAny_truthy_bool -> gZ, wpAny_dictEntries -> g6, binaryOp -> g7, wpAny_typeNameOf_valiter -> iU, wpAny_typeNameOf_keyiter -> iV, wpAny_dictEpoch -> jh, codeAmong -> jj, wpAny_letGo -> jV, richCompare -> jW, foldedSetIterable -> jX, valueAt -> jY, wpAny_seqItems -> j6, wpAny_fieldsOf -> j7, wpAny_isOneOf_valiter -> ka, backTo -> kc, DictEntry -> kd, sliceBounds -> lU, pyNext -> lV, argBest -> lX, tupleKind_room_in1 -> nJ, NameKind -> nK, wpAny_pyIter_list -> oy, wpAny_mono -> oz, builtinsNs -> oA, richCompare_meets_room -> qK, wpAny_execs_nil -> rF, letOwnedTupleGo -> rG, codeAny -> rK, call_meets -> tT, assignEach -> tU, wpAny_setField -> uJ, firstArgMember -> uK, wpAny_pyIter_tuple -> w8, wpAny_attempt -> w9, seqItems? -> xc, attributeBase -> xf, wpAny_truthy_dict -> yO, wpAny_pyIter_slot -> yP, relabel -> yQ, holding -> yR, closureFor -> yS, wpAny_callSpecialIfBound?_slot -> Ah, wpAny_of_eq -> C0, wpAny_field -> C1, valueAt -> C2, tupleKind -> C3, swapsWith -> C4, seqIndex_of -> C5, pyIter -> C6, importedModules -> C8, callerA -> Dc, assign -> De, Keyword -> Dk, Arguments -> Dl, recursionLimit -> FQ
open PySem.Around renaming under_plainId -> cQ
open PySem.AutoSeq1 renaming sub_tuple_tuple -> lq, sub_list_list -> y0
open PySem.Builtin.Builtins renaming bindParams -> iP
open PySem.Builtin.Dict renaming showsAll -> ij, noArgs -> yI
open PySem.Builtin.Dict_items renaming ownsTuple -> c4
open PySem.Builtin.List renaming listTooLong -> gh
open PySem.Builtin.Slice renaming slicePlaces -> fF, sliceAdjust -> jF, sliceApplied -> rf
open PySem.Builtin.Tuple renaming tupleExact -> fV, tupleCompareSizes -> oE
open PySem.Calls renaming spliced_cons -> rN, Name_function_global -> yH, callWith_builtin -> CI
open PySem.F renaming plainAttrs_list -> cu, plain_min_loop -> cT, slot_dict_valueiterator_next -> ft, plain_min_loop -> fE, slot_dict_keyiterator_next -> fU, slot_tuple_lt -> i4, type_list_append -> lH, slot_list_append -> lI, args_tuple_lt_2 -> lZ, entry_tuple_lt -> nB, entry_min_loop -> nC, slot_list_lt -> oB, args_dict_valueiterator_next_1 -> wW, entry_dict_valueiterator_next -> xh, type_list_insert -> yy, type_list_extend -> yz, slot_list_insert -> yA, slot_list_extend -> yB, slot_dict_values -> yC, args_tuple_add_2 -> yD, slot_dict_valueiterator_iter -> yF, args_dict_keyiterator_next_1 -> yG, slot_list_index -> yV, entry_tuple_add -> yW, entry_min_loop -> yY, entry_dict_keyiterator_next -> yZ, slot_tuple_add -> Ap, args_list_lt_2 -> As, entry_list_lt -> BE, slot_dict_values_iter -> FY
open PySem.Heap renaming get?_push_of_some -> ar, lt_size -> aH, get?_push_size -> aR, get?_update_other -> cb, get?_update_self -> fT, size_push -> jl, SameBut -> lL, size_update -> wV, get?_none_of_le -> FX
open PySem.Heap.SameBut renaming update -> dv
open PySem.NameKind renaming free -> hU
open PySem.Obj renaming mapSeq -> da, data_mapFields -> lO, mapFields -> nU, isFreed_of_fields -> FT
open PySem.Paired renaming length -> jK
open PySem.PassesOwn renaming never -> br
open PySem.PyData renaming depthAll -> bq, eqv -> lN
open PySem.SeqAt renaming items_eqAt -> jE, any_by_data -> lY, readOf -> uL
open PySem.Str renaming ofString -> ig
open PySem.Value renaming none -> cH, int -> cW, ref -> fN, bool -> t6
open PySem.W renaming Frag -> ag, mg_none_of -> bP, nsIn -> cR, kas_rev -> eg, kia_one -> fD, keepIn -> gy, kas_place -> gG, fnOf -> gY, kas_desc -> iK, findIn -> kJ, kas_asc -> lW, kas_descPart -> rH, methodObj -> rL, codeIn -> xg, cellsFrom_some -> An, kas_tail3 -> C7, OpenLaw -> Df, callWith_K -> FD, specialIn -> FR
open PySem.W.KasT renaming ret -> pS
open PySem.Walks renaming list -> Am
open Sum renaming inr -> yT, inl -> yU
open True renaming intro -> hW
set_option Elab.async false
set_option linter.all false
set_option maxRecDepth 100000
set_option maxHeartbeats 4000000
set_option genSizeOf false
set_option genInjectivity false
set_option compiler.extract_closed false
namespace Internal
theorem Ad(h:0=0:=by decide):0=0:=h
theorem Ai(h:0=0:=by intro _; rfl):0=0:=h
theorem Aj(h:0=0:=by intros; rfl):0=0:=h
theorem Ak(h:0=0:=by decide +kernel):0=0:=h
theorem Al(h:0=0:=by intro _ _ _ _ h; repeat (first | (cases h.1; rfl) | (cases h <;> rename_i h))):0=0:=h
theorem Ao(h:0=0:=by first | exact .inl rfl | exact .inr rfl | exact .inr (.inl rfl) | exact .inr (.inr rfl) | assumption):0=0:=h
theorem Aq(h:0=0:=by k_is):0=0:=h
theorem Ar(h:0=0:=by rfl):0=0:=h
namespace L2
open PySem PySem.Spec PyProof.Rows
noncomputable abbrev Key:=Sum Int Str
noncomputable def u5:Key->Value->Bool
 | .inl k,v=>Value.isInt k v
 | .inr x,v=>Value.isStrOf x v
noncomputable def NV(w:World):Key->Int
 | .inl k=>hashInt k
 | .inr x=>hashStr w x
theorem dm:∀ {k:Key} {v:Value},u5 k v=true->(∃ i t,k=yU i/\v=cW i t)\/(∃ x t,k=yT x/\v=Value.str x t)
 | .inl i,v,h=>by
  obtain⟨t,e⟩:=Value.isInt_shape (k:=i) (v:=v) h;exact .inl ⟨i,t,rfl,e⟩
 | .inr x,v,h=>by
  obtain⟨t,e⟩:=Value.isStrOf_shape (x:=x) (v:=v) h;exact .inr ⟨x,t,rfl,e⟩
theorem Ca(i:Int)(t:Tok):u5 (.inl i) (.int i t)=true:=by simp [u5,Value.isInt]
theorem B9(x:Str)(t:Tok):u5 (.inr x) (.str x t)=true:=by simp [u5,Value.isStrOf]
theorem Eo(a b:Int):decide ((yU a:Key)=yU b)=(a == b):=by
 by_cases e:a=b
 ·subst e; simp
 ·have h:¬ (yU a:Key)=yU b:=fun q=>e (Sum.inl.inj q);rw [decide_eq_false h];exact(beq_eq_false_iff_ne.mpr e).symm
theorem En(a b:Str):decide ((yT a:Key)=yT b)=decide (a=b):=by
 by_cases e:a=b
 ·subst e; simp
 ·have h:¬ (yT a:Key)=yT b:=fun q=>e (Sum.inr.inj q);rw [decide_eq_false h,decide_eq_false e]
theorem Ji(a:Int)(b:Str):decide ((yU a:Key)=yT b)=false:=decide_eq_false (fun q=>nomatch q)
theorem Jh(a:Str)(b:Int):decide ((yT a:Key)=yU b)=false:=decide_eq_false (fun q=>nomatch q)
noncomputable def c7(prog:bf)(w:World):PySem.KeyKind prog w Key where
 is:=u5
 hash:=NV w
 inj:=fun v a b ha hb=>by
  rcases dm ha with ⟨i,t,rfl,rfl⟩ | ⟨x,t,rfl,rfl⟩
  ·rcases dm hb with ⟨j,u,rfl,e⟩ | ⟨y,u,rfl,e⟩
   ·injection e with e1 _; rw [e1]
   ·exact nomatch e
  ·rcases dm hb with ⟨j,u,rfl,e⟩ | ⟨y,u,rfl,e⟩
   ·exact nomatch e
   ·injection e with e1 _; rw [e1]
 byValue:=fun k v h=>by
  rcases dm h with ⟨i,t,rfl,rfl⟩ | ⟨x,t,rfl,rfl⟩ <;> rfl
 pyHash:=fun hv h=>by
  rcases dm hv with ⟨i,t,rfl,rfl⟩ | ⟨x,t,rfl,rfl⟩
  ·exact wpAny_pyHash_int h
  ·exact wpAny_pyHash_str h
 eqBool:=fun hu hv h=>by
  rcases dm hu with ⟨i,t,rfl,rfl⟩ | ⟨x,t,rfl,rfl⟩
  ·rcases dm hv with ⟨j,u,rfl,rfl⟩ | ⟨y,u,rfl,rfl⟩
   ·rw [Eo] at h; exact wpAny_eqBool_int h
   ·rw [Ji] at h; exact SeqAt.EqAt.int_str i t y u _ _ _ _ h
  ·rcases dm hv with ⟨j,u,rfl,rfl⟩ | ⟨y,u,rfl,rfl⟩
   ·rw [Jh] at h; exact SeqAt.EqAt.str_int x t j u _ _ _ _ h
   ·rw [En] at h; exact wpAny_eqBool_str h
 «strs»:=fun k x t v h=>by
  rcases dm h with ⟨i,u,rfl,e⟩ | ⟨y,u,rfl,e⟩
  ·exact nomatch e
  ·injection e with e1 _
   subst e1;cases v <;> rfl
theorem xK(prog:bf)(w:World)(i:Int)(t:Tok):(c7 prog w).is (.inl i) (.int i t)=true:=Ca i t
theorem xJ(prog:bf)(w:World)(x:Str)(t:Tok):(c7 prog w).is (.inr x) (.str x t)=true:=B9 x t
inductive V where
 | bX | bl (b:Bool) | int (i:Int) | str (x:Str) | JM (b:Array UInt8) | LF (b:UInt64) | ref (a:Addr) | ty (n:String)
noncomputable def RelV:V->Value->Prop
 | .bX,u=>u=cH
 | .bl b,u=>u=t6 b
 | .int i,u=>∃ t,u=cW i t
 | .str x,u=>∃ t,u=Value.str x t
 | .JM b,u=>∃ t,u=Value.bytes b t
 | .LF b,u=>∃ t,u=Value.float b t
 | .ref a,u=>u=fN a
 | .ty n,u=>u=Value.type n
noncomputable abbrev Vals:List V->List Value->Prop:=Paired RelV
theorem Vals.length{xs:List V}{us:List Value}(r:Vals xs us):xs.length=us.length:=jK r
theorem Vals.get:∀ {xs:List V} {us:List Value} {i:Nat} {x:V},Vals xs us->xs[i]?=some x->∃ u,us[i]?=some u/\RelV x u:=by
 intro xs us i x h;induction h generalizing i with
 | nil=>intro e; cases e
 | cons r t ih =>
  intro e;cases i with
  | zero=>cases e; exact⟨_,rfl,r⟩
  | succ i=>exact ih e
theorem Vals.set{x:V}{u:Value}(r:RelV x u):∀ {xs:List V} {us:List Value} (i:Nat),Vals xs us->Vals (xs.set i x) (us.set i u):=by
 intro xs us i h;induction h generalizing i with
 | nil=>rw [vB,vB]; exact .nil
 | cons q t ih =>
  cases i with
  | zero=>exact .cons r t
  | succ i=>exact .cons q (ih i)
theorem Vals.append:∀ {xs ys:List V} {us ws:List Value},Vals xs us->Vals ys ws->Vals (xs++ys) (us++ws):=by
 intro xs ys us ws h s;induction h with
 | nil=>exact s
 | cons r t ih=>exact .cons r ih
theorem Vals.take:∀ {xs:List V} {us:List Value} (n:Nat),Vals xs us->Vals (xs.take n) (us.take n):=by
 intro xs us n h;induction h generalizing n with
 | nil=>rw [tV,tV]; exact .nil
 | cons r t ih =>
  cases n with
  | zero=>exact .nil
  | succ n=>exact .cons r (ih n)
theorem Vals.drop:∀ {xs:List V} {us:List Value} (n:Nat),Vals xs us->Vals (xs.drop n) (us.drop n):=by
 intro xs us n h;induction h generalizing n with
 | nil=>rw [tW,tW]; exact .nil
 | cons r t ih =>
  cases n with
  | zero=>exact .cons r t
  | succ n=>exact ih n
noncomputable def uG:Option V->Option Value->Prop
 | some v,some u=>RelV v u
 | none,none=>True
 | _,_=>False
noncomputable def KV{κ:Type}:List (κ×V)->List (κ×Value)->Prop:=Paired fun (p:κ×V) (q:κ×Value)=>p.1=q.1/\RelV p.2 q.2
noncomputable def kV:Key->V
 | .inl i=>.int i
 | .inr x=>.str x
inductive HO where
 | lst (xs:List V)
 | tup (xs:List V)
 | dK (aQ:List (Key×V)) | dT (aQ:List (List Key×V))
 | set (S:Int->Bool) (n:Nat)
 | ins (C dx:Addr) (fs:List (Str×V))
 | own (x:Addr)
 | xd (fs:List (Str×V))
 | met (f x:Addr)
 | L6 (lo hi:Int)
 | jI (o:Obj) (u:HO)
 | wY (q:Str)
 | ext (φ:Heap->Prop)
noncomputable abbrev Hp:=Addr->Option HO
noncomputable def upd(H:Hp)(a:Addr)(o:HO):Hp:=fun b=>if b=a then some o else H b
theorem cq{H:Hp}{a:Addr}{o:HO}:upd H a o a=some o:=by unfold upd; rw [if_pos rfl]
theorem bw{H:Hp}{a b:Addr}{o:HO}(h:b≠a):upd H a o b=H b:=by unfold upd; rw [if_neg h]
theorem KZ{H:Hp}{a b:Addr}{o u:HO}(h:H a=some o)(h':H b=some u)(d:o≠u):a≠b:=by
 intro e; subst e; rw [h] at h'; exact d (aW h')
theorem bQ{H:Hp}{a b:Addr}{o:HO}(h:H a=some o)(h':H b=none):a≠b:=by
 intro e; subst e; rw [h] at h'; cases h'
section
variable (P:bf) (w:World)
noncomputable def eQ(H:Hp)(h:Heap)(a:Addr):HO->Prop
 | .lst xs=>xs.length<=aY/\∃ (its:List Value) (n:Nat),Vals xs its/\h.get? a=some { cls:=.type "list",data:=.seq its.toArray n }
 | .tup xs=>xs.length<=aY/\∃ its:List Value,Vals xs its/\IsTup h a its.toArray
 | .dK aQ=>aQ.length<=aY/\(a == c3)=false/\∃ vs,KV aQ vs/\h.DictOf (c7 P w) a vs
 | .dT aQ=>aQ.length<=aY/\(a == c3)=false/\∃ xs:List (List Key×Addr×Value),
   Paired (fun (p:List Key×V) (q:List Key×Addr×Value)=>p.1=q.1/\H q.2.1=some (.tup (p.1.map kV))/\RelV p.2 q.2.2) aQ xs /\
   ∃ o es ep,h.get? a=some o/\o.ExactDict/\o.data=.dict es ep/\es.toList=xs.map (entryOfKey (C3 (c7 P w)))/\(xs.map (·.1)).Nodup
 | .set S n=>h.SetOf (intKind P w) a S n
 | .ins C dx fs=>H dx=some (.own a)/\fs.length<=1000/\dx≠a/\h.get? a=some (PySem.W.instObj C dx) /\
   ∃ mA,h.Ns1 dx mA/\(∀ f,uG (fs.lookup f) (mA f))/\PySem.Within mA (fs.map (·.1))
 | .own _=>∃ o,h.get? a=some o
 | .xd fs=>∃ mA,h.Ns1 a mA/\∀ f,uG (fs.lookup f) (mA f)
 | .L6 lo hi=>∃ t u v,h.get? a=some { cls:=.type "range",data:=.fields #[.int lo t,.int hi u,.int 1 v] }
 | .jI o u=>h.get? a=some o/\eQ H h a u
 | .wY q=>∃ ps,h.get? a=some { cls:=.none,data:=.fields ps }/\TriplesOk ps.toList/\∀ pos cv,jj pos ps.toList=some cv->∃ c',cv=.ref c'/\H c'=some (.own a)/\h.CodeRec (.ref c') q
 | .met f x=>h.get? a=some (rL (.ref f) (.ref x))
 | .ext φ=>φ h/\(∃ o,h.get? a=some o)/\∀ h1 h2:Heap,φ h1->(∀ o,h1.get? a=some o->h2.get? a=some o)->φ h2
noncomputable def ow(H:Hp)(h:Heap):Prop:=∀ a o,H a=some o->eQ P w H h a o
end
section
variable {P:bf} {w:World} {H H':Hp} {h h':Heap} {a:Addr} {o:HO}
theorem eQ.lt(x:eQ P w H h a o):a < h.objs.size:=by
 cases o with
 | lst xs=>obtain⟨_,_,_,_,e⟩:=x; exact aH e
 | tup xs=>obtain⟨_,_,_,p⟩:=x; exact p.lt
 | dK aQ=>obtain⟨_,_,_,_,o,_,_,e,_⟩:=x; exact aH e
 | dT aQ=>obtain⟨_,_,_,_,o,_,_,e,_⟩:=x; exact aH e
 | set S n=>obtain⟨o,_,_,_,e,_⟩:=x; exact aH e
 | ins C dx fs=>obtain⟨_,_,_,e,_⟩:=x; exact aH e
 | own y=>obtain⟨_,e⟩:=x; exact aH e
 | xd fs=>obtain⟨_,⟨_,_,_,e,_⟩,_⟩:=x; exact aH e
 | L6 lo hi=>obtain⟨_,_,_,e⟩:=x; exact aH e
 | jI ob u=>obtain⟨e,_⟩:=x; exact aH e
 | wY q=>obtain⟨_,e,_⟩:=x; exact aH e
 | met f y=>exact aH (show h.get? a=some _ from x)
 | ext φ=>obtain⟨_,⟨_,e⟩,_⟩:=x; exact aH e
theorem Paired.K4{α β:Type}{F G:α->β->Prop}:∀ {Jc:List α} {Jb:List β},Paired F Jc Jb->(∀ a b,F a b->G a b)->Paired G Jc Jb:=by
 intro Jc Jb h f;induction h with
 | nil=>exact .nil
 | cons r t ih=>exact .cons (f _ _ r) ih
theorem eQ.ke(x:eQ P w H h a o)(k:∀ b u,(b=a\/H b=some (.own a))->h.get? b=some u->h'.get? b=some u)
  (ho:∀ b,H b=some (.own a)->H' b=some (.own a)) (ht:∀ b xs,H b=some (.tup xs)->H' b=some (.tup xs)):eQ P w H' h' a o:=by
 induction o with
 | lst xs=>obtain⟨z,its,n,r,e⟩:=x; exact⟨z,its,n,r,k _ _ (.inl rfl) e⟩
 | tup xs=>obtain⟨z,its,r,ob,e,c⟩:=x; exact⟨z,its,r,ob,k _ _ (.inl rfl) e,c⟩
 | dK aQ=>obtain⟨z,y,vs,r,ob,es,ep,e,c⟩:=x; exact⟨z,y,vs,r,ob,es,ep,k _ _ (.inl rfl) e,c⟩
 | dT aQ =>
  obtain⟨z,y,xs,r,ob,es,ep,e,c⟩:=x;exact⟨z,y,xs,Paired.K4 r fun p q z=>⟨z.1,ht _ _ z.2.1,z.2.2⟩,ob,es,ep,k _ _ (.inl rfl) e,c⟩
 | set S n=>obtain⟨ob,es,ep,t,e,c⟩:=x; exact⟨ob,es,ep,t,k _ _ (.inl rfl) e,c⟩
 | ins C dx fs =>
  obtain⟨d,z,ne,e,mA,⟨od,es,ep,e2,c⟩,r⟩:=x;exact⟨ho _ d,z,ne,k _ _ (.inl rfl) e,mA,⟨od,es,ep,k _ _ (.inr d) e2,c⟩,r⟩
 | own y=>obtain⟨ob,e⟩:=x; exact⟨ob,k _ _ (.inl rfl) e⟩
 | xd fs=>obtain⟨mA,⟨od,es,ep,e,c⟩,r⟩:=x; exact⟨mA,⟨od,es,ep,k _ _ (.inl rfl) e,c⟩,r⟩
 | L6 lo hi=>obtain⟨t,u,v,e⟩:=x; exact⟨t,u,v,k _ _ (.inl rfl) e⟩
 | jI ob u ih=>obtain⟨e,q⟩:=x; exact⟨k _ _ (.inl rfl) e,ih q⟩
 | wY q =>
  obtain⟨ps,e,t,z⟩:=x;refine⟨ps,k _ _ (.inl rfl) e,t,fun pos cv y=>?_⟩;obtain⟨c',e1,e2,c2,oc,vs,tq,e3,e4,r⟩:=z pos cv y;cases e3;exact⟨c',e1,ho _ e2,c',oc,vs,tq,rfl,k _ _ (.inr e2) e4,r⟩
 | met f y =>
  have e:h.get? a=some (rL (.ref f) (.ref y)):=x;show h'.get? a=some (rL (.ref f) (.ref y));exact k a _ (.inl rfl) e
 | ext φ=>obtain⟨p,⟨o,e⟩,st⟩:=x; exact⟨st _ _ p fun o q=>k _ _ (.inl rfl) q,⟨o,k _ _ (.inl rfl) e⟩,st⟩
theorem ow.lt(x:ow P w H h)(e:H a=some o):a < h.objs.size:=(x a o e).lt
theorem ow.fresh(x:ow P w H h)(e:h.objs.size<=a):H a=none:=by
 cases q:H a with
 | none=>rfl
 | some u=>exact absurd (a6 (x.lt q) e) (cS _)
theorem ow.kept(x:ow P w H h)(k:∀ b u,h.get? b=some u->h'.get? b=some u):ow P w H h':=fun a o e =>
 (x a o e).ke (fun b u _ q=>k b u q) (fun _ q=>q) fun _ _ q=>q
theorem ow.laid(x:ow P w H h)(k:∀ b u,h.get? b=some u->h'.get? b=some u)(hp:h.objs.size<=a)(new:eQ P w (upd H a o) h' a o):ow P w (upd H a o) h':=fun b u e=>by
 have hn:=x.fresh hp;by_cases hb:b=a
 ·subst hb; rw [cq] at e; cases e; exact new
 ·rw [bw hb] at e;exact(x b u e).ke (fun c v _ q=>k c v q) (fun c q=>by rw [bw (bQ q hn)]; exact q) fun c xs q=>by rw [bw (bQ q hn)]; exact q
end
noncomputable def Rd(H:Hp)(a:Addr)(u:HO):Prop:=H a=some u\/∃ o,H a=some (.jI o u)
theorem Rd.ok{P:bf}{w:World}{H:Hp}{h:Heap}{a:Addr}{u:HO}(r:Rd H a u)(x:ow P w H h):eQ P w H h a u:=by
 rcases r with r | ⟨o,r⟩
 ·exact x a u r
 ·obtain⟨_,q⟩:=x a _ r;exact q
noncomputable def LW:Option HO->Prop
 | some (.lst _)=>True
 | some (.dK _)=>True
 | some (.dT _)=>True
 | some (.set _ _)=>True
 | some (.ins _ _ _)=>True
 | some (.ext _)=>True
 | _=>False
section
variable {P:bf} {w:World} {H:Hp} {h h':Heap} {x e:Addr} {o':HO}
theorem ow.write(ok:ow P w H h)(mu:LW (H x))(he:e=x\/H e=some (.own x))(k:∀ b u,b≠e->h.get? b=some u->h'.get? b=some u)(Kc:∃ u,h'.get? e=some u)
  (new:eQ P w (upd H x o') h' x o'):ow P w (upd H x o') h':=fun b u q=>by
 have KU:∀ c y,H c=some (.own y)->c≠x:=fun c y r z=>by subst z; rw [r] at mu; exact mu
 have NH:∀ c xs,H c=some (.tup xs)->c≠x:=fun c xs r z=>by subst z; rw [r] at mu; exact mu
 by_cases hb:b=x
 ·subst hb; rw [cq] at q; cases q; exact new
 ·rw [bw hb] at q;by_cases Jz:b=e
  ·have q':H b=some (.own x):=by
    rcases he with z | z
    ·exact absurd (Jz.trans z) hb
    ·rw [Jz]; exact z
   rw [q] at q'; cases q';obtain⟨v,hv⟩:=Kc;exact⟨v,by rw [Jz]; exact hv⟩
  ·refine(ok b u q).ke (fun c v hc r=>k c v ?_ r) (fun c r=>by rw [bw (KU c b r)]; exact r) fun c xs r=>by rw [bw (NH c xs r)]; exact r
   rcases hc with rfl | hc
   ·exact Jz
   ·rintro rfl;rcases he with z | z
    ·exact KU c b hc z
    ·rw [hc] at z; cases z; exact hb rfl
end
structure Un(fs ex:List Addr)(H H':Hp)(h h':Heap):Prop where
 keep:∀ b o,h.get? b=some o->H b=none->b∉fs->b∉ex->h'.get? b=some o
 slot:∀ b o,h.get? b=some o->H b=none->b∈fs->b∉ex->∃ sl,h'.get? b=some { o with slots:=sl }
 free:∀ b o,h.get? b=some o->H b=none->b∉ex->H' b=none
 there:∀ b o,h.get? b=some o->b∉ex->∃ o',h'.get? b=some o'
 t8:∀ b xs,H b=some (.tup xs)->H' b=some (.tup xs)
 sP:∀ b o u,H b=some (.jI o u)->H' b=some (.jI o u)
 pV:∀ b q,H b=some (.wY q)->H' b=some (.wY q)
section
variable {fs TU ex TX:List Addr} {H H1 H2:Hp} {h h1 h2 h':Heap} {a x e:Addr} {o:HO}
theorem Un.any(u:Un fs ex H H1 h h1){b:Addr}{ob:Obj}(q:h.get? b=some ob)(n:H b=none)(hx:b∉ex):∃ sl,h1.get? b=some { ob with slots:=sl }:=by
 by_cases hb:b∈fs
 ·exact u.slot b ob q n hb hx
 ·exact⟨ob.slots,u.keep b ob q n hb hx⟩
theorem Un.kept(k:∀ b u,h.get? b=some u->h'.get? b=some u):Un fs ex H H h h' :=
 ⟨fun b ob q _ _ _=>k b ob q,fun b ob q _ _ _=>⟨ob.slots,k b ob q⟩,fun _ _ _ n _=>n,fun b ob q _=>⟨ob,k b ob q⟩,fun _ _ q=>q,fun _ _ _ q=>q,fun _ _ q=>q⟩
theorem Un.refl:Un fs ex H H h h:=Un.kept fun _ _ q=>q
theorem Un.laid(k:∀ b u,h.get? b=some u->h'.get? b=some u)(hp:h.objs.size<=a)(hn:H a=none):Un fs ex H (upd H a o) h h' where
 keep:=fun b u q _ _ _=>k b u q
 slot:=fun b u q _ _ _=>⟨u.slots,k b u q⟩
 free:=fun b u q n _=>by rw [bw (ba (a6 (aH q) hp))]; exact n
 there:=fun b u q _=>⟨u,k b u q⟩
 t8:=fun b xs q=>by rw [bw (bQ q hn)]; exact q
 sP:=fun b u xs q=>by rw [bw (bQ q hn)]; exact q
 pV:=fun b ps q=>by rw [bw (bQ q hn)]; exact q
theorem Un.write(mu:LW (H x))(he:e=x\/H e=some (.own x))(k:∀ b u,b≠e->h.get? b=some u->h'.get? b=some u)(Kc:∃ u,h'.get? e=some u):Un fs ex H (upd H x o) h h':=by
 have hx:∀ b,H b=none->b≠x:=fun b n z=>by subst z; rw [n] at mu; exact mu
 have hb:∀ b,H b=none->b≠e:=fun b n z=>by
  subst z;rcases he with r | r
  ·exact hx b n r
  ·rw [n] at r; cases r
 have hm:∀ b u,H b=some u->¬ LW (some u)->b≠x:=fun b u q nm z=>by subst z; rw [q] at mu; exact nm mu
 refine⟨fun b u q n _ _=>k b u (hb b n) q,fun b u q n _ _=>⟨u.slots,k b u (hb b n) q⟩,fun b u q n _=>by rw [bw (hx b n)]; exact n,fun b u q _=>?_,
  fun b xs q=>by rw [bw (hm b _ q fun z=>z)]; exact q,fun b u xs q=>by rw [bw (hm b _ q fun z=>z)]; exact q,fun b ps q=>by rw [bw (hm b _ q fun z=>z)]; exact q⟩
 by_cases Jz:b=e
 ·subst Jz; exact Kc
 ·exact⟨u,k b u Jz q⟩
end
noncomputable def L1(h:Heap)(H:Hp):List Addr:=(bK h.objs.size).filter fun a=>(H a).isSome
noncomputable def ui(h:Heap)(H:Hp):Heap:=PySem.W.hideAll h (L1 h H)
theorem Cd(h:Heap)(H:Hp):(ui h H).objs.size=h.objs.size:=PySem.W.hideAll_size _ _
theorem EI{h:Heap}{H:Hp}{b:Addr}{o:Obj}(e:h.get? b=some o)(n:H b=none):(ui h H).get? b=some o :=
 PySem.W.hideAll_get _ e fun hm=>by
  have q:(H b).isSome=true:=(List.mem_filter.mp hm).2;rw [n] at q; simp at q
theorem GU{h:Heap}{H:Hp}{b:Addr}{o:Obj}(e:(ui h H).get? b=some o):h.get? b=some o/\H b=none:=by
 have e':h.get? b=some o:=PySem.W.of_hideAll (L1 h H) e;refine⟨e',?_⟩;cases q:H b with
 | none=>rfl
 | some x =>
  have hm:b∈L1 h H:=List.mem_filter.mpr ⟨List.mem_range.mpr (aH e'),by simp [q]⟩;have z:(ui h H).get? b=none:=PySem.W.hideAll_none (L1 h H) hm;rw [z] at e; cases e
noncomputable def lh(g h:Heap)(L:Addr):List (Addr×Obj):=(bK h.objs.size).filterMap fun a=>if a=L\/(g.get? a).isSome=true then none else (h.get? a).map fun o=>(a,o)
theorem jM{g h:Heap}{L a:Addr}{o:Obj}(h1:a≠L)(h2:g.get? a=none)(h3:h.get? a=some o):(a,o)∈lh g h L :=
 List.mem_filterMap.mpr ⟨a,List.mem_range.mpr (aH h3),by simp [h1,h2,h3]⟩
theorem sg{g h:Heap}{L:Addr}{p:Addr×Obj}(hp:p∈lh g h L):p.1≠L/\g.get? p.1=none/\h.get? p.1=some p.2:=by
 obtain⟨b,_,e⟩:=List.mem_filterMap.mp hp;split at e
 ·cases e
 ·rename_i hn;cases q:h.get? b with
  | none=>rw [q] at e; simp at e
  | some u =>
   rw [q] at e;simp only [Option.map_some,Option.some.injEq] at e;subst e;refine⟨fun z=>hn (.inl z),?_,q⟩;show g.get? b=none;cases r:g.get? b with
   | none=>rfl
   | some v=>exact(hn (.inr (by simp [r]))).elim
noncomputable def rest(g h:Heap)(L d:Addr):List (Addr×Obj):=(lh g h L).filter fun p=>decide (p.1≠d)
theorem si{g h:Heap}{L:Addr}:News g L h (lh g h L):=fun p hp=>let ⟨a,b,c⟩:=sg hp; ⟨c,a,b⟩
structure Mod(K:ag)(mg:Str->Option Value)(base:Heap):Prop where
 Md:K.In base
 glob:base.Ns bp mg
 blt:∃ mb,base.Ns oA mb/\∀ x:Str,x≠"__name__"->mb x=cF x
 nolimit:base.NoLimit
structure Cx where
 prog:bf
 w:World
 K:ag
 mg:Str->Option Value
 base:Heap
 A:bW
 N:List Str
 jG:ak
 Af:Hp
 env:Env
 outer:List Env
 stack:List Env
 ex:List Addr
 fn:Str->Bool
 calm:Bool
 pn:List (Addr×Obj)
 xe:Value->ak->Prop
noncomputable def CS(l:List Env):List Addr:=l.filterMap (·.frame)
noncomputable abbrev Cx.fs(X:Cx):List Addr:=CS X.outer
noncomputable def MD(sc:Scope)(x:Str):Prop:=sc.names.lookup x=some .local\/sc.names.lookup x=some .cell\/sc.names.lookup x=some .free
noncomputable def Loc(sc:Scope)(x:Str):Prop:=sc.names.lookup x=some .local\/sc.names.lookup x=some .cell
noncomputable def Look(env:Env)(h:Heap)(m:Str->Option Value)(x:Str)(u:Value):Prop :=
 (env.kindOf x=some .local/\m x=some u)\/((env.kindOf x=some .cell\/env.kindOf x=some .free)/\∃ c,env.cells.lookup x=some c/\h.IsCell c (some u))
structure Cx.Ok(X:Cx):Prop where
 mod:Mod X.K X.mg X.base
 kind:X.env.scope.kind=.function
 glob:X.env.globals=bp
 blt:X.env.builtins=oA
 above:X.jG.heap.objs.size<=X.env.locals
 inj:∀ x y c,X.env.cells.lookup x=some c->X.env.cells.lookup y=some c->x=y
 has:∀ x,(X.env.kindOf x=some .cell\/X.env.kindOf x=some .free)->∃ c,X.env.cells.lookup x=some c
 LN:∀ x c,X.fn x=true->X.env.cells.lookup x=some c->X.jG.heap.objs.size<=c
 hd:X.calm=true->X.A.handled=none
 frames:X.A.frames=some X.stack
 L4:X.stack=X.outer\/(X.stack=X.env :: X.outer/\X.env.frame=some X.env.locals)
 Mz:∀ b∈X.ex,b≠X.env.locals/\∀ x c,X.env.cells.lookup x=some c->c≠b
 bs:∀ b o,X.base.get? b=some o->X.jG.heap.get? b=some o/\X.Af b=none
 Hx:X.base.objs.size<=X.jG.heap.objs.size
 Ed:∀ b o,X.base.get? b=some o->b∉X.ex
 EY:∀ b∈X.ex,b∉X.fs
 sO:X.jG.heap.FunFrames X.base X.outer
 Kf:∀ b∈X.fs,X.Af b=none
structure Inv(X:Cx)(pins:List (Addr×Obj))(σ:List (Option V))(H:Hp)(s:ak):Prop where
 ok:X.Ok
 os:s.os=X.jG.os
 bare:vD s.gens
 base:Un X.fs X.ex X.Af H X.jG.heap s.heap
 loc:∃ m,s.heap.Ns X.env.locals m/\∀ (i:Nat) (x:Str) (v:V),X.N[i]?=some x->σ[i]?=some (some v)->MD X.env.scope x->∃ u,RelV v u/\Look X.env s.heap m x u
 cell:∀ x c,X.env.cells.lookup x=some c->∃ v,s.heap.IsCell c v
 free:H X.env.locals=none
 lE:∀ x c,X.env.cells.lookup x=some c->H c=none
 pin:∀ p∈X.pn++pins,s.heap.get? p.1=some p.2/\H p.1=none/\p.1≠X.env.locals/\p.1∉X.fs/\∀ v,p.2.data≠.cell v
 bY:ow X.prog X.w H s.heap
 len:σ.length=X.N.length
section
variable {X:Cx} {pins:List (Addr×Obj)} {σ:List (Option V)} {H H':Hp} {s:ak} {h':Heap}
theorem Cx.Ok.NK(ok:X.Ok){b:Addr}{o:Obj}(e:X.base.get? b=some o):b∉X.fs:=fun hb=>by
 have:=(ok.sO.mem hb).1;rw [e] at this; cases this
theorem Inv.bs(I:Inv X pins σ H s):∀ b o,X.base.get? b=some o->s.heap.get? b=some o/\H b=none:=fun b o e =>
 ⟨I.base.keep b o (I.ok.bs b o e).1 (I.ok.bs b o e).2 (I.ok.NK e) (I.ok.Ed b o e),I.base.free b o (I.ok.bs b o e).1 (I.ok.bs b o e).2 (I.ok.Ed b o e)⟩
theorem Inv.bk(I:Inv X pins σ H s):∀ b o,X.base.get? b=some o->s.heap.get? b=some o:=fun b o e=>(I.bs b o e).1
theorem Inv.mod(I:Inv X pins σ H s):Mod X.K X.mg X.base:=I.ok.mod
theorem Inv.A7(I:Inv X pins σ H s):X.K.In s.heap:=I.ok.mod.Md.keeps I.bk
theorem Inv.nolimit(I:Inv X pins σ H s):s.heap.NoLimit:=I.ok.mod.nolimit.keeps I.bk
theorem Inv.fr(I:Inv X pins σ H s):∃ m,Fr X.base X.env.locals s.heap m :=
 let ⟨m,hn,_⟩:=I.loc
 ⟨m,hn,I.bk,bx I.ok.Hx I.ok.above⟩
theorem Inv.lt(I:Inv X pins σ H s):X.env.locals < s.heap.objs.size:=let ⟨_,hn,_⟩:=I.loc; hn.lt
theorem Inv.sz(I:Inv X pins σ H s):X.jG.heap.objs.size<=s.heap.objs.size:=bx I.ok.above (FU I.lt)
theorem Inv.NJ(I:Inv X pins σ H s){a:Addr}(h:s.heap.objs.size<=a):a∉X.fs:=fun hb=>by
 obtain⟨_,o,ho,_⟩:=I.ok.sO.mem hb;exact absurd (a6 (aH ho) (bx I.sz h)) (cS _)
theorem Inv.JL(I:Inv X pins σ H s):∀ x c,X.env.cells.lookup x=some c->c≠X.env.locals:=fun x c e z=>by
 obtain⟨v,o,ho,hd⟩:=I.cell x c e;obtain⟨m,⟨o',es,ep,EE,x2,_⟩,_⟩:=I.loc;rw [z,EE] at ho; cases ho; rw [x2] at hd; cases hd
theorem Inv.sO(I:Inv X pins σ H s):s.heap.FunFrames X.base X.outer:=by
 have all:∀ (l:List Env),(∀ b∈CS l,b∈X.fs)->X.jG.heap.FunFrames X.base l->s.heap.FunFrames X.base l:=by
  intro l;induction l with
  | nil=>intro _ _; trivial
  | cons env r ih =>
   intro hs hl;obtain⟨hk,⟨L,o,hf,hn,ho,hd⟩,hr⟩:=hl;have hL:L∈X.fs:=hs L (by unfold CS; rw [q5,hf]; exact a0);obtain⟨sl,e⟩:=I.base.slot L o ho (I.ok.Kf L hL) hL fun z=>I.ok.EY L z hL;exact⟨hk,⟨L,_,hf,hn,e,hd⟩,ih (fun b hb=>hs b (by unfold CS; rw [q5,hf]; exact aw _ hb)) hr⟩
 exact all X.outer (fun _ hb=>hb) I.ok.sO
theorem Inv.stack(I:Inv X pins σ H s):s.heap.FunFrames X.base X.stack:=by
 rcases I.ok.L4 with e | ⟨e,hf⟩
 ·rw [e]; exact I.sO
 ·rw [e];obtain⟨m,hn,_⟩:=I.loc;refine .cons (by rw [I.ok.kind]; decide) hf hn ?_ I.sO;exact FX (bx I.ok.Hx I.ok.above)
theorem Inv.zf(I:Inv X pins σ H s):∀ b∈CS X.stack,b∈X.env.locals :: X.fs:=fun b hb=>by
 rcases I.ok.L4 with e | ⟨e,hf⟩
 ·rw [e] at hb; exact aw _ hb
 ·rw [e] at hb;unfold CS at hb;rw [q5,hf] at hb;exact hb
theorem Inv.AD(I:Inv X pins σ H s):∀ b∈CS X.stack,H b=none:=fun b hb=>by
 rcases List.mem_cons.mp (I.zf b hb) with e | hb
 ·rw [e]; exact I.free
 ·obtain⟨_,o,ho,_⟩:=I.ok.sO.mem hb;exact I.base.free b o ho (I.ok.Kf b hb) fun z=>I.ok.EY b z hb
theorem Inv.step{g':Array GenState}{t':Nat}{d':Drawn}{ch:List Addr}(I:Inv X pins σ H s)
  (HY:∀ b∈ch,(b∈X.ex\/X.jG.heap.objs.size<=b)/\b≠X.env.locals/\(∀ x c,X.env.cells.lookup x=some c->c≠b)/\∀ p∈X.pn++pins,p.1≠b)
  (keep:∀ b o,b≠X.env.locals->b∉X.fs->b∉ch->s.heap.get? b=some o->H b=none->h'.get? b=some o)
  (slot:∀ b o,b≠X.env.locals->b∈X.fs->b∉ch->s.heap.get? b=some o->H b=none->∃ sl,h'.get? b=some { o with slots:=sl }) (free:∀ b o,b∉ch->s.heap.get? b=some o->H b=none->H' b=none)
  (there:∀ b o,b∉ch->s.heap.get? b=some o->∃ o',h'.get? b=some o')
  (t8:∀ b xs,H b=some (.tup xs)->H' b=some (.tup xs)) (sP:∀ b o u,H b=some (.jI o u)->H' b=some (.jI o u)) (pV:∀ b q,H b=some (.wY q)->H' b=some (.wY q))
  (ns:∀ m,s.heap.Ns X.env.locals m->h'.Ns X.env.locals m) (bY:ow X.prog X.w H' h') (hg:vD g') :
  Inv X pins σ H' { s with heap:=h',gens:=g',drawn:=d',toks:=t' }:=by
 have Px:∀ b o,X.jG.heap.get? b=some o->b≠X.env.locals:=fun b o e=>ba (a6 (aH e) I.ok.above);have Mb:∀ b o,X.jG.heap.get? b=some o->b∉X.ex->b∉ch:=fun b o e hx hb=>by
  rcases (HY b hb).1 with z | z
  ·exact hx z
  ·exact absurd (a6 (aH e) z) (cS _)
 have cellK:∀ x c,X.env.cells.lookup x=some c->∀ v,s.heap.IsCell c v->h'.IsCell c v:=fun x c e v ⟨o,ho,hd⟩=>by
  have K0:c∉ch:=fun z=>(HY c z).2.2.1 x c e rfl;by_cases hc:c∈X.fs
  ·obtain⟨sl,q⟩:=slot c o (I.JL x c e) hc K0 ho (I.lE x c e);exact⟨_,q,hd⟩
  ·exact⟨o,keep c o (I.JL x c e) hc K0 ho (I.lE x c e),hd⟩
 refine⟨I.ok,I.os,hg,⟨fun b o e n hb hx=>?_,fun b o e n hb hx=>?_,fun b o e n hx=>?_,fun b o e hx=>?_,fun b xs e=>t8 b xs (I.base.t8 b xs e),fun b o xs e=>sP b o xs (I.base.sP b o xs e),fun b ps e=>?_⟩,?_,fun x c e=>?_,?_,fun x c e=>?_,fun p hp=>?_,bY,I.len⟩
 ·exact keep b o (Px b o e) hb (Mb b o e hx) (I.base.keep b o e n hb hx) (I.base.free b o e n hx)
 ·obtain⟨sl,e1⟩:=I.base.slot b o e n hb hx;obtain⟨QB,e2⟩:=slot b _ (Px b o e) hb (Mb b o e hx) e1 (I.base.free b o e n hx);exact⟨QB,e2⟩
 ·obtain⟨o',e1⟩:=I.base.there b o e hx;exact free b o' (Mb b o e hx) e1 (I.base.free b o e n hx)
 ·obtain⟨o',e1⟩:=I.base.there b o e hx;exact there b o' (Mb b o e hx) e1
 ·exact pV b _ (I.base.pV b ps e)
 ·obtain⟨m,hn,hl⟩:=I.loc;refine⟨m,ns m hn,fun i x v e1 e2 e3=>?_⟩;obtain⟨u,r,l⟩:=hl i x v e1 e2 e3;refine⟨u,r,?_⟩;rcases l with l | ⟨k,c,e,z⟩
  ·exact .inl l
  ·exact .inr ⟨k,c,e,cellK x c e _ z⟩
 ·obtain⟨v,z⟩:=I.cell x c e;exact⟨v,cellK x c e v z⟩
 ·obtain⟨m,⟨o,_,_,ho,_⟩,_⟩:=I.loc;exact free _ o (fun z=>(HY _ z).2.1 rfl) ho I.free
 ·obtain⟨v,o,ho,hd⟩:=I.cell x c e;exact free c o (fun z=>(HY c z).2.2.1 x c e rfl) ho (I.lE x c e)
 ·obtain⟨e,n,ne,nf,d⟩:=I.pin p hp;have K0:p.1∉ch:=fun z=>(HY p.1 z).2.2.2 p hp rfl;exact⟨keep p.1 p.2 ne nf K0 e n,free p.1 p.2 K0 e n,ne,nf,d⟩
theorem Inv.un{t':Nat}(I:Inv X pins σ H s)(u:Un X.fs [] H H' s.heap h')(bY:ow X.prog X.w H' h'):Inv X pins σ H' { s with heap:=h',toks:=t' }:=by
 obtain⟨m,⟨o,es,ep,ho,r⟩,_⟩:=id I.loc;obtain⟨sl,hL⟩:=u.any ho I.free (by simp);exact I.step (g':=s.gens) (d':=s.drawn) (ch:=[]) (fun _ z=>nomatch z) (fun b o _ hb _ e n=>u.keep b o e n hb (by simp)) (fun b o _ hb _ e n=>u.slot b o e n hb (by simp)) (fun b o _ e n=>u.free b o e n (by simp)) (fun b o _ e=>u.there b o e (by simp)) u.t8 u.sP u.pV (fun m' hm=>by
  obtain⟨o',OW,OY,EE,r'⟩:=hm;rw [ho] at EE; cases EE;exact⟨_,OW,OY,hL,r'⟩) bY I.bare
theorem Inv.call{g':Array GenState}{t':Nat}{d':Drawn}{ch:List Addr}(I:Inv X pins σ H s)(u:Un (CS X.stack) ch H H' s.heap h')(bY:ow X.prog X.w H' h')(hg:vD g')
  (HY:∀ b∈ch,(b∈X.ex\/X.jG.heap.objs.size<=b)/\b≠X.env.locals/\(∀ x c,X.env.cells.lookup x=some c->c≠b)/\∀ p∈X.pn++pins,p.1≠b) :
  Inv X pins σ H' { s with heap:=h',gens:=g',drawn:=d',toks:=t' }:=by
 obtain⟨m,⟨o,es,ep,ho,r⟩,_⟩:=id I.loc;obtain⟨sl,hL⟩:=u.any ho I.free fun z=>(HY _ z).2.1 rfl;exact I.step (ch:=ch) HY (fun b o hL hb hc e n=>u.keep b o e n (fun z=>(List.mem_cons.mp (I.zf b z)).elim hL hb) hc) (fun b o _ _ hc e n=>u.any e n hc) (fun b o hc e n=>u.free b o e n hc) (fun b o hc e=>u.there b o e hc) u.t8 u.sP u.pV (fun m' hm=>by
  obtain⟨o',OW,OY,EE,r'⟩:=hm;rw [ho] at EE; cases EE;exact⟨_,OW,OY,hL,r'⟩) bY hg
theorem Inv.turned{t':Nat}{it:Addr}(I:Inv X pins σ H s)(k:∀ b o,b≠it->s.heap.get? b=some o->h'.get? b=some o)(hn:H it=none)(hL:it≠X.env.locals)
  (h1:it∈X.ex\/X.jG.heap.objs.size<=it) (h2:∀ x c,X.env.cells.lookup x=some c->c≠it) (h3:∀ p∈X.pn++pins,p.1≠it):Inv X pins σ H { s with heap:=h',toks:=t' }:=by
 have Pw:∀ b u,H b=some u->b≠it:=fun b u e z=>by rw [z,hn] at e; cases e
 refine I.step (g':=s.gens) (d':=s.drawn) (ch:=[it]) (fun b hb=>?_) (fun b o _ _ hc e _=>k b o (fun z=>hc (by simp [z])) e) (fun b o _ _ hc e _=>⟨o.slots,k b o (fun z=>hc (by simp [z])) e⟩) (fun _ _ _ _ n=>n)
  (fun b o hc e=>⟨o,k b o (fun z=>hc (by simp [z])) e⟩) (fun _ _ e=>e) (fun _ _ _ e=>e) (fun _ _ e=>e) (fun m hm=>?_) (fun b u e=>?_) I.bare
 ·have e:b=it:=by simpa using hb
  subst e;exact⟨h1,hL,h2,h3⟩
 ·obtain⟨o,es,ep,ho,r⟩:=hm;exact⟨o,es,ep,k _ o (j8 hL) ho,r⟩
 ·refine(I.bY b u e).ke (fun c v hc q=>k c v ?_ q) (fun _ q=>q) fun _ _ q=>q;rcases hc with z | z
  ·rw [z]; exact Pw b u e
  ·exact Pw c _ z
theorem Inv.tok(I:Inv X pins σ H s)(t:Nat):Inv X pins σ H { s with toks:=t }:=I.un (h':=s.heap) (t':=t) Un.refl I.bY
theorem Inv.kept{t':Nat}(I:Inv X pins σ H s)(k:∀ b u,s.heap.get? b=some u->h'.get? b=some u):Inv X pins σ H { s with heap:=h',toks:=t' }:=I.un (Un.kept k) (I.bY.kept k)
theorem Inv.laid{a:Addr}{o:HO}{t':Nat}(I:Inv X pins σ H s)(k:∀ b u,s.heap.get? b=some u->h'.get? b=some u)(hp:s.heap.objs.size<=a)(new:eQ X.prog X.w (upd H a o) h' a o) :
  Inv X pins σ (upd H a o) { s with heap:=h',toks:=t' }:=I.un (Un.laid k hp (I.bY.fresh hp)) (I.bY.laid k hp new)
theorem Inv.write{x e:Addr}{o:HO}{t':Nat}(I:Inv X pins σ H s)(mu:LW (H x))(he:e=x\/H e=some (.own x))(k:∀ b u,b≠e->s.heap.get? b=some u->h'.get? b=some u)(Kc:∃ u,h'.get? e=some u)
  (new:eQ X.prog X.w (upd H x o) h' x o):Inv X pins σ (upd H x o) { s with heap:=h',toks:=t' }:=I.un (Un.write mu he k Kc) (I.bY.write mu he k Kc new)
theorem Inv.AS{HM:List (Addr×Obj)}(I:Inv X pins σ H s)(h:∀ p∈HM,s.heap.get? p.1=some p.2/\H p.1=none/\p.1≠X.env.locals/\p.1∉X.fs/\∀ v,p.2.data≠.cell v):Inv X HM σ H s :=
 ⟨I.ok,I.os,I.bare,I.base,I.loc,I.cell,I.free,I.lE,fun p hp=>(List.mem_append.mp hp).elim (fun z=>I.pin p (gz _ z)) (h p),I.bY,I.len⟩
theorem xI{N:List Str}(hN:N.Nodup){i j:Nat}{x:Str}(a:N[i]?=some x)(b:N[j]?=some x):i=j:=by
 obtain⟨h1,e1⟩:=List.getElem?_eq_some_iff.mp a;obtain⟨h2,e2⟩:=List.getElem?_eq_some_iff.mp b;exact(List.getElem_inj hN).mp (e1.trans e2.symm)
theorem uP{M:Model}{A:bW}{E:Value->ak->Prop}{i:Nat}{x:Str}{v:V}{u:Value}{Q:Unit->ak->Prop}(I:Inv X pins σ H s)(hN:X.N.Nodup)(hi:X.N[i]?=some x)(hx:Loc X.env.scope x)(r:RelV v u)
  (h:∀ s',Inv X pins (σ.set i (some v)) H s'->(∃ a,lL a s.heap s'.heap/\(a=X.env.locals\/X.env.cells.lookup x=some a))->Q () s') (hf:autoParam (X.fn x=true\/X.env.scope.names.lookup x=some .local) Ao._auto_1):wpAny M A (storeName X.env x u) Q E s:=by
 obtain⟨m,hn,hl⟩:=id I.loc;have OD:(X.env.scope.kind == .class||(X.env.scope.kind == .module&&X.env.locals != X.env.globals))=false:=by rw [I.ok.kind]; rfl
 have Lm:i < σ.length:=by rw [I.len]; exact(List.getElem?_eq_some_iff.mp hi).1
 have JL:=I.JL;have tracked:∀ {a:Addr} {h':Heap},(∃ o,s.heap.get? a=some o/\H a=none)->lL a s.heap h'->ow X.prog X.w H h':=fun {a h'} ha hs b ob e=>by
  obtain⟨_,_,lD⟩:=ha;refine(I.bY b ob e).ke (fun c w' hc q=>(hs.2 c ?_).trans q) (fun _ q=>q) fun _ _ q=>q;rintro rfl;rcases hc with rfl | hc
  ·rw [lD] at e; cases e
  ·rw [lD] at hc; cases hc
 rcases hx with hk | hk
 ·refine wpAny_storeName_local hk hn (fun h' Mm hs=>?_) OD;obtain⟨oL,_,_,RC,_⟩:=id hn;refine h _ ⟨I.ok,I.os,I.bare,⟨fun b o e n hb hx=>?_,fun b o e n hb hx=>?_,I.base.free,fun b o e hx=>?_,I.base.t8,I.base.sP,I.base.pV⟩,⟨_,Mm,fun j y v' e1 e2 e3=>?_⟩,fun y c e=>?_,I.free,I.lE,fun p hp=>?_,tracked ⟨oL,RC,I.free⟩ hs,by simpa using I.len⟩ ⟨_,hs,.inl rfl⟩
  ·exact(hs.2 b (ba (a6 (aH e) I.ok.above))).trans (I.base.keep b o e n hb hx)
  ·obtain⟨sl,e1⟩:=I.base.slot b o e n hb hx;exact⟨sl,(hs.2 b (ba (a6 (aH e) I.ok.above))).trans e1⟩
  ·obtain⟨o',e1⟩:=I.base.there b o e hx;exact⟨o',(hs.2 b (ba (a6 (aH e) I.ok.above))).trans e1⟩
  ·by_cases hj:j=i
   ·subst hj;rw [hi] at e1; cases e1;rw [fB Lm] at e2;cases e2;exact⟨u,r,.inl ⟨hk,by simp⟩⟩
   ·rw [gB (j8 hj)] at e2;obtain⟨u',r',q⟩:=hl j y v' e1 e2 e3;refine⟨u',r',?_⟩;rcases q with ⟨k,e⟩ | ⟨k,c,e,z⟩
    ·refine .inl ⟨k,?_⟩;have:y≠x:=fun e=>hj (xI hN e1 (e ▸ hi));simp [this,e]
    ·exact .inr ⟨k,c,e,z.sameBut hs (JL y c e)⟩
  ·obtain⟨w',z⟩:=I.cell y c e;exact⟨w',z.sameBut hs (JL y c e)⟩
  ·obtain⟨e,n,ne,nf,d⟩:=I.pin p hp;exact⟨(hs.2 p.1 ne).trans e,n,ne,nf,d⟩
 ·have Ow:X.fn x=true:=by
   rcases hf with z | z
   ·exact z
   ·rw [z] at hk; cases hk
  obtain⟨c,hc⟩:=I.ok.has x (.inl hk);obtain⟨w',z⟩:=I.cell x c hc;refine wpAny_storeName_cell I.ok.kind hk hc z (fun h' Lw hs=>?_);obtain⟨oc,J9,Oj⟩:=id z;refine h { s with heap:=h' } ⟨I.ok,I.os,I.bare,⟨fun b o e n hb hx=>?_,fun b o e n hb hx=>?_,I.base.free,fun b o e hx=>?_,I.base.t8,I.base.sP,I.base.pV⟩,⟨m,hn.sameBut hs (j8 (JL x c hc)),fun j y v' e1 e2 e3=>?_⟩,fun y c' e=>?_,I.free,I.lE,fun p hp=>?_,tracked ⟨oc,J9,I.lE x c hc⟩ hs,by simpa using I.len⟩ ⟨c,hs,.inr hc⟩
  ·exact(hs.2 b (ba (a6 (aH e) (I.ok.LN x c Ow hc)))).trans (I.base.keep b o e n hb hx)
  ·obtain⟨sl,e1⟩:=I.base.slot b o e n hb hx;exact⟨sl,(hs.2 b (ba (a6 (aH e) (I.ok.LN x c Ow hc)))).trans e1⟩
  ·obtain⟨o',e1⟩:=I.base.there b o e hx;exact⟨o',(hs.2 b (ba (a6 (aH e) (I.ok.LN x c Ow hc)))).trans e1⟩
  ·by_cases hj:j=i
   ·subst hj;rw [hi] at e1; cases e1;rw [fB Lm] at e2;cases e2;exact⟨u,r,.inr ⟨.inl hk,c,hc,Lw⟩⟩
   ·rw [gB (j8 hj)] at e2;obtain⟨u',r',q⟩:=hl j y v' e1 e2 e3;refine⟨u',r',?_⟩;rcases q with q | ⟨k,c',e,z'⟩
    ·exact .inl q
    ·refine .inr ⟨k,c',e,z'.sameBut hs ?_⟩;rintro rfl;exact hj (xI hN e1 (I.ok.inj _ _ _ e hc ▸ hi))
  ·by_cases PX:c'=c
   ·subst PX; exact⟨_,Lw⟩
   ·obtain⟨w2,z2⟩:=I.cell y c' e;exact⟨w2,z2.sameBut hs PX⟩
  ·obtain⟨e,n,ne,nf,d⟩:=I.pin p hp;refine⟨(hs.2 p.1 ?_).trans e,n,ne,nf,d⟩;intro q;rw [q,J9] at e;have q':oc=p.2:=aW e;exact d w' (by rw [<-q']; exact Oj)
theorem xm{M:Model}{A:bW}{E:Value->ak->Prop}{i:Nat}{x:Str}{v:V}{u:Value}{Q:Unit->ak->Prop}(I:Inv X pins σ H s)(hN:X.N.Nodup)(hi:X.N[i]?=some x)(hx:Loc X.env.scope x)(r:RelV v u)
  (h:∀ s',Inv X pins (σ.set i (some v)) H s'->Q () s') (hf:autoParam (X.fn x=true\/X.env.scope.names.lookup x=some .local) Ao._auto_1):wpAny M A (storeName X.env x u) Q E s :=
 uP I hN hi hx r (fun s' I' _=>h s' I') hf
end
noncomputable abbrev XK:=Value->Option Addr->Hp->Prop
noncomputable abbrev St:=List (Option V)
noncomputable abbrev VK:=V->Hp->Prop
noncomputable abbrev TE:=St->Hp->VK->Prop
noncomputable abbrev TT:=St->Hp->(Bool->Hp->Prop)->Prop
noncomputable abbrev TA:=St->Hp->(List V->Hp->Prop)->Prop
structure Ends where
 nx:St->Hp->Prop
 rt:VK
 bk:St->Hp->Prop:=fun _ _=>False
 ct:St->Hp->Prop:=fun _ _=>False
noncomputable abbrev TS:=Ends->St->Hp->Prop
noncomputable def EP(X:Cx)(pins:List (Addr×Obj))(σ:St)(Q:VK)(u:Value)(s':ak):Prop:=∃ v H',Inv X pins σ H' s'/\RelV v u/\Q v H'
noncomputable def TP(X:Cx)(pins:List (Addr×Obj))(σ:St)(Q:Bool->Hp->Prop)(b:Bool)(s':ak):Prop:=∃ H',Inv X pins σ H' s'/\Q b H'
noncomputable def SP(X:Cx)(pins:List (Addr×Obj))(D:Ends)(f:Flow)(s':ak):Prop :=
 match f with
 | .next=>∃ gi H',Inv X pins gi H' s'/\D.nx gi H'
 | .brk=>∃ gi H',Inv X pins gi H' s'/\D.bk gi H'
 | .cont=>∃ gi H',Inv X pins gi H' s'/\D.ct gi H'
 | .ret u=>∃ v gi H',Inv X pins gi H' s'/\RelV v u/\D.rt v H'
noncomputable def PE(X:Cx)(e:Expr)(t:TE):Prop :=
 ∀ (pins:List (Addr×Obj)) (s:ak) (σ:St) (H:Hp) (Q:VK),Inv X pins σ H s->t σ H Q->wpAny (model X.prog X.w) X.A (eval e X.env) (EP X pins σ Q) X.xe s
noncomputable def Kh(X:Cx)(st:List Stmt)(t:TS):Prop :=
 ∀ (pins:List (Addr×Obj)) (s:ak) (σ:St) (H:Hp) (D:Ends),Inv X pins σ H s->t D σ H->wpAny (model X.prog X.w) X.A (execs st X.env) (SP X pins D) X.xe s
theorem eI{α:Type}{t:Sem α}{Q Q':α->ak->Prop}{M:Model}{A:bW}{E:Value->ak->Prop}{s:ak}(h:wpAny M A t Q E s)(hQ:∀ a s,Q a s->Q' a s):wpAny M A t Q' E s:=oz h hQ fun _ _ x=>x
section
variable {X:Cx}
noncomputable def M0(i:Nat):TE:=fun σ H Q=>∃ v,σ[i]?=some (some v)/\Q v H
noncomputable def tC(v:V):TE:=fun _ H Q=>Q v H
theorem IM {i:Nat} {x:Str} {pos:Pos} (hN:X.N[i]?=some x) (hv:MD X.env.scope x) (hd:autoParam ((x == ("__debug__" : Str))=false) Ad._auto_1) (w4:autoParam ((x == ("__classdict__" : Str))=false) Ad._auto_1):PE X (.Name x pos) (M0 i):=by
 intro pins s σ H Q I h;obtain⟨v,e,h⟩:=h;obtain⟨m,hn,hl⟩:=I.loc;obtain⟨u,r,l⟩:=hl i x v hN e hv;have fin:EP X pins σ Q u s:=⟨v,H,I,r,h⟩;rcases l with ⟨hk,hm⟩ | ⟨hk,c,hc,iZ⟩
 ·exact wpAny_Name (wpAny_loadName_local I.ok.kind hk hn hm fin) hd
 ·rcases hk with hk | hk
  ·exact wpAny_Name (wpAny_loadName_cell I.ok.kind hk hc iZ fin) hd
  ·exact wpAny_Name (wpAny_loadName_free I.ok.kind hk hc iZ fin w4) hd
theorem IP{i j pos}:PE X (.Constant (.int i) j pos) (tC (.int i)):=fun _ _ _ H _ I h=>wpAny_Constant_int ⟨.int i,H,I.tok _,⟨_,rfl⟩,h⟩
theorem KN{b j pos}:PE X (.Constant (.bool b) j pos) (tC (.bl b)):=fun _ _ _ H _ I h=>Constant_bool ⟨.bl b,H,I,rfl,h⟩
noncomputable def Gl(X:Cx)(x:Str):Prop:=X.env.kindOf x=some .globalImplicit
theorem A3{E:Value->ak->Prop}{pins:List (Addr×Obj)}{s:ak}{σ:St}{H:Hp}{x:Str}{u:Value}{pos:Pos}{Q:Value->ak->Prop}(I:Inv X pins σ H s)(hg:Gl X x)(hm:X.mg x=some u)(h:Q u s)
  (hd:autoParam ((x == ("__debug__" : Str))=false) Ad._auto_1):wpAny (model X.prog X.w) X.A (eval (.Name x pos) X.env) Q E s :=
 yH I.ok.kind hg (Calls.loadGlobal_global (by rw [I.ok.glob]; exact I.mod.glob.keeps I.bk) hm h) hd
theorem qg{E:Value->ak->Prop}{pins:List (Addr×Obj)}{s:ak}{σ:St}{H:Hp}{x:Str}{u:Value}{pos:Pos}{Q:Value->ak->Prop}(I:Inv X pins σ H s)(hg:Gl X x)(hm:X.mg x=none)(hv:cF x=some u)(h:Q u s)
  (hn:autoParam (x≠"__name__") Ad._auto_1) (hd:autoParam ((x == ("__debug__" : Str))=false) Ad._auto_1):wpAny (model X.prog X.w) X.A (eval (.Name x pos) X.env) Q E s:=by
 obtain⟨mb,h1,h2⟩:=I.mod.blt;exact yH I.ok.kind hg (Calls.loadGlobal_builtin (by rw [I.ok.glob]; exact I.mod.glob.keeps I.bk) hm (by rw [I.ok.blt]; exact h1.keeps I.bk) ((h2 x hn).trans hv) h) hd
variable {a b:Expr} {ta tb:TE} {pos:Pos}
noncomputable def tB(t:TE):TT:=fun σ H Q=>t σ H fun x H1=>∃ c,x=.bl c/\Q c H1
variable {tA Tz:TT} {rest:List Expr}
end
noncomputable def uF(K:ag)(H:Hp)(a:Addr)(xs:List V):Prop :=
 Rd H a (.lst xs) \/
  ∃ (o:Obj) (its:Array Value) (n:Nat),K.lookup a=some o/\o.cls=.type "list"/\o.dict=none/\o.data=.seq its n/\its.size<=aY/\Vals xs its.toList
noncomputable def tM(K:ag)(H:Hp)(a:Addr)(xs:List V):Prop :=
 Rd H a (.tup xs) \/
  ∃ (o:Obj) (its:Array Value) (n:Nat),K.lookup a=some o/\o.cls=.type "tuple"/\o.data=.seq its n/\its.size<=aY/\Vals xs its.toList
noncomputable def O2:Value->Option V
 | .none=>some .bX
 | .bool b=>some (.bl b)
 | .int i _=>some (.int i)
 | .str x _=>some (.str x)
 | .bytes b _=>some (.JM b)
 | .float b _=>some (.LF b)
 | .ref a=>some (.ref a)
 | .type n=>some (.ty n)
 | _=>none
theorem RelV.abs{x:V}{u:Value}(r:RelV x u):O2 u=some x:=by
 cases x with
 | bX=>cases r; rfl
 | bl _=>cases r; rfl
 | int _=>obtain⟨t,rfl⟩:=r; rfl
 | str _=>obtain⟨t,rfl⟩:=r; rfl
 | JM _=>obtain⟨t,rfl⟩:=r; rfl
 | LF _=>obtain⟨t,rfl⟩:=r; rfl
 | ref _=>cases r; rfl
 | ty _=>cases r; rfl
theorem RelV.inj{x y:V}{u:Value}(r:RelV x u)(q:RelV y u):x=y:=aW (r.abs.symm.trans q.abs)
theorem Vals.inj:∀ {xs ys:List V} {us:List Value},Vals xs us->Vals ys us->xs=ys:=by
 intro xs ys us h;induction h generalizing ys with
 | nil=>intro k; cases k; rfl
 | cons r t ih =>
  intro k;cases k with
  | cons r' t'=>rw [r.inj r',ih t']
section
variable {X:Cx} {pins:List (Addr×Obj)} {σ:St} {H:Hp} {s:ak} {a:Addr} {xs ys:List V}
theorem uF.of{K:ag}(h:H a=some (.lst xs)):uF K H a xs:=.inl (.inl h)
theorem tM.of{K:ag}(h:H a=some (.tup xs)):tM K H a xs:=.inl (.inl h)
theorem Inv.list(I:Inv X pins σ H s)(h:uF X.K H a xs):∃ its:List Value,Vals xs its/\PlainL s.heap a its.toArray/\xs.length<=aY:=by
 rcases h with h | ⟨o,its,n,hk,hc,hd,hs,hz,r⟩
 ·obtain⟨z,its,n,r,e⟩:=h.ok I.bY;exact⟨its,r,⟨_,n,e,rfl,rfl,rfl⟩,z⟩
 ·refine⟨its.toList,r,⟨o,n,I.A7 a o hk,hc,hd,by simpa using hs⟩,?_⟩;have e:=r.length;simp only [dF] at e;lia
theorem Inv.tuple(I:Inv X pins σ H s)(h:tM X.K H a xs):∃ its:List Value,Vals xs its/\IsTup s.heap a its.toArray/\xs.length<=aY:=by
 rcases h with h | ⟨o,its,n,hk,hc,hs,hz,r⟩
 ·obtain⟨z,its,r,p⟩:=h.ok I.bY;exact⟨its,r,p,z⟩
 ·refine⟨its.toList,r,⟨o,I.A7 a o hk,hc,n,by simpa using hs⟩,?_⟩;have e:=r.length;simp only [dF] at e;lia
theorem Inv.Ej(I:Inv X pins σ H s)(h:uF X.K H a xs)(h':uF X.K H a ys):xs=ys:=by
 obtain⟨its,r,⟨o,n,e,_,_,d⟩,_⟩:=I.list h;obtain⟨its',r',⟨o',n',e',_,_,d'⟩,_⟩:=I.list h';rw [e] at e'; cases e';rw [d] at d';injection d' with d1 _
 have:its=its':=by simpa using congrArg Array.toList d1
 subst this;exact r.inj r'
theorem Inv.BI(I:Inv X pins σ H s)(h:tM X.K H a xs)(h':tM X.K H a ys):xs=ys:=by
 obtain⟨its,r,⟨o,e,_,n,d⟩,_⟩:=I.tuple h;obtain⟨its',r',⟨o',e',_,n',d'⟩,_⟩:=I.tuple h';rw [e] at e'; cases e';rw [d] at d';injection d' with d1 _
 have:its=its':=by simpa using congrArg Array.toList d1
 subst this;exact r.inj r'
end
noncomputable abbrev Cx.t7(X:Cx)(E:Value->ak->Prop):Cx:={ X with xe:=E }
noncomputable abbrev Cx.FI(X:Cx):Cx:=X.t7 fun _ _=>False
theorem Cx.Ok.t7{X:Cx}(ok:X.Ok)(E:Value->ak->Prop):(X.t7 E).Ok :=
 ⟨ok.mod,ok.kind,ok.glob,ok.blt,ok.above,ok.inj,ok.has,ok.LN,ok.hd,ok.frames,ok.L4,ok.Mz,ok.bs,ok.Hx,ok.Ed,ok.EY,ok.sO,ok.Kf⟩
theorem Cx.Ok.l7{X:Cx}{E:Value->ak->Prop}(ok:(X.t7 E).Ok):X.Ok :=
 ⟨ok.mod,ok.kind,ok.glob,ok.blt,ok.above,ok.inj,ok.has,ok.LN,ok.hd,ok.frames,ok.L4,ok.Mz,ok.bs,ok.Hx,ok.Ed,ok.EY,ok.sO,ok.Kf⟩
section
variable {X:Cx} {pins:List (Addr×Obj)} {σ:St} {H:Hp} {s:ak} {E:Value->ak->Prop}
theorem Inv.t7(I:Inv X pins σ H s)(E:Value->ak->Prop):Inv (X.t7 E) pins σ H s:=⟨I.ok.t7 E,I.os,I.bare,I.base,I.loc,I.cell,I.free,I.lE,I.pin,I.bY,I.len⟩
theorem Inv.l7(I:Inv (X.t7 E) pins σ H s):Inv X pins σ H s:=⟨I.ok.l7,I.os,I.bare,I.base,I.loc,I.cell,I.free,I.lE,I.pin,I.bY,I.len⟩
theorem SP.l7{D:Ends}{f:Flow}{s':ak}(h:SP (X.t7 E) pins D f s'):SP X pins D f s':=by
 cases f with
 | next=>obtain⟨gi,H',I,q⟩:=h; exact⟨gi,H',I.l7,q⟩
 | brk=>obtain⟨gi,H',I,q⟩:=h; exact⟨gi,H',I.l7,q⟩
 | cont=>obtain⟨gi,H',I,q⟩:=h; exact⟨gi,H',I.l7,q⟩
 | ret u=>obtain⟨v,gi,H',I,r,q⟩:=h; exact⟨v,gi,H',I.l7,r,q⟩
theorem Kh.FI{st:List Stmt}{t:TS}(h:Kh X.FI st t):Kh X st t:=fun pins s σ H D I hw =>
 oz (h pins s σ H D (I.t7 _) hw) (fun _ _ q=>q.l7) fun _ _ z=>bg z
end
section
variable {X:Cx} {st:Stmt} {rest:List Stmt} {t u:TS} {e:Expr} {te:TE} {pos:Pos}
theorem Inv.quiet{pins:List (Addr×Obj)}{σ:St}{H:Hp}{s:ak}(I:Inv X pins σ H s):interactive X.env=false:=by simp [interactive,I.ok.kind]
end
noncomputable abbrev O4:=V->V->V->Hp->(Hp->Prop)->Prop
noncomputable def O6(X:Cx)(t:O4):Prop :=
 ∀ (pins:List (Addr×Obj)) (s:ak) (σ:St) (H:Hp) (o i v:V) (ov iv u:Value) (Q:Hp->Prop),Inv X pins σ H s->RelV o ov->RelV i iv->RelV v u->t o i v H Q ->
  wpAny (model X.prog X.w) X.A (setItem ov iv u) (fun _ s'=>∃ H',Inv X pins σ H' s'/\Q H') X.xe s
structure It where
 go:Nat->Hp->Prop
 Pc:Nat->Hp->V->Hp->Prop
 stop:Nat->Hp->Prop
noncomputable def qZ(X:Cx)(pins:List (Addr×Obj))(H:Hp)(b:Addr):Prop :=
 H b=none/\b≠X.env.locals/\b∉X.fs/\(b∈X.ex\/X.jG.heap.objs.size<=b)/\(∀ x c,X.env.cells.lookup x=some c->c≠b)/\∀ p∈X.pn++pins,p.1≠b
theorem Inv.EV{X:Cx}{pins:List (Addr×Obj)}{σ:St}{H H':Hp}{s:ak}{b:Addr}(I:Inv X pins σ H s)(hb:s.heap.objs.size<=b)(hn:H' b=none):qZ X pins H' b:=by
 refine⟨hn,Nat.ne_of_gt (a6 I.lt hb),I.NJ hb,.inr (bx I.sz hb),fun x c e z=>?_,fun p hp z=>?_⟩
 ·obtain⟨v,q⟩:=I.cell x c e;exact absurd (a6 q.lt (by rw [z]; exact hb)) (cS _)
 ·exact absurd (a6 (aH (I.pin p hp).1) (by rw [z]; exact hb)) (cS _)
structure Turn(P:bf)(w:World)(K:ag)(tg:Expr)(J:It)(fp:List Addr)(it:Addr)(tn:Nat->Heap->Prop):Prop where
 mem:it∈fp
 obj:∀ i h,tn i h->∀ b∈fp,∃ o,h.get? b=some o/\∀ v,o.data≠.cell v
 keep:∀ i h h',tn i h->(∀ b∈fp,∀ o,h.get? b=some o->h'.get? b=some o)->tn i h'
 item:∀ (X:Cx),X.prog=P->X.w=w->X.K=K->X.calm=true->∀ (i:Nat) (pins:List (Addr×Obj)) (s:ak) (σ:St) (H:Hp) (E:Value->ak->Prop),Inv X pins σ H s->(∀ b∈fp,qZ X pins H b)->tn i s.heap->J.go i H ->
  wpAny (model P w) X.A (lV (.ref it)) (fun r s1=>∃ u,r=some u /\
   wpAny (model P w) X.A (rG tg (.ref it) u) (fun _ s2=>∃ x H',Inv X pins σ H' s2/\RelV x u/\J.Pc i H x H'/\tn (i+1) s2.heap/\∀ b∈fp,H' b=none) E s1) E s
 done:∀ (X:Cx),X.prog=P->X.w=w->X.K=K->X.calm=true->∀ (i:Nat) (pins:List (Addr×Obj)) (s:ak) (σ:St) (H:Hp) (E:Value->ak->Prop),Inv X pins σ H s->(∀ b∈fp,qZ X pins H b)->tn i s.heap->J.stop i H ->
  wpAny (model P w) X.A (lV (.ref it)) (fun r s1=>r=none/\Inv X pins σ H s1) E s
 self:∀ (A:bW) (i:Nat) (s:ak) (Q:Value->ak->Prop) (E:Value->ak->Prop),tn i s.heap->Q (.ref it) s->wpAny (model P w) A (C6 (.ref it)) Q E s
noncomputable abbrev TI:=St->Hp->(It->Hp->Prop)->Prop
noncomputable def Tf(X:Cx)(pins:List (Addr×Obj))(σ:St)(tg:Expr)(R:It->Hp->Prop)(HS:Value)(s2:ak):Prop :=
 ∃ (it:Addr) (fp:List Addr) (tn:Nat->Heap->Prop) (J:It) (H':Hp),HS=.ref it/\Inv X pins σ H' s2/\Turn X.prog X.w X.K tg J fp it tn/\tn 0 s2.heap/\(∀ b∈fp,qZ X pins H' b)/\R J H'
theorem Bm{M:Model}{A:bW}{E:Value->ak->Prop}{s:ak}{tg:Expr}{it:Addr}{u:Value}{o:Obj}{n:String}{vs:Array Value}{Q:Unit->ak->Prop}(ho:s.heap.get? it=some o)(hc:o.cls=.type n)(hd:o.data=.fields vs)
    (hn:["enumerate","zip","dict_itemiterator","dict_reverseitemiterator","odict_iterator","itertools.zip_longest","itertools.pairwise"].contains n=false) (hQ:Q () s):wpAny M A (rG tg (.ref it) u) Q E s:=by
  unfold rG;cases tg <;> first
    | exact aq hQ
    | (cases u <;> first
        | exact aq hQ
        | (refine ae (wpAny_load ho ?_)
           rw [hc,hd];show wpAny M A (if (["enumerate","zip","dict_itemiterator","dict_reverseitemiterator","odict_iterator","itertools.zip_longest","itertools.pairwise"].contains n&&vs[0]? == some (fM _))=true then _ else _) Q E s;rw [if_neg (by intro h; rw [hn,Av] at h; cases h)];exact aq hQ))
noncomputable def Tp(K:ag)(a:Addr):It :=
 ⟨fun i H=>∃ xs x,uF K H a xs/\xs[i]?=some x,fun i H x H'=>H'=H/\∀ xs,uF K H a xs->xs[i]?=some x,fun i H=>∃ xs,uF K H a xs/\xs.length<=i⟩
noncomputable def To(K:ag)(a:Addr):It :=
 ⟨fun i H=>∃ xs x,tM K H a xs/\xs[i]?=some x,fun i H x H'=>H'=H/\∀ xs,tM K H a xs->xs[i]?=some x,fun i H=>∃ xs,tM K H a xs/\xs.length<=i⟩
noncomputable def O9(lo:Int)(n:Nat):It:=⟨fun i _=>i < n,fun i H x H'=>H'=H/\x=.int (lo+i),fun i _=>n<=i⟩
theorem BH{P:bf}{w:World}{K:ag}{tg:Expr}(a it:Addr):Turn P w K tg (Tp K a) [it] it (fun i h=>h.IsListIter it a i) where
 mem:=by simp
 obj:=fun i h st b hb=>by
  have e:b=it:=by simpa using hb
  subst e;obtain⟨o,e,c,d⟩:=st;exact⟨o,e,fun v z=>by rw [d] at z; cases z⟩
 keep:=fun i h h' st k=>st.at fun o e=>k it (by simp) o e
 item:=by
  intro X hP hw hK hc i pins s σ H E I hf st hg;subst hP hw hK;obtain⟨xs,x,hq,hx⟩:=hg;obtain⟨its,rv,p,hz⟩:=I.list hq;obtain⟨u,hu,ru⟩:=rv.get hx;obtain⟨f0,f1,f2,f3,f4,f5⟩:=hf it (by simp);refine wpAny_pyNext_list_item st p.isList (x:=u) (by simpa using hu) fun h' ua sb=>?_;have I1:Inv X pins σ H { s with heap:=h' }:=I.turned (t':=s.toks) (fun b o hb e=>(sb.2 b hb).trans e) f0 f1 f3 f4 f5;obtain⟨o,e,c,d⟩:=id ua;exact⟨u,rfl,Bm (s:={ s with heap:=h' }) e c d (by decide) ⟨x,H,I1,ru,⟨rfl,fun ys hy=>by rw [I.Ej hy hq]; exact hx⟩,ua,fun b hb=>(hf b hb).1⟩⟩
 done:=by
  intro X hP hw hK hc i pins s σ H E I hf st hg;subst hP hw hK;obtain⟨xs,hq,hx⟩:=hg;obtain⟨its,rv,p,hz⟩:=I.list hq;obtain⟨f0,f1,f2,f3,f4,f5⟩:=hf it (by simp);have hl:=rv.length;exact wpAny_pyNext_list_end (I.ok.hd hc) st p.isList (by simp; lia) fun h' eb=>⟨rfl,I.turned (t':=s.toks) (fun b o hb e=>eb b o hb e) f0 f1 f3 f4 f5⟩
 self:=fun _ _ _ _ _ st h=>wpAny_pyIter_listiter st h
theorem za{P:bf}{w:World}{K:ag}{tg:Expr}(a it:Addr):Turn P w K tg (To K a) [it] it (fun i h=>h.IsTupleIter it a i) where
 mem:=by simp
 obj:=fun i h st b hb=>by
  have e:b=it:=by simpa using hb
  subst e;obtain⟨o,e,c,d⟩:=st;exact⟨o,e,fun v z=>by rw [d] at z; cases z⟩
 keep:=fun i h h' st k=>st.at fun o e=>k it (by simp) o e
 item:=by
  intro X hP hw hK hc i pins s σ H E I hf st hg;subst hP hw hK;obtain⟨xs,x,hq,hx⟩:=hg;obtain⟨its,rv,p,hz⟩:=I.tuple hq;obtain⟨u,hu,ru⟩:=rv.get hx;obtain⟨f0,f1,f2,f3,f4,f5⟩:=hf it (by simp);refine wpAny_pyNext_tuple_item st (show s.heap.IsTuple a its.toArray from p) (x:=u) (by simpa using hu) fun h' ua sb=>?_;have I1:Inv X pins σ H { s with heap:=h' }:=I.turned (t':=s.toks) (fun b o hb e=>(sb.2 b hb).trans e) f0 f1 f3 f4 f5;obtain⟨o,e,c,d⟩:=id ua;exact⟨u,rfl,Bm (s:={ s with heap:=h' }) e c d (by decide) ⟨x,H,I1,ru,⟨rfl,fun ys hy=>by rw [I.BI hy hq]; exact hx⟩,ua,fun b hb=>(hf b hb).1⟩⟩
 done:=by
  intro X hP hw hK hc i pins s σ H E I hf st hg;subst hP hw hK;obtain⟨xs,hq,hx⟩:=hg;obtain⟨its,rv,p,hz⟩:=I.tuple hq;obtain⟨f0,f1,f2,f3,f4,f5⟩:=hf it (by simp);have hl:=rv.length;exact wpAny_pyNext_tuple_end (I.ok.hd hc) st (show s.heap.IsTuple a its.toArray from p) (by simp; lia) fun h' eb=>⟨rfl,I.turned (t':=s.toks) (fun b o hb e=>eb b o hb e) f0 f1 f3 f4 f5⟩
 self:=fun _ _ _ _ _ st h=>wpAny_pyIter_tupleiter st h
theorem zb{P:bf}{w:World}{K:ag}{tg:Expr}(it:Addr)(lo:Int)(n:Nat):Turn P w K tg (O9 lo n) [it] it (fun i h=>IsRangeIter h it (lo+(i:Nat) * 1) ((n:Int) - (i:Nat)) 1) where
 mem:=by simp
 obj:=fun i h st b hb=>by
  have e:b=it:=by simpa using hb
  subst e;exact⟨_,st,fun v z=>by
   have z':Data.fields _=Data.cell v:=z;cases z'⟩
 keep:=fun i h h' st k=>k it (by simp) _ st
 item:=by
  intro X hP hw hK hc i pins s σ H E I hf st hg;subst hP hw hK;obtain⟨f0,f1,f2,f3,f4,f5⟩:=hf it (by simp);have W:=Walks.range (prog:=X.prog) (w:=X.w) (I.ok.hd hc) it lo 1 n;refine W.item i s _ _ hg st fun v h' tk hv ua kk=>?_;obtain⟨t,rfl⟩:=hv;have I1:Inv X pins σ H { s with heap:=h',toks:=tk }:=I.turned (fun b o hb e=>kk b o (by simpa using hb) e) f0 f1 f3 f4 f5;refine⟨_,rfl,Bm (s:={ s with heap:=h',toks:=tk }) (n:="range_iterator") ua rfl rfl (by decide) ⟨.int (lo+i),H,I1,⟨t,?_⟩,⟨rfl,rfl⟩,ua,fun b hb=>(hf b hb).1⟩⟩;rw [Int.mul_one]
 done:=by
  intro X hP hw hK hc i pins s σ H E I hf st hg;subst hP hw hK;obtain⟨f0,f1,f2,f3,f4,f5⟩:=hf it (by simp);exact wpAny_pyNext_range_end (I.ok.hd hc) st (by have:n<=i:=hg; lia) fun h' eb=>⟨rfl,I.turned (t':=s.toks) (fun b o hb e=>eb b o hb e) f0 f1 f3 f4 f5⟩
 self:=fun _ _ _ _ _ st h=>wpAny_pyIter_rangeiter st h
section
variable {X:Cx} {tg:Expr}
theorem DU{pins:List (Addr×Obj)}{σ:St}{H:Hp}{s:ak}{R:It->Hp->Prop}{E:Value->ak->Prop}{lo hi:Int}{t u v:Tok}{tk:Nat}(I:Inv X pins σ H s)(h1:-(2 ^ 62)<=lo)(h2:lo < 2 ^ 62)(h3:-(2 ^ 62)<=hi)(h4:hi < 2 ^ 62)
  (q:R (O9 lo (hi - lo).toNat) H):wpAny (model X.prog X.w) X.A (C6 (.ref s.heap.objs.size)) (Tf X pins σ tg R) E { s with heap:=s.heap.push { cls:=.type "range",data:=.fields #[.int lo t,.int hi u,.int 1 v] },toks:=tk }:=by
 refine wpAny_pyIter_range (IsRange.new ..) (small_one h1 h2 h3 h4) ?_;have I1:Inv X pins σ H { s with heap:=s.heap.push { cls:=.type "range",data:=.fields #[.int lo t,.int hi u,.int 1 v] },toks:=tk }:=I.kept fun b o e=>ar _ e
 refine⟨(s.heap.push { cls:=.type "range",data:=.fields #[.int lo t,.int hi u,.int 1 v] }).objs.size,[(s.heap.push { cls:=.type "range",data:=.fields #[.int lo t,.int hi u,.int 1 v] }).objs.size],_,_,H,rfl,
  I1.kept (t':=tk) fun b o e=>ar _ e,zb _ lo (hi - lo).toNat,?_,fun b hb=>?_,q⟩
 ·have e1:lo+((0:Nat):Int) * 1=lo:=by simp
  have e2:(((hi - lo).toNat:Nat):Int) - ((0:Nat):Int)=Builtin.Range.rangeSize lo hi 1:=by rw [rangeSize_one]; split <;> lia
  show IsRangeIter _ _ (lo+((0:Nat):Int) * 1) ((((hi - lo).toNat:Nat):Int) - ((0:Nat):Int)) 1;rw [e1,e2];exact aR _ rfl
 ·have e:b=(s.heap.push { cls:=.type "range",data:=.fields #[.int lo t,.int hi u,.int 1 v] }).objs.size:=by simpa using hb
  subst e;exact I1.EV (aF _) (I1.bY.fresh (aF _))
noncomputable def mz(fp:List Addr)(h:Heap):List (Addr×Obj):=fp.filterMap fun b=>(h.get? b).map fun o=>(b,o)
theorem kT{fp:List Addr}{h:Heap}{b:Addr}{o:Obj}(hb:b∈fp)(e:h.get? b=some o):(b,o)∈mz fp h:=List.mem_filterMap.mpr ⟨b,hb,by rw [e]; rfl⟩
theorem BX{fp:List Addr}{h:Heap}{p:Addr×Obj}(hp:p∈mz fp h):p.1∈fp/\h.get? p.1=some p.2:=by
 obtain⟨b,hb,e⟩:=List.mem_filterMap.mp hp;cases q:h.get? b with
 | none=>rw [q] at e; cases e
 | some o =>
  rw [q] at e;have e':(b,o)=p:=aW e;subst e';exact⟨hb,q⟩
theorem Inv.pinned{pins:List (Addr×Obj)}{σ:St}{H:Hp}{s:ak}{fp:List Addr}(I:Inv X pins σ H s)(hf:∀ b∈fp,qZ X pins H b)(ho:∀ b∈fp,∃ o,s.heap.get? b=some o/\∀ v,o.data≠.cell v):Inv X (pins++mz fp s.heap) σ H s :=
 I.AS fun p hp=>(List.mem_append.mp hp).elim (fun z=>I.pin p (bT _ z)) fun z=>by
  obtain⟨hb,e⟩:=BX z;obtain⟨f0,f1,f2,_⟩:=hf p.1 hb;obtain⟨o,e',d⟩:=ho p.1 hb;rw [e] at e'; cases e';exact⟨e,f0,f1,f2,d⟩
theorem Inv.oG{pins pl:List (Addr×Obj)}{σ:St}{H:Hp}{s:ak}(I:Inv X (pins++pl) σ H s):Inv X pins σ H s:=I.AS fun p hp=>I.pin p (bT _ (gz _ hp))
end
noncomputable abbrev R2:=V->V->Hp->VK->Prop
noncomputable def CY(X:Cx)(f:Value->Value->Sem Value)(r:R2):Prop :=
 ∀ (pins:List (Addr×Obj)) (s:ak) (σ:St) (H:Hp) (x y:V) (v u:Value) (Q:VK),Inv X pins σ H s->RelV x v->RelV y u->r x y H Q ->
  wpAny (model X.prog X.w) X.A (f v u) (EP X pins σ Q) X.xe s
noncomputable def Ik(X:Cx)(f:Value)(r:List V->Hp->VK->Prop):Prop :=
 ∀ (pins:List (Addr×Obj)) (s:ak) (σ:St) (H:Hp) (xs:List V) (us:List Value) (Q:VK),Inv X pins σ H s->Vals xs us->r xs H Q ->
  wpAny (model X.prog X.w) X.A (call f us) (EP X pins σ Q) X.xe s
noncomputable def O3(X:Cx)(r:V->Hp->(Bool->Hp->Prop)->Prop):Prop :=
 ∀ (pins:List (Addr×Obj)) (s:ak) (σ:St) (H:Hp) (x:V) (v:Value) (Q:Bool->Hp->Prop),Inv X pins σ H s->RelV x v->r x H Q ->
  wpAny (model X.prog X.w) X.A (truthy v) (TP X pins σ Q) X.xe s
noncomputable def rI(C:Int->Int->Prop)(g:Int->Int->V):R2:=fun x y H Q=>∃ i j,x=.int i/\y=.int j/\C i j/\Q (g i j) H
noncomputable def KG(g:Int->Int->V):R2:=fun x y H Q=>∃ i j,x=.int i/\y=.int j/\Q (g i j) H
section
variable {X:Cx} {a b c:Expr} {ta tb tc:TE} {pos:Pos}
theorem Nq{f:Value->Value->Sem Value}{C:Int->Int->Prop}{g:Int->Int->Int}
  (rule:∀ (i j:Int) (t u:Tok) (s:ak) (Q:Value->ak->Prop) (E:Value->ak->Prop),C i j->Q (.int (g i j) s.toks) { s with toks:=s.toks+1 }->wpAny (model X.prog X.w) X.A (f (.int i t) (.int j u)) Q E s) :
  CY X f (rI C fun i j=>.int (g i j)):=by
 intro pins s σ H x y v u Q I rx ry h;obtain⟨i,j,rfl,rfl,hc,q⟩:=h;obtain⟨t,rfl⟩:=rx;obtain⟨t',rfl⟩:=ry;exact rule i j t t' s _ _ hc ⟨.int (g i j),H,I.tok _,⟨_,rfl⟩,q⟩
theorem KP{f:Value->Value->Sem Value}{g:Int->Int->Int}
  (rule:∀ (i j:Int) (t u:Tok) (s:ak) (Q:Value->ak->Prop) (E:Value->ak->Prop),Q (.int (g i j) s.toks) { s with toks:=s.toks+1 }->wpAny (model X.prog X.w) X.A (f (.int i t) (.int j u)) Q E s) :
  CY X f (KG fun i j=>.int (g i j)):=by
 intro pins s σ H x y v u Q I rx ry h;obtain⟨i,j,rfl,rfl,q⟩:=h;obtain⟨t,rfl⟩:=rx;obtain⟨t',rfl⟩:=ry;exact rule i j t t' s _ _ ⟨.int (g i j),H,I.tok _,⟨_,rfl⟩,q⟩
theorem Nr{f:Value->Value->Sem Value}{g:Int->Int->Bool}
  (rule:∀ (i j:Int) (t u:Tok) (s:ak) (Q:Value->ak->Prop) (E:Value->ak->Prop),Q (.bool (g i j)) s->wpAny (model X.prog X.w) X.A (f (.int i t) (.int j u)) Q E s) :
  CY X f (KG fun i j=>.bl (g i j)):=by
 intro pins s σ H x y v u Q I rx ry h;obtain⟨i,j,rfl,rfl,q⟩:=h;obtain⟨t,rfl⟩:=rx;obtain⟨t',rfl⟩:=ry;exact rule i j t t' s _ _ ⟨.bl (g i j),H,I,rfl,q⟩
noncomputable def Pa(i j:Int):Prop:=0 < j/\j < 1073741824
noncomputable def JY(i j:Int):Prop:=(-(2 ^ 64) < i/\i < 2 ^ 64)\/(-(2 ^ 64) < j/\j < 2 ^ 64)
theorem JY.ok{i j:Int}(h:JY i j):IntMulOk i j:=by
 rcases h with ⟨h1,h2⟩ | ⟨h1,h2⟩
 ·exact .of_left (intBits_le_64 h1 h2)
 ·exact .of_right (intBits_le_64 h1 h2)
theorem IX:CY X (g7 .Add) (KG fun i j=>.int (i+j)):=KP fun _ _ _ _ _ _ _ q=>add_int q
theorem IT:CY X (g7 .Sub) (KG fun i j=>.int (i - j)):=KP fun _ _ _ _ _ _ _ q=>sub_int q
theorem IU:CY X (g7 .Mult) (rI JY fun i j=>.int (i * j)):=Nq fun _ _ _ _ _ _ _ hc q=>mul_int q hc.ok
theorem GJ:CY X (g7 .FloorDiv) (rI Pa fun i j=>.int (i / j)):=Nq fun i j _ _ _ _ _ hc q=>by
 have h1:(0:Int) < j:=hc.1;have h2:j < 1073741824:=hc.2;exact floordiv_int (by lia) (by rw [Int.fdiv_eq_ediv_of_nonneg i (by lia)]; exact q) (.inl (PyProof.noPylong_small (by lia)))
theorem IV:CY X (g7 .Mod) (rI (fun _ j=>0 < j) fun i j=>.int (i % j)):=Nq fun i j _ _ _ _ _ hc q=>by
 have h1:(0:Int) < j:=hc;exact mod_int' (by lia) (by rw [Int.fmod_eq_emod_of_nonneg i (by lia)]; exact q)
end
section
variable {X:Cx} {a b c:Expr} {ta tb tc:TE} {pos:Pos}
theorem KO:CY X (cG .Lt) (KG fun i j=>.bl (decide (i < j))):=Nr fun _ _ _ _ _ _ _ q=>lt_int q
theorem jw(b:Expr){op:CmpOp}(h:autoParam (op≠.In) Ad._auto_1)(h2:autoParam (op≠.NotIn) Ad._auto_1):behindInMarks op b=false:=by
 have e1:(op == CmpOp.In)=false:=by cases op <;> first | rfl | exact absurd rfl h
 have e2:(op == CmpOp.NotIn)=false:=by cases op <;> first | rfl | exact absurd rfl h2
 cases b with
 | Set es k _ =>
  show (k == 0&&(op == .In||op == .NotIn)&&es.all (constantsAlone 8))=false;rw [e1,e2,Bool.or_false,Aw,Av]
 | _=>rfl
noncomputable def JS(K:ag)(x:V)(H:Hp)(k:Bool):Prop :=
 match x with
 | .bX=>k=false
 | .bl b=>k=b
 | .int i=>k=(i != 0)
 | .str y=>y.length<=aY/\k=((y.length:Int) != 0)
 | .JM y=>y.size<=aY/\k=((y.size:Int) != 0)
 | .ref p=>(∃ xs,uF K H p xs/\k=!xs.isEmpty)\/(∃ xs,tM K H p xs/\k=!xs.isEmpty)\/∃ aQ,H p=some (.dK aQ)/\k=!aQ.isEmpty
 | _=>False
theorem zG{κ:Type}{aQ:List (κ×V)}{vs:List (κ×Value)}(r:KV aQ vs):(!vs.isEmpty)=!aQ.isEmpty:=by
 cases r <;> rfl
theorem sJ{xs:List V}{its:List Value}(r:Vals xs its):(!its.toArray.isEmpty)=!xs.isEmpty:=by
 cases r <;> simp
theorem sx:(aY:Nat) < 2 ^ 63:=by rw [bM]; decide
theorem Iu:O3 X (fun x H Q=>∃ k,JS X.K x H k/\Q k H):=by
 intro pins s σ H x v Q I rx h;obtain⟨k,e,q⟩:=h;have hl:=sx;have hs:aY=16777216:=bM;cases x with
 | bX =>
  cases rx;have e':k=false:=e;subst e';exact truthy_none ⟨H,I,q⟩
 | bl b =>
  cases rx;have e':k=b:=e;subst e';exact gZ ⟨H,I,q⟩
 | int i =>
  obtain⟨t,rfl⟩:=rx;have e':k=(i != 0):=e;subst e';exact PySem.P.truthy_int ⟨H,I,q⟩
 | str y =>
  obtain⟨t,rfl⟩:=rx;obtain⟨hy,e'⟩:y.length<=aY/\k=((y.length:Int) != 0):=e;subst e';exact PySem.P.truthy_str (by lia) ⟨H,I.tok _,q⟩
 | JM y =>
  obtain⟨t,rfl⟩:=rx;obtain⟨hy,e'⟩:y.size<=aY/\k=((y.size:Int) != 0):=e;subst e';exact PySem.W.truthy_bytes (by lia) ⟨H,I.tok _,q⟩
 | ref p =>
  cases rx;have e':(∃ xs,uF X.K H p xs/\k=!xs.isEmpty)\/(∃ xs,tM X.K H p xs/\k=!xs.isEmpty)\/∃ aQ,H p=some (.dK aQ)/\k=!aQ.isEmpty:=e;rcases e' with ⟨xs,hx,e'⟩ | ⟨xs,hx,e'⟩ | ⟨aQ,hx,e'⟩
  ·subst e';obtain⟨its,r,pl,hz⟩:=I.list hx;have hlen:=r.length;exact wpAny_truthy_list pl.isList (by simp only [aC]; lia) ⟨H,I.tok _,by rw [sJ r]; exact q⟩
  ·subst e';obtain⟨its,r,pl,hz⟩:=I.tuple hx;have hlen:=r.length;exact truthy_tuple pl (by simp only [aC]; lia) ⟨H,I.tok _,by rw [sJ r]; exact q⟩
  ·subst e';obtain⟨hz,hS,vs,r,m⟩:aQ.length<=aY/\(p == c3)=false/\∃ vs,KV aQ vs/\s.heap.DictOf (c7 X.prog X.w) p vs:=I.bY p _ hx;have hlen:aQ.length=vs.length:=jK r;exact yO hS m (by lia) ⟨H,I.tok _,by rw [zG r]; exact q⟩
 | _=>exact(show False from e).elim
theorem zo:CY X (g7 .Add) (fun x y H Q=>∃ i j,x=.str i/\y=.str j/\i.length+j.length<=aY/\Q (.str (i++j)) H):=by
 intro pins s σ H x y v u Q I rx ry h;obtain⟨i,j,rfl,rfl,hz,q⟩:=h;obtain⟨t,rfl⟩:=rx;obtain⟨t',rfl⟩:=ry;exact add_str (fun t' tk=>⟨.str (i++j),H,I.tok _,⟨_,rfl⟩,q⟩) hz
theorem vals1{x:V}{us:List Value}(r:Vals [x] us):∃ u,us=[u]/\RelV x u:=by
 cases r with
 | cons r1 r2=>cases r2; exact⟨_,rfl,r1⟩
theorem vals2{x y:V}{us:List Value}(r:Vals [x,y] us):∃ u w',us=[u,w']/\RelV x u/\RelV y w':=by
 cases r with
 | cons r1 r2 =>
  cases r2 with
  | cons r3 r4=>cases r4; exact⟨_,_,rfl,r1,r3⟩
noncomputable def LX(K:ag)(x:V)(H:Hp)(n:Nat):Prop :=
 match x with
 | .str y=>y.length<=aY/\n=y.length
 | .JM y=>y.size<=aY/\n=y.size
 | .ref p=>(∃ xs,uF K H p xs/\n=xs.length)\/∃ xs,tM K H p xs/\n=xs.length
 | _=>False
theorem Ff:Ik X (.builtin "len") (fun xs H Q=>∃ x n,xs=[x]/\LX X.K x H n/\Q (.int n) H):=by
 intro pins s σ H xs us Q I r h;obtain⟨x,n,rfl,e,q⟩:=h;obtain⟨u,rfl,rx⟩:=vals1 r;have hl:=sx;have hs:aY=16777216:=bM;cases x with
 | str y =>
  obtain⟨t,rfl⟩:=rx;obtain⟨hy,e'⟩:y.length<=aY/\n=y.length:=e;subst e';exact len_str (by lia) ⟨.int _,H,I.tok _,⟨_,rfl⟩,q⟩
 | JM y =>
  obtain⟨t,rfl⟩:=rx;obtain⟨hy,e'⟩:y.size<=aY/\n=y.size:=e;subst e';exact PySem.W.len_bytes (by lia) ⟨.int _,H,I.tok _,⟨_,rfl⟩,q⟩
 | ref p =>
  cases rx;have e':(∃ xs,uF X.K H p xs/\n=xs.length)\/∃ xs,tM X.K H p xs/\n=xs.length:=e;rcases e' with ⟨xs,hx,e'⟩ | ⟨xs,hx,e'⟩
  ·subst e';obtain⟨its,r',pl,hz⟩:=I.list hx;have hlen:=r'.length;exact Calls.call_len_list pl.isList (by simp only [aC]; lia) ⟨.int xs.length,H,I.tok _,⟨_,by simp only [aC]; rw [hlen]⟩,q⟩
  ·subst e';obtain⟨its,r',pl,hz⟩:=I.tuple hx;have hlen:=r'.length;exact len_tuple pl (by simp only [aC]; lia) ⟨.int xs.length,H,I.tok _,⟨_,by simp only [aC]; rw [hlen]⟩,q⟩
 | _=>exact(show False from e).elim
end
structure Tg(h:Heap)(x dx C:Addr)(mA:Str->Option Value):Prop where
 obj:h.get? x=some (PySem.W.instObj C dx)
 ns:h.Ns1 dx mA
 ne:dx≠x
theorem uG.some_of{v:V}{o:Option Value}(r:uG (some v) o):∃ u,o=some u/\RelV v u:=by
 cases o with
 | none=>exact(show False from r).elim
 | some u=>exact⟨u,rfl,r⟩
structure Tv(K:ag)(C:Addr):Prop where
 pg:PySem.W.plainGet K C Str.empty=true
 hd:PySem.W.hasDictIn K C=true
 po:PySem.W.plainOver K C=true
 sa:kJ K (.ref C) "__setattr__" = some (some (.builtin "object.__setattr__"))
structure T4(K:ag)(C:Addr)(f:Str)(v:V)(u:Value):Prop where
 at_:kJ K (.ref C) f=some (some u)
 rel:RelV v u
 get:FR K u "__get__" = some none
 cp:PySem.W.copiedNames.contains f=false
structure Meth(K:ag)(C:Addr)(m:Str)(f:Addr):Prop where
 at_:kJ K (.ref C) m=some (some (.ref f))
 fn:PySem.W.isFn K (.ref f)=true
 kp:gy K (.ref f)=true
section
variable {X:Cx} {pins:List (Addr×Obj)} {σ:St} {H:Hp} {s:ak} {A:bW} {E:Value->ak->Prop} {Q:Value->ak->Prop} {c:Value} {b:Bool}
inductive tK (K:ag) (H:Hp):V->Value->Prop where
 | bX:tK K H .bX (.type "NoneType")
 | bl (x:Bool):tK K H (.bl x) (.type "bool")
 | int (i:Int):tK K H (.int i) (.type "int")
 | str (x:Str):tK K H (.str x) (.type "str")
 | LF (x:UInt64):tK K H (.LF x) (.type "float")
 | lst {a:Addr} {xs:List V} (e:H a=some (.lst xs)):tK K H (.ref a) (.type "list")
 | jI {a:Addr} {o:Obj} {xs:List V} (e:H a=some (.jI o (.lst xs))):tK K H (.ref a) (.type "list")
 | tup {a:Addr} {xs:List V} (e:H a=some (.tup xs)):tK K H (.ref a) (.type "tuple")
 | dK {a:Addr} {aQ:List (Key×V)} (e:H a=some (.dK aQ)):tK K H (.ref a) (.type "dict")
 | dT {a:Addr} {aQ:List (List Key×V)} (e:H a=some (.dT aQ)):tK K H (.ref a) (.type "dict")
 | ins {a C dx:Addr} {fs:List (Str×V)} (e:H a=some (.ins C dx fs)) (cl:Tv K C) (ha:kJ K (.ref C) "__class__" = some (some (.builtin "object.__class__")))
   (hn:FR K (.builtin "object.__class__") "__get__" = some (some (.builtin "getset_descriptor.__get__"))) (TM:PySem.W.takesIn K (.builtin "object.__class__")=some true)
   (hm:PySem.W.mroIn K C (.type "object")=some true):tK K H (.ref a) (.ref C)
end
structure gX(k:Nat)(A:bW):Prop where
 hd:A.handled=none
 dp:A.depth+3 * k+5 < FQ
 un:A.units+16 * k+200 < cLine
theorem gX.mono{j k:Nat}{A:bW}(r:gX k A)(h:j<=k):gX j A:=⟨r.hd,by have:=r.dp; lia,by have:=r.un; lia⟩
theorem gX.deeper{k:Nat}{A:bW}(r:gX (k+1) A)(env:Env):gX k (A.deeper env) :=
 ⟨r.hd,by have:=r.dp; show A.depth+1+3 * k+5 < _; lia,by have:=r.un; show A.units+3+16 * k+200 < _; lia⟩
theorem gX.in1{k:Nat}{A:bW}(r:gX (k+1) A):gX k A.in1 :=
 ⟨r.hd,by have:=r.dp; show A.depth+3 * k+5 < _; lia,by have:=r.un; show A.units+1+16 * k+200 < _; lia⟩
theorem gX.depth{k:Nat}{A:bW}(r:gX k A):A.depth < FQ:=by have:=r.dp; lia
theorem gX.units{k:Nat}{A:bW}(r:gX k A):A.units+64 < cLine:=by have:=r.un; lia
theorem gX.Du{k:Nat}{A:bW}(r:gX k A):A.units < cLine:=by have:=r.un; lia
noncomputable abbrev Sp:=List V->Hp->VK->XK->Prop
noncomputable abbrev CZ:=List Env->Hp->ak->XK->Value->ak->Prop
structure HC(P:bf)(w:World)(K:ag)(mg:Str->Option Value)(base:Heap)(A:bW)(outer:List Env)(s:ak)(H:Hp):Prop where
 frames:A.frames=some outer
 mod:Mod K mg base
 bs:∀ b o,base.get? b=some o->s.heap.get? b=some o/\H b=none
 Hx:base.objs.size<=s.heap.objs.size
 sO:s.heap.FunFrames base outer
 Kf:∀ b∈CS outer,H b=none
 bY:ow P w H s.heap
 bare:vD s.gens
noncomputable def CE(outer:List Env)(P:bf)(w:World)(H:Hp)(s:ak)(Q:VK)(u:Value)(s':ak):Prop :=
 ∃ v H',s'.os=s.os/\vD s'.gens/\Un (CS outer) [] H H' s.heap s'.heap/\ow P w H' s'.heap/\RelV v u/\Q v H'
noncomputable def CR(CX:CZ)(outer:List Env)(P:bf)(w:World)(H:Hp)(s:ak)(Q:VK)(E:XK)(r:Result)(s':ak):Prop :=
 match r with
 | .ok (.ret u)=>CE outer P w H s Q u s'
 | .ok _=>False
 | .error e=>CX outer H s E e s'
structure eR(P:bf)(w:World)(K:ag)(mg:Str->Option Value)(base:Heap)(CX:CZ)(k:Nat)(f:Addr)(fd:aE)(ps:List Str)(sp:Sp):Prop where
 len:∀ vs H Q E,sp vs H Q E->vs.length=ps.length
 run:∀ (A:bW) (outer:List Env) (s:ak) (H:Hp) (args:Args) (us:List Value) (vs:List V) (Q:VK) (E:XK),gX k A->HC P w K mg base A outer s H->BindsTo s fd args (ps.zip us)->Vals vs us->sp vs H Q E ->
  rK (model P w) A (.call (.ref f) args) (CR CX outer P w H s Q E) s
section
variable {X:Cx} {pins:List (Addr×Obj)} {σ:St} {H:Hp} {s s':ak}
theorem Inv.OZ(I:Inv X pins σ H s):HC X.prog X.w X.K X.mg X.base X.A X.stack s H :=
 ⟨I.ok.frames,I.ok.mod,I.bs,bx I.ok.Hx I.sz,I.stack,I.AD,I.bY,I.bare⟩
theorem Inv.after{Q:VK}{u:Value}(I:Inv X pins σ H s)(h:CE X.stack X.prog X.w H s Q u s'):EP X pins σ Q u s':=by
 obtain⟨v,H',os,bare,un,bY,r,q⟩:=h;obtain⟨hh,g,d,t,QY⟩:=s';obtain rfl:QY=s.os:=os;exact⟨v,H',I.call (h':=hh) (g':=g) (d':=d) (t':=t) (ch:=[]) un bY bare (fun b z=>absurd z (by simp)),r,q⟩
end
noncomputable def Binds(K:ag)(fd:aE)(ps:List Str)(ds:List Value):Prop :=
 ∀ (s:ak) (us:List Value),K.In s.heap->(us++ds).length=ps.length->BindsTo s fd ⟨us,[]⟩ (ps.zip (us++ds))
theorem Binds.all{K:ag}{fd:aE}{ps:List Str}(h:∀ us:List Value,us.length=ps.length->bindArgs fd ⟨us,[]⟩=pure (ps.zip us)):Binds K fd ps []:=fun s us _ hl=>by
 rw [dU] at hl ⊢;exact .of_eq (h us hl)
noncomputable def Passes(CX:CZ)(X:Cx)(E:XK):Prop:=∀ (pins:List (Addr×Obj)) (σ:St) (H:Hp) (s:ak) (e:Value) (s':ak),Inv X pins σ H s->CX X.stack H s E e s'->X.xe e s'
section
variable {X:Cx} {CX:CZ} {k:Nat} {f C:Addr} {fd:aE} {ps:List Str} {sp:Sp} {MA:List V} {ds:List Value} {E:XK} {x m:Str} {p pos apos:Pos} {e o:Expr} {es:List Expr} {ta:TE} {t:TA}
theorem DJ{pins:List (Addr×Obj)}{σ:St}{H:Hp}{s:ak}{Q:VK}{us:List Value}{vs:List V}(F:eR X.prog X.w X.K X.mg X.base CX k f fd ps sp)(hr:gX k X.A)(hb:Binds X.K fd ps ds)(hd:Vals MA ds)(hx:Passes CX X E)
  (I:Inv X pins σ H s) (r:Vals vs us) (h:sp (vs++MA) H Q E):wpAny (model X.prog X.w) X.A (call (.ref f) us) (EP X pins σ Q) X.xe s:=by
 have r2:Vals (vs++MA) (us++ds):=r.append hd;have hl:(us++ds).length=ps.length:=by rw [<-r2.length]; exact F.len _ _ _ _ h
 refine wpAny_call (codeAny_mono (F.run X.A X.stack s H ⟨us,[]⟩ (us++ds) (vs++MA) Q E hr I.OZ (hb s us I.A7 hl) r2 h) fun r s' hq=>?_);cases r with
 | error e=>exact hx pins σ H s e s' I hq
 | ok fl =>
  cases fl with
  | ret u=>exact I.after hq
  | next=>exact bg hq
  | brk=>exact bg hq
  | cont=>exact bg hq
structure Mk(K:ag)(C f:Addr):Prop where
 makes:PySem.W.makesIn K C=true
 init:kJ K (.ref C) "__init__" = some (some (.ref f))
 fn:PySem.W.isFn K (.ref f)=true
 kp:gy K (.ref C)=true
end
section
variable {X:Cx} {CX:CZ} {k:Nat} {f C:Addr} {fd:aE} {ps ks:List Str} {sp:Sp} {E:XK} {x m:Str} {p pos apos Rh:Pos} {e o:Expr} {es:List Expr} {TG:List Dk} {te ta:TE} {t tk:TA} {nm:Option Str}
structure O7(K:ag)(fd:aE)(ps ks:List Str)(g:List Value->List Value->List Value)(gV:List V->List V->List V):Prop where
 to:∀ (s:ak) (us ws:List Value),K.In s.heap->(g us ws).length=ps.length->BindsTo s fd ⟨us,ks.zip ws⟩ (ps.zip (g us ws))
 rel:∀ {vs:List V} {us:List Value} {zs:List V} {ws:List Value},Vals vs us->Vals zs ws->Vals (gV vs zs) (g us ws)
variable {g:List Value->List Value->List Value} {gV:List V->List V->List V}
end
structure bL(N P:List Str)(sc:Scope):Prop where
 kind:sc.kind=.function
 co:sc.isCoroutine=false
 gen:sc.isGenerator=false
 nd:N.Nodup
 pre:N.take P.length=P
 par:∀ x∈P,sc.names.lookup x=some .local\/sc.names.lookup x=some .cell
 IZ:∀ y∈sc.names,y.2≠.free
theorem vp{kindOf:Str->Option nK}{x:Str}:∀ {binds:List (Str×Value)} {m:Str->Option Value},(∀ v,(x,v)∉binds)->bindL kindOf binds m x=m x
 | [],_,_=>rfl
 | (n,v) :: r,m,h=>by
  unfold bindL;rw [vp fun w hw=>h w (aw _ hw)];split
  ·have:x≠n:=by rintro rfl; exact h v a0
   simp [this]
  ·rfl
theorem vr{kindOf:Str->Option nK}{x:Str}:∀ {binds:List (Str×Value)} {m:Str->Option Value},(∀ v,(x,v)∉binds)->bindC kindOf binds m x=m x
 | [],_,_=>rfl
 | (n,v) :: r,m,h=>by
  unfold bindC;rw [vr fun w hw=>h w (aw _ hw)];split
  ·rfl
  ·have:x≠n:=by rintro rfl; exact h v a0
   simp [this]
theorem vq{kindOf:Str->Option nK}{x:Str}{v:Value}:∀ {P:List Str} {vs:List Value} {i:Nat} {m:Str->Option Value},P.Nodup->P[i]?=some x->vs[i]?=some v->kindOf x=some .local ->
  bindL kindOf (P.zip vs) m x=some v
 | [],_,_,_,_,h,_,_=>by simp at h
 | _ :: _,[],_,_,_,_,h,_=>by simp at h
 | p :: P,w :: vs,0,m,nd,h1,h2,hk=>by
  simp at h1 h2; subst h1; subst h2;show bindL kindOf ((p,w) :: P.zip vs) m p=_;unfold bindL;rw [vp fun v hv=>(List.nodup_cons.mp nd).1 (yE hv).1,if_pos hk];simp
 | p :: P,w :: vs,i+1,m,nd,h1,h2,hk=>by
  show bindL kindOf ((p,w) :: P.zip vs) m x=_;unfold bindL;exact vq (i:=i) (List.nodup_cons.mp nd).2 (by simpa using h1) (by simpa using h2) hk
theorem vt{kindOf:Str->Option nK}{x:Str}{v:Value}:∀ {P:List Str} {vs:List Value} {i:Nat} {m:Str->Option Value},P.Nodup->P[i]?=some x->vs[i]?=some v->kindOf x≠some .local ->
  bindC kindOf (P.zip vs) m x=some v
 | [],_,_,_,_,h,_,_=>by simp at h
 | _ :: _,[],_,_,_,_,h,_=>by simp at h
 | p :: P,w :: vs,0,m,nd,h1,h2,hk=>by
  simp at h1 h2; subst h1; subst h2;show bindC kindOf ((p,w) :: P.zip vs) m p=_;unfold bindC;rw [vr fun v hv=>(List.nodup_cons.mp nd).1 (yE hv).1,if_neg hk];simp
 | p :: P,w :: vs,i+1,m,nd,h1,h2,hk=>by
  show bindC kindOf ((p,w) :: P.zip vs) m x=_;unfold bindC;exact vt (i:=i) (List.nodup_cons.mp nd).2 (by simpa using h1) (by simpa using h2) hk
noncomputable def start(N:List Str)(vs:List V):St:=vs.map some++aT (N.length - vs.length) none
noncomputable def tD(CX:CZ)(P:bf)(w:World)(K:ag)(mg:Str->Option Value)(base:Heap)(N:List Str)(qual:Str)(scope:Scope)(f:Addr)(cd:Value)(A:bW)(outer:List Env)(s:ak)(H:Hp)(E:XK):Cx where
 prog:=P
 w:=w
 K:=K
 mg:=mg
 base:=base
 A:=A.deeper (rJ qual scope s.heap.objs.size f cd)
 N:=N
 jG:=s
 Af:=H
 env:=rJ qual scope s.heap.objs.size f cd
 outer:=outer
 stack:=rJ qual scope s.heap.objs.size f cd :: outer
 ex:=[]
 calm:=true
 fn:=fun _=>true
 pn:=[]
 xe:=fun e s'=>wpAny (model P w) (A.deeper (rJ qual scope s.heap.objs.size f cd)) (leaving (rJ qual scope s.heap.objs.size f cd) e) (fun _ Gj=>CX outer H s E e Gj) (fun e' Gj=>CX outer H s E e' Gj) s'
theorem yo{sc:Scope}{n:Nat}{x:Str}(h:sc.names.lookup x=some .cell):∃ c,(cellsFrom n sc.names []).lookup x=some c:=by
 have q:=An sc.names n [] (.inl h);exact Option.isSome_iff_exists.mp q
theorem Cc{CX:CZ}{P:bf}{w:World}{K:ag}{mg:Str->Option Value}{base:Heap}{N ps:List Str}{qual:Str}{scope:Scope}{f:Addr}{cd:Value}{A:bW}{outer:List Env}{s s1:ak}{H:Hp}{E:XK}{us:List Value}{vs:List V}
  (S:bL N ps scope) (hd:A.handled=none) (e0:HC P w K mg base A outer s H) (hl:vs.length=ps.length) (r:Vals vs us)
  (x:InCallC s s.heap.objs.size (bindL (rJ qual scope s.heap.objs.size f cd).kindOf (ps.zip us) fun _=>none) (cellsFrom (s.heap.objs.size+1) scope.names []) (bindC (rJ qual scope s.heap.objs.size f cd).kindOf (ps.zip us) fun _=>none) s1) :
  Inv (tD CX P w K mg base N qual scope f cd A outer s H E) [] (start N vs) H s1:=by
 have CO:ps.length<=N.length:=by have:=congrArg du S.pre; rw [nW] at this; lia
 obtain⟨h1,tk,rfl,hk⟩:=x.done;have NL:∀ b:Addr,b∉(tD CX P w K mg base N qual scope f cd A outer s H E).ex:=fun b z=>absurd (show b∈([]:List Addr) from z) (by simp);refine⟨⟨e0.mod,S.kind,rfl,rfl,aF _,fun y z c h1 h2=>?_,fun y hy=>?_,fun y c _ h=>?_,fun _=>hd,Around.frames_deeper e0.frames,.inr ⟨rfl,rfl⟩,fun b z=>absurd z (NL b),e0.bs,e0.Hx,fun b _ _=>NL b,fun b z=>absurd z (NL b),e0.sO,e0.Kf⟩,
  rfl,e0.bare,Un.kept hk,⟨_,x.toInCall.ns,fun i y v h1 h2 h3=>?_⟩,fun y c h=>⟨_,x.cell y c h⟩,e0.bY.fresh (aF _),fun y c h=>?_,fun p hp=>absurd (show p∈([]:List (Addr×Obj)) from hp) (by simp),e0.bY.kept hk,?_⟩
 ·exact name_of_addr x.apart (e8 h1) (e8 h2)
 ·have hy:scope.names.lookup y=some .cell\/scope.names.lookup y=some .free:=hy;rcases hy with hy | hy
  ·exact yo hy
  ·exact absurd rfl (S.IZ _ (e8 hy))
 ·exact FU (x.above y c (e8 h))
 ·have hi:i < vs.length:=by
   unfold start at h2;by_cases hi:i < vs.length
   ·exact hi
   ·rw [ed (by simpa using hi)] at h2;rw [iO] at h2;split at h2 <;> cases h2
  have ha:vs[i]?=some v:=by
   unfold start at h2;rw [eC (by simpa using hi),bZ] at h2;cases e:vs[i]? with
   | none=>rw [e] at h2; cases h2
   | some a=>rw [e] at h2; cases h2; rfl
  obtain⟨u,hu,rv⟩:=r.get ha;have hp:ps[i]?=some y:=by
   rw [<-S.pre,List.getElem?_take_of_lt (by lia)]; exact h1
  have Py:ps.Nodup:=by rw [<-S.pre]; exact S.nd.sublist (List.take_sublist _ _)
  refine⟨u,rv,?_⟩;rcases S.par y (dw hp) with k | k
  ·exact .inl ⟨k,vq Py hp hu k⟩
  ·obtain⟨c,e⟩:=yo (n:=s.heap.objs.size+1) k;refine .inr ⟨.inl k,c,e,?_⟩;have q:=x.cell y c e;rw [vt Py hp hu (by show scope.names.lookup y≠_; rw [k]; decide)] at q;exact q
 ·exact e0.bY.fresh (FU (x.above y c (e8 h)))
 ·unfold start;show _=N.length;rw [aU,ah,dh];lia
theorem HZ{CX:CZ}{P:bf}{w:World}{K:ag}{mg:Str->Option Value}{base:Heap}{k:Nat}{f:Addr}{name qual:Str}{params:Dl}{body:List Stmt}{scope:Scope}{dV kV doc pm i0 ct oc:Value}{an od:Option Addr}
  {CM:Array (Option Value)} {N ps:List Str} {sp:Sp} (lk:K.lookup f=some ⟨oc,od,.func (gY name qual params body scope dV kV doc pm an i0 ct),CM⟩) (w4:xg K i0 qual=true) (S:bL N ps scope)
  (len:∀ vs H Q E,sp vs H Q E->vs.length=ps.length)
  (EK:∀ (A:bW) (outer:List Env) (s:ak) (H:Hp) (vs:List V) (Q:VK) (E:XK),gX k (A.deeper (rJ qual scope s.heap.objs.size f i0))->sp vs H Q E ->
   ∃ t,Kh (tD CX P w K mg base N qual scope f i0 A outer s H E) body t/\t { nx:=fun _ H'=>Q .bX H',rt:=Q } (start N vs) H) :
  eR P w K mg base CX (k+1) f (gY name qual params body scope dV kV doc pm an i0 ct) ps sp:=by
 refine⟨len,fun A outer s H args us vs Q E hr e0 hb r Mh=>?_⟩;have hl:=len _ _ _ _ Mh;have KX:K.In s.heap:=e0.mod.Md.keeps fun b o e=>(e0.bs b o e).1;have lim:s.heap.NoLimit:=e0.mod.nolimit.keeps fun b o e=>(e0.bs b o e).1;have va:∀ y∈ps.zip us,scope.names.lookup y.1=some .local\/(scope.names.lookup y.1=some .cell/\((cellsFrom (s.heap.objs.size+1) scope.names []).lookup y.1).isSome=true):=fun ⟨n,v⟩ hy=>by
  rcases S.par n (yE hy).1 with q | q
  ·exact .inl q
  ·exact .inr ⟨q,An _ _ _ (.inl q)⟩
 refine codeAny_call_function hr.depth (KX _ _ lk) rfl S.co S.gen rfl (PySem.W.codeRec_of KX w4) (hb _ _ _ _ ?_);refine wpAny_newFunctionEnv_cells S.kind va fun env he s1 x=>?_;subst he;refine⟨lim.keeps x.toInCall.keep,codeAny_func ?_⟩;obtain⟨t,ht,hq⟩:=EK A outer s H vs Q E (hr.deeper _) Mh;have I:Inv (tD CX P w K mg base N qual scope f i0 A outer s H E) [] (start N vs) H s1:=Cc S hr.hd e0 hl r x;refine oz (ht [] s1 (start N vs) H _ I hq) (fun fl s' hs=>?_) fun e s' hs=>hs;have fin:∀ {gi:St} {H':Hp} {v:V} {u:Value},Inv (tD CX P w K mg base N qual scope f i0 A outer s H E) [] gi H' s'->RelV v u->Q v H'->CE outer P w H s Q u s' :=
  fun {gi H' v u} J rv q=>⟨v,H',J.os,J.bare,J.base,J.bY,rv,q⟩
 cases fl with
 | ret u =>
  obtain⟨v,gi,H',J,rv,q⟩:=hs;exact fin J rv q
 | next =>
  obtain⟨gi,H',J,q⟩:=hs;exact fin (v:=V.bX) (u:=cH) J rfl q
 | brk =>
  obtain⟨_,_,_,q⟩:=hs;exact bg q
 | cont =>
  obtain⟨_,_,_,q⟩:=hs;exact bg q
end L2
namespace HT
open PySem PyProof.Rows
noncomputable def lexLt:List Int->List Int->Bool
 | [],[]=>false
 | [],_ :: _=>true
 | _ :: _,[]=>false
 | x :: xs,y :: ys=>if x=y then lexLt xs ys else decide (x < y)
theorem zC(x y:Int)(xs ys:List Int):lexLt (x :: xs) (y :: ys)=if x=y then lexLt xs ys else decide (x < y):=rfl
theorem uf:lexLt [] []=false:=rfl
theorem sC(y:Int)(ys:List Int):lexLt [] (y :: ys)=true:=rfl
theorem sD(x:Int)(xs:List Int):lexLt (x :: xs) []=false:=rfl
theorem E1(A:bW)(s:ak)(a:Int)(t:Tok)(c:Int)(u:Tok):∃ e,SeqAt.EqAt A s (.int a t) (.int c u) e/\(e=true↔a=c) :=
 ⟨(a == c),SeqAt.EqAt.int_int a t c u,by simp⟩
theorem r8(A:bW)(s:ak)(a:Int)(t:Tok)(c:Int)(u:Tok)(prog:bf)(w:World)(E:Value->ak->Prop)(Q:Value->ak->Prop)(h:Q (.bool (decide (a < c))) s) :
  wpAny (model prog w) A (jW .Lt (.int a t) (.int c u)) Q E s :=
 (PyProof.Rows.lt_int h:wpAny (model prog w) A (cG .Lt (.int a t) (.int c u)) Q E s)
section
open PySem.SeqAt
open PySem.AutoSeq1 (wpAny_loadPart')
open PySem.MeetsSeq PySem.MeetsSeq2 PySem.MeetsSeq3
theorem t9(l b:Addr)(items j0:Array Value)(n n2:Nat)(dd w5:Option Addr)(sl AH:Array (Option Value))(ns ms:List Int)(hi:jk items.toList ns)(hj:jk j0.toList ms) :
  Meets (Builtin.«tuple.__lt__» ⟨[.ref l,.ref b],[]⟩)
   (fun _ R s=>s.heap.get? l=some { cls:=.type "tuple",dict:=dd,data:=.seq items n,slots:=sl }/\s.heap.get? b=some { cls:=.type "tuple",dict:=w5,data:=.seq j0 n2,slots:=AH } /\
    R (.ok (.ret (.bool (lexLt ns ms)))) s) :=
 .of_wp fun prog w A R s h=>by
  obtain⟨hp,g,d,tk,os⟩:=s; obtain⟨hl,hb,h⟩:=h;have f2:=lq;have z1:items.size=ns.length:=by rw [<-hi.length]; simp
  have z2:j0.size=ms.length:=by rw [<-hj.length]; simp
  wp_walk using bo hl,bo hb,wpAny_forIn_list _ (fun rest b s'=>b.1=none/\s'=⟨hp,g,d,tk,os⟩/\∃ (vs ws:List Value) (J1 J2:List Int),rest=vs.zip ws /\
   jk vs J1/\jk ws J2/\J1.length+j0.size=J2.length+items.size/\R (.ok (.ret (.bool (lexLt J1 J2)))) ⟨hp,g,d,tk,os⟩) _
  case turn =>
   rintro⟨y,x⟩ rest b s' ⟨zK,rfl,vs,ws,J1,J2,hz,Oa,Mf,hlen,hR⟩;cases Oa with
   | nil=>rw [List.zip_nil_left] at hz; cases hz
   | cons a t N9 =>
    cases Mf with
    | nil=>rw [List.zip_nil_right] at hz; cases hz
    | cons c u N8 =>
     rw [List.zip_cons_cons] at hz;injection hz with NZ ED
     injection NZ with hy hx
     subst hy hx;rw [zC] at hR;simp only [ao] at hlen;obtain⟨e,he,Ln⟩:=E1 A.in1 ⟨hp,g,d,tk,os⟩ a t c u;refine ae (he prog w _ _ ?_);cases e with
     | true =>
      rw [if_pos (Ln.mp rfl)] at hR
      wp_walk
      exact⟨rfl,rfl,_,_,_,_,ED,N9,N8,by lia,hR⟩
     | false =>
      rw [if_neg (fun q=>absurd (Ln.mpr q) dn)] at hR;have Lb:=r8 A.in1 ⟨hp,g,d,tk,os⟩ a t c u prog w
      wp_walk using Lb
      exact⟨_,rfl,by simpa using hR⟩
  case fin =>
   rintro⟨b1,b2⟩ s' ⟨zK,rfl,vs,ws,J1,J2,hz,Oa,Mf,hlen,hR⟩;simp only at zK;subst zK;have hv:lexLt J1 J2=decide (items.size < j0.size):=by
    cases Oa with
    | nil =>
     cases Mf with
     | nil =>
      simp only [av] at hlen;rw [uf];exact(decide_eq_false (by lia)).symm
     | cons c u hw =>
      simp only [av,ao] at hlen;rw [sC];exact(decide_eq_true (by lia)).symm
    | cons a t hv =>
     cases Mf with
     | nil =>
      simp only [av,ao] at hlen;rw [sD];exact(decide_eq_false (by lia)).symm
     | cons c u hw =>
      rw [List.zip_cons_cons] at hz;cases hz
   rw [hv] at hR
   wp_walk
   exact⟨_,rfl,by simpa [oE] using hR⟩
  case h =>
   exact⟨rfl,rfl,items.toList,j0.toList,ns,ms,rfl,hi,hj,by lia,h⟩
end
section
variable {prog:bf} {w:World} {A:bW} {E:Value->ak->Prop} {s:ak}
theorem sr{l b:Addr}{items j0:Array Value}{ns ms:List Int}{Q:Value->ak->Prop}(hl:IsTup s.heap l items)(hb:IsTup s.heap b j0)(hi:jk items.toList ns)(hj:jk j0.toList ms)
  (hu:A.units < cLine) (h:Q (.bool (lexLt ns ms)) s):wpAny (model prog w) A (cG .Lt (.ref l) (.ref b)) Q E s:=by
 obtain⟨⟨cls,dd,data,sl⟩,ho,hc,n,hd⟩:=id hl;obtain⟨⟨Fc,w5,data2,AH⟩,u7,sN,n2,hd2⟩:=id hb;simp only at hc hd sN hd2;subst hc hd sN hd2;exact qK (op:=.Lt) ⟨_,ho,rfl⟩ ⟨_,u7,rfl⟩ i4 nB (lZ _ _) (t9 l b items j0 n n2 dd w5 sl AH ns ms hi hj)
  ⟨ho,u7,show t6 (lexLt ns ms)≠Value.notImplemented/\Q (.bool (lexLt ns ms)) s from⟨(fun x=>nomatch x),h⟩⟩ hu
theorem Hs{t b:Addr}{vs ws:List Value}{Q:Value->ak->Prop}(ht:IsTup s.heap t vs.toArray)(hb:IsTup s.heap b ws.toArray)(hv:vs≠[])
  (h1:ws=[]->Q (.ref t) s) (h2:ws≠[]->Q (.ref s.heap.objs.size) { s with heap:=s.heap.push { cls:=.type "tuple",data:=.seq (vs++ws).toArray } })
  (hsz:vs.length+ws.length<=aY):wpAny (model prog w) A (g7 .Add (.ref t) (.ref b)) Q E s:=by
 obtain⟨⟨cls,dd,data,sl⟩,ho,hc,n,hd⟩:=id ht;obtain⟨⟨Fc,w5,data2,AH⟩,u7,sN,n2,hd2⟩:=id hb;simp only at hc hd sN hd2;subst hc hd sN hd2;have e:vs.toArray++ws.toArray=(vs++ws).toArray:=by simp
 by_cases hw:ws=[]
 ·exact concat_meets ⟨_,ho,rfl⟩ ⟨_,u7,rfl⟩ noFill_tuple_add seq_tuple_add Ap yW (yD _ _)
   (tuple_addW1 t b vs.toArray ws.toArray n n2 dd w5 sl AH (by simpa using hv) (by simp [hw])) ⟨ho,u7,h1 hw⟩
 ·refine concat_meets ⟨_,ho,rfl⟩ ⟨_,u7,rfl⟩ noFill_tuple_add seq_tuple_add Ap yW (yD _ _)
   (tuple_addW2 t b vs.toArray ws.toArray n n2 dd w5 sl AH (by simpa using hv) (by simpa using hw) (by rw [aC,aC]; exact hsz)) ⟨ho,u7,?_⟩
  rw [e];exact h2 hw
noncomputable def fY(n d:Nat):Option Int->Nat
 | none=>d
 | some v=>if v < 0 then (v+(n:Int)).toNat else min v.toNat n
theorem IC(n d:Nat)(hd:d<=n)(o:Option Int):fY n d o<=n:=by
 cases o with
 | none=>exact hd
 | some v =>
  show (if v < 0 then (v+(n:Int)).toNat else min v.toNat n)<=n;by_cases hv:v < 0
  ·rw [if_pos hv]; lia
  ·rw [if_neg hv]; exact Nat.min_le_right _ _
theorem Bu(v:Int)(n d:Nat):(if v < 0 then max (v+(n:Int)) 0 else min v (n:Int))=((fY n d (some v):Nat):Int):=by
 show (if v < 0 then max (v+(n:Int)) 0 else min v (n:Int))=(((if v < 0 then (v+(n:Int)).toNat else min v.toNat n):Nat):Int);by_cases hv:v < 0
 ·simp only [if_pos hv]; lia
 ·simp only [if_neg hv]; lia
theorem Ab(lo hi:Option Int)(n:Nat):jF lo hi 1 (n:Int)=(((fY n 0 lo:Nat):Int),((fY n n hi:Nat):Int)):=by
 have h1:¬ ((1:Int) < 0):=by lia
 unfold jF;simp only [h1,if_false];refine Prod.ext ?_ ?_
 ·cases lo with
  | none=>rfl
  | some v=>exact Bu v n 0
 ·cases hi with
  | none=>rfl
  | some v=>exact Bu v n n
theorem zj(i j:Nat):fF (i:Int) (j:Int) 1=j - i:=by
 unfold fF;have h1:(1:Int) > 0:=by lia
 simp only [h1,if_true,Int.ediv_one];split <;> lia
theorem rQ{v:Value}{o:Option Int}{Q:Option Int->ak->Prop}(p:IsPart v o)(h:Q o s):wpAny (model prog w) A (Builtin.Slice.slicePartIndex v) Q E s:=by
 cases p with
 | none=>exact slicePart_none h
 | int i t=>exact slicePart_int h
theorem pX{sl:Addr}{vl vu:Value}{lo hi:Option Int}{n:Nat}{Q:Int×Int×Nat->ak->Prop}(hs:s.heap.IsSliceOf sl vl vu .none)(pl:IsPart vl lo)(pu:IsPart vu hi)
  (h:Q (((fY n 0 lo:Nat):Int),1,fY n n hi - fY n 0 lo) s):wpAny (model prog w) A (rf (.ref sl) (pure (n:Int))) Q E s:=by
 obtain⟨os,Le,Lu,Mq⟩:=id hs;unfold rf Builtin.Slice.sliceFields;refine ae (ae (C1 Le Mq (x:=vl) rfl (ae (C1 Le Mq (x:=vu) rfl (ae (C1 Le Mq (x:=.none) rfl (aq ?_)))))));refine ae (slicePart_none ?_);show wpAny _ _ (if ((1:Int) == 0)=true then _ else _) _ _ s;rw [if_neg (by decide)];refine ae (rQ pl (ae (rQ pu (ae (aq ?_)))));show wpAny _ _ (match jF lo hi 1 (n:Int) with | (lo,hi)=>pure (lo,(1:Int),fF lo hi 1)) _ _ s;rw [Ab lo hi n];show wpAny _ _ (pure (((fY n 0 lo:Nat):Int),(1:Int),fF ((fY n 0 lo:Nat):Int) ((fY n n hi:Nat):Int) 1)) _ _ s;rw [zj];exact aq h
theorem D0(xs:Array Value)(i k:Nat):((bK k).filterMap fun (m:Nat)=>xs[((i:Int)+(m:Int) * 1).toNat]?).toArray=((xs.toList.drop i).take k).toArray:=by
 have e:(fun (m:Nat)=>xs[((i:Int)+(m:Int) * 1).toNat]?)=fun m=>xs[i+m]?:=by
  funext m;have:((i:Int)+(m:Int) * 1).toNat=i+m:=by lia
  rw [this]
 rw [e];have:=pick_run xs i k;rw [List.filterMap_map] at this;have e2:((fun x=>xs[x]?)∘fun x=>i+x)=fun m=>xs[i+m]?:=rfl;rw [e2] at this;rw [this]
theorem px{t sl:Addr}{items:Array Value}{vl vu:Value}{lo hi:Option Int}{Q:Value->ak->Prop}(ht:IsTup s.heap t items)(hs:s.heap.IsSliceOf sl vl vu .none)(pl:IsPart vl lo)(pu:IsPart vu hi)
  (hw:¬ (fY items.size 0 lo=0/\fY items.size items.size hi=items.size))
  (h:Q (.ref s.heap.objs.size) { s with heap:=s.heap.push { cls:=.type "tuple",data:=.seq ((items.toList.drop (fY items.size 0 lo)).take (fY items.size items.size hi - fY items.size 0 lo)).toArray } })
  (hsz:items.size<=aY):wpAny (model prog w) A (getItem (.ref t) (.ref sl)) Q E s:=by
 have Bh:sizeOk (.seq ((items.toList.drop (fY items.size 0 lo)).take (fY items.size items.size hi - fY items.size 0 lo)).toArray):=by
  show ((items.toList.drop (fY items.size 0 lo)).take (fY items.size items.size hi - fY items.size 0 lo)).toArray.size<=aY;rw [aC];exact bx (bx (List.length_take_le' _ _) (by rw [cU,dF]; exact Nat.sub_le _ _)) hsz
 have hj:fY items.size items.size hi<=items.size:=IC _ _ (aF _) hi;obtain⟨os,Le,Lu,Mq⟩:=id hs;have R3:s.TypeIs (.ref sl) "slice":=⟨os,Le,Lu⟩;unfold getItem
 try with_reducible refine cM ?_
 first | refine ae (aq ?_) | skip
 refine ae (wpAny_sequenceKey ht.typeIs (by decide) ?_);refine ae (fC (name:=ig "__getitem__") ht.typeIs pN
  (c5 pN ht.typeIs entry_tuple_getitem ?_ (args_tuple_getitem _ _)))
 show wpAny _ _ (Builtin.Tuple.tupleItemsOf (.ref t) >>= _) _ _ s;refine ae (tupleItemsOf_ ht ?_);refine ae (wpAny_typeOf R3 ?_);rw [if_pos (by decide)];refine ae (pX hs pl pu ?_);have Lh:¬ ((((fY items.size 0 lo:Nat):Int) == 0&&(1:Int) == 1&&(fY items.size items.size hi - fY items.size 0 lo) == items.size)=true):=by
  intro q;rw [aA,aA] at q;have q1:((fY items.size 0 lo:Nat):Int)=0:=eq_of_beq q.1.1;have q2:fY items.size items.size hi - fY items.size 0 lo=items.size:=eq_of_beq q.2;exact hw ⟨by lia,by lia⟩
 show wpAny _ _ (if (((fY items.size 0 lo:Nat):Int) == 0&&(1:Int) == 1&&(fY items.size items.size hi - fY items.size 0 lo) == items.size)=true then _ else _) _ _ s;rw [if_neg Lh,D0]
 first
  | exact ae (m:=fV _) (bR (aq ⟨_,rfl,aq h⟩) Bh)
  | exact ae (m:=fV _) (bR (ae (aq (aq ⟨_,rfl,aq h⟩))) Bh)
  | exact ae (ae (m:=fV _) (bR (aq (aq ⟨_,rfl,aq h⟩)) Bh))
  | exact ae (ae (m:=fV _) (bR (aq ⟨_,rfl,aq h⟩) Bh))
end
end HT
namespace L2
open PySem PySem.Spec PyProof.Rows
noncomputable abbrev TO:=St->Hp->(Option Int->Hp->Prop)->Prop
theorem intsAre_of{ns:List Int}:∀ {us:List Value},Vals (ns.map V.int) us->jk us ns:=by
 induction ns with
 | nil=>intro us r; rw [a9] at r; cases r; exact .nil
 | cons n ns ih =>
  intro us r;rw [az] at r;cases r with
  | cons r1 r2 =>
   obtain⟨t,e⟩:=r1;subst e;exact .cons n t (ih r2)
section
variable {X:Cx} {e:Expr} {te:TE} {lo hi:Option Expr} {tl th:TO} {pos p2:Pos}
noncomputable def O5(X:Cx)(r:V->Option Int->Option Int->Hp->VK->Prop):Prop :=
 ∀ (pins:List (Addr×Obj)) (s:ak) (σ:St) (H:Hp) (x:V) (v vl vu:Value) (lo hi:Option Int) (sl:Addr) (Q:VK),Inv X pins σ H s->RelV x v->s.heap.IsSliceOf sl vl vu .none->IsPart vl lo->IsPart vu hi->r x lo hi H Q ->
  ∃ T id,typeLookup (.type T) "__getitem__" = pure (some (.builtin id))/\s.TypeIs v T/\wpAny (model X.prog X.w) X.A (getItem v (.ref sl)) (EP X pins σ Q) X.xe s
noncomputable def yn(xs:List V)(lo hi:Option Int):List V:=(xs.drop (HT.fY xs.length 0 lo)).take (HT.fY xs.length xs.length hi - HT.fY xs.length 0 lo)
theorem qE(xs:List V)(lo hi:Option Int):(yn xs lo hi).length<=xs.length:=by
 unfold yn;rw [nW,cU];lia
noncomputable def Nh(K:ag):V->Option Int->Option Int->Hp->VK->Prop:=fun x lo hi H Q=>∃ a xs,x=.ref a/\tM K H a xs /\
 ¬ (HT.fY xs.length 0 lo=0/\HT.fY xs.length xs.length hi=xs.length)/\∀ p,H p=none->Q (.ref p) (upd H p (.tup (yn xs lo hi)))
theorem IB:O5 X (Nh X.K):=by
 intro pins s σ H x v vl vu lo hi sl Q I rx hs pl pu h;obtain⟨a,xs,rfl,hx,hw,q⟩:=h;cases rx;obtain⟨its,r,ht,hz⟩:=I.tuple hx;have hlen:its.toArray.size=xs.length:=by rw [aC]; exact r.length.symm
 refine⟨"tuple",_,PyProof.Rows.slot_tuple_getitem.lookup,ht.typeIs,?_⟩;refine HT.px ht hs pl pu (by rw [hlen]; exact hw) ?_ (by rw [hlen]; exact hz);rw [hlen];refine⟨.ref s.heap.objs.size,_,I.laid (t':=s.toks) (o:=.tup (yn xs lo hi)) (fun b ob q=>ar _ q) (aF _) ?_,rfl,q _ (I.bY.fresh (aF _))⟩;exact⟨bx (qE xs lo hi) hz,_,(r.drop (HT.fY xs.length 0 lo)).take (HT.fY xs.length xs.length hi - HT.fY xs.length 0 lo),IsTup.new _ _⟩
noncomputable def Nk(K:ag):R2:=fun x y H Q=>∃ a b ns ms,x=.ref a/\y=.ref b/\tM K H a (ns.map V.int)/\tM K H b (ms.map V.int)/\Q (.bl (HT.lexLt ns ms)) H
theorem IW(hu:X.A.units < cLine):CY X (cG .Lt) (Nk X.K):=by
 intro pins s σ H x y v u Q I rx ry h;obtain⟨a,b,ns,ms,rfl,rfl,ha,hb,q⟩:=h;cases rx;cases ry;obtain⟨its,r1,p1,_⟩:=I.tuple ha;obtain⟨qh,r2,p2,_⟩:=I.tuple hb;have i1:jk its.toArray.toList ns:=intsAre_of r1;have i2:jk qh.toArray.toList ms:=intsAre_of r2;exact HT.sr p1 p2 i1 i2 hu ⟨.bl (HT.lexLt ns ms),H,I,rfl,q⟩
noncomputable def KI(K:ag):R2:=fun x y H Q=>∃ a b xs ys,x=.ref a/\y=.ref b/\tM K H a xs/\tM K H b ys/\xs≠[]/\xs.length+ys.length<=aY /\
 (ys=[]->Q (.ref a) H)/\(ys≠[]->∀ p,H p=none->Q (.ref p) (upd H p (.tup (xs++ys))))
theorem Vals.vW{xs:List V}{us:List Value}(r:Vals xs us):us=[]↔xs=[]:=by
 cases r with
 | nil=>simp
 | cons _ _=>simp
theorem GK:CY X (g7 .Add) (KI X.K):=by
 intro pins s σ H x y v u Q I rx ry h;obtain⟨a,b,xs,ys,rfl,rfl,ha,hb,hx,hz,q1,q2⟩:=h;cases rx;cases ry;obtain⟨its,r1,p1,_⟩:=I.tuple ha;obtain⟨qh,r2,p2,_⟩:=I.tuple hb;refine HT.Hs p1 p2 (fun z=>hx (r1.vW.mp z)) (fun z=>⟨.ref a,H,I,rfl,q1 (r2.vW.mp z)⟩) (fun z=>?_) (by rw [<-r1.length,<-r2.length]; exact hz);refine⟨.ref s.heap.objs.size,_,I.laid (t':=s.toks) (o:=.tup (xs++ys)) (fun b ob q=>ar _ q) (aF _) ?_,rfl,q2 (fun w=>z (r2.vW.mpr w)) _ (I.bY.fresh (aF _))⟩;exact⟨by rw [aU]; exact hz,_,r1.append r2,IsTup.new _ _⟩
end
noncomputable def CN(n:Nat)(i:Int):Option Nat:=if 0<=i then (if i < n then some i.toNat else none) else if -(n:Int)<=i then some (i+n).toNat else none
noncomputable def pG{α:Type}(xs:List α)(i:Int):Option α:=(CN xs.length i).bind fun j=>xs[j]?
theorem A9{n:Nat}{i:Int}{j:Nat}(h:CN n i=some j):seqIndex? i n=some j/\j < n/\-(n:Int)<=i/\i < n:=by
 unfold CN at h;by_cases h0:0<=i
 ·rw [if_pos h0] at h;by_cases h1:i < n
  ·rw [if_pos h1] at h;have e:i.toNat=j:=aW h;exact⟨by rw [C5 h0 h1,e],by lia,by lia,h1⟩
  ·rw [if_neg h1] at h; cases h
 ·rw [if_neg h0] at h;by_cases h1:-(n:Int)<=i
  ·rw [if_pos h1] at h;have e:(i+n).toNat=j:=aW h;exact⟨by rw [seqIndex_neg (by lia) h1,e],by lia,h1,by lia⟩
  ·rw [if_neg h1] at h; cases h
theorem Bw{α:Type}{xs:List α}{i:Int}{v:α}(h:pG xs i=some v):∃ j,seqIndex? i xs.length=some j/\xs[j]?=some v/\j < xs.length/\-(xs.length:Int)<=i/\i < xs.length:=by
 unfold pG at h;cases e:CN xs.length i with
 | none=>rw [e] at h; cases h
 | some j =>
  rw [e] at h;obtain⟨h1,h2,h3,h4⟩:=A9 e;exact⟨j,h1,h,h2,h3,h4⟩
noncomputable def Hz(b:Expr):Prop:=∀ o i,subscripted b false o i=operate [o,i] (getItem o i)
noncomputable def O8(X:Cx)(r:R2):Prop :=
 ∀ (value slice:Expr) (pins:List (Addr×Obj)) (s:ak) (σ:St) (H:Hp) (x y:V) (v u:Value) (Q:VK),Inv X pins σ H s->RelV x v->RelV y u->r x y H Q ->
  subscripted slice false v u=operate [v,u] (getItem v u)->wpAny (model X.prog X.w) X.A (subscriptTail value slice v u) (EP X pins σ Q) X.xe s
noncomputable def Th(X:Cx)(id:String)(r:V->List V->Hp->VK->Prop):Prop :=
 ∀ (pins:List (Addr×Obj)) (s:ak) (σ:St) (H:Hp) (x:V) (xs:List V) (v:Value) (us:List Value) (Q:VK),Inv X pins σ H s->RelV x v->Vals xs us->r x xs H Q ->
  wpAny (model X.prog X.w) X.A (call (.builtin id) (v :: us)) (EP X pins σ Q) X.xe s
section
variable {X:Cx} {a b:Expr} {ta tb:TE} {pos:Pos}
noncomputable def Nm(K:ag):R2:=fun x y H Q=>∃ p xs i v,x=.ref p/\y=.int i/\uF K H p xs/\pG xs i=some v/\Q v H
noncomputable def Nl(K:ag):R2:=fun x y H Q=>∃ p xs i v,x=.ref p/\y=.int i/\tM K H p xs/\pG xs i=some v/\Q v H
theorem A8:O8 X (Nm X.K):=by
 intro value slice pins s σ H x y v u Q I rx ry h hs;obtain⟨p,xs,i,z,rfl,rfl,hq,he,q⟩:=h;cases rx;obtain⟨t,rfl⟩:=ry;obtain⟨its,r,pl,hz⟩:=I.list hq;obtain⟨j,h1,h2,h3,h4,h5⟩:=Bw he;obtain⟨w,ew,nX⟩:=r.get h2;have hl:=r.length;have hn:=sx;have fin:EP X pins σ Q w s:=⟨z,H,I,nX,q⟩;by_cases h0:0<=i
 ·have hj:i.toNat=j:=by
   rw [C5 h0 h5] at h1;exact aW h1
  exact item_listR pl.isList h0 (by lia) (by rw [hj]; simpa using ew) fin hs
 ·have hj:(i+(its.toArray.size:Int)).toNat=j:=by
   rw [seqIndex_neg (by lia) h4] at h1;rw [aC,<-hl];exact aW h1
  exact qJ (x:=w) pl.isList.typeIs slot_list_getitem.lookup
   (wpAny_getItem_list_neg (Q:=fun r s'=>r=w/\EP X pins σ Q r s') pl.isList (by lia) (by rw [aC] <;> lia) (by lia) (by rw [hj]; simpa using ew) ⟨rfl,fin⟩) hs
theorem Jj:O8 X (Nl X.K):=by
 intro value slice pins s σ H x y v u Q I rx ry h hs;obtain⟨p,xs,i,z,rfl,rfl,hq,he,q⟩:=h;cases rx;obtain⟨t,rfl⟩:=ry;obtain⟨its,r,pl,hz⟩:=I.tuple hq;obtain⟨j,h1,h2,h3,h4,h5⟩:=Bw he;obtain⟨w,ew,nX⟩:=r.get h2;have hl:=r.length;have hn:=sx;have fin:EP X pins σ Q w s:=⟨z,H,I,nX,q⟩;exact qJ (x:=w) pl.typeIs slot_tuple_getitem.lookup
  (getItem_tuple (j:=j) (Q:=fun r s'=>r=w/\EP X pins σ Q r s') pl (by lia) (by lia) (by rw [aC,<-hl]; exact h1) (by simpa using ew) ⟨rfl,fin⟩) hs
theorem zv (its:List Value) (n j:Nat) (u:Value):da (·.setIfInBounds j u) { cls:=.type "list",data:=.seq its.toArray n } = { cls:=.type "list",data:=.seq (its.set j u).toArray n }:=by
 simp [da]
theorem Inv.lst{pins:List (Addr×Obj)}{σ:St}{H:Hp}{s:ak}{p:Addr}{xs:List V}(I:Inv X pins σ H s)(h:H p=some (.lst xs)) :
  ∃ (its:List Value) (n:Nat),Vals xs its/\s.heap.get? p=some { cls:=.type "list",data:=.seq its.toArray n }/\xs.length<=aY:=by
 obtain⟨z,its,n,r,e⟩:=I.bY p _ h;exact⟨its,n,r,e,z⟩
theorem Inv.Jd{pins:List (Addr×Obj)}{σ:St}{H:Hp}{s:ak}{p:Addr}{xs ys:List V}{its its':List Value}{n n':Nat}{f:Obj->Obj}(I:Inv X pins σ H s)(h:H p=some (.lst xs))
  (ho:s.heap.get? p=some { cls:=.type "list",data:=.seq its.toArray n }) (hf:f { cls:=.type "list",data:=.seq its.toArray n } = { cls:=.type "list",data:=.seq its'.toArray n' }) (r:Vals ys its') (hz:ys.length<=aY) (t:Nat) :
  Inv X pins σ (upd H p (.lst ys)) { s with heap:=s.heap.update p f,toks:=t }:=by
 have e:(s.heap.update p f).get? p=some { cls:=.type "list",data:=.seq its'.toArray n' }:=by
  rw [fT f ho (by rw [hf] <;> rfl),hf]
 refine I.write (x:=p) (e:=p) (by rw [h]; trivial) (.inl rfl) (fun b u hb q=>(cb _ _ (j8 hb)).trans q) ⟨_,e⟩ ?_;exact⟨hz,its',n',r,e⟩
noncomputable def KD:V->V->V->Hp->(Hp->Prop)->Prop:=fun o i v H Q=>∃ p xs k j,o=.ref p/\i=.int k/\H p=some (.lst xs)/\CN xs.length k=some j/\Q (upd H p (.lst (xs.set j v)))
theorem set_list:O6 X KD:=by
 intro pins s σ H o i v ov iv u Q I ro ri rv h;obtain⟨p,xs,k,j,rfl,rfl,hp,hj,q⟩:=h;cases ro;obtain⟨t,rfl⟩:=ri;obtain⟨its,n,r,ho,hz⟩:=I.lst hp;obtain⟨h1,h2,h3,h4⟩:=A9 hj;have hl:=r.length;have hn:=sx;have I':Inv X pins σ (upd H p (.lst (xs.set j v))) { s with heap:=s.heap.update p (da (·.setIfInBounds j u)) } :=
  I.Jd hp ho (zv its n j u) (r.set rv j) (by rw [iN]; exact hz) s.toks
 by_cases h0:0<=k
 ·have hk:k.toNat=j:=by
   rw [C5 h0 h4] at h1;exact aW h1
  exact PySem.W.ki_setAt ho h0 (by lia) (by rw [aC,<-hl]; exact h4) (by rw [hk]; exact⟨_,I',q⟩)
 ·have hk:(k+(its.toArray.size:Int)).toNat=j:=by
   rw [seqIndex_neg (by lia) h3] at h1;rw [aC,<-hl];exact aW h1
  exact PySem.W.ki_setBack ho (by lia) (by rw [aC,<-hl]; exact h3) (by lia) (by rw [hk]; exact⟨_,I',q⟩)
theorem vI(lo hi:Option Int)(n:Nat):(lU lo hi none n).1=((HT.fY n 0 lo:Nat):Int)/\(lU lo hi none n).2.1=((HT.fY n n hi:Nat):Int)/\(lU lo hi none n).2.2=1:=by
 refine⟨?_,?_,rfl⟩
 ·cases lo with
  | none=>simp [lU,HT.fY]
  | some i =>
   simp only [lU,HT.fY,Option.getD_none,show (1:Int) > 0 by decide,if_true];by_cases h:i < 0
   ·simp only [h,if_true] <;> lia
   ·simp only [h,if_false] <;> lia
 ·cases hi with
  | none=>simp [lU,HT.fY]
  | some i =>
   simp only [lU,HT.fY,Option.getD_none,show (1:Int) > 0 by decide,if_true];by_cases h:i < 0
   ·simp only [h,if_true] <;> lia
   ·simp only [h,if_false] <;> lia
theorem uc(its:List Value)(lo hi:Option Int):slicePick its.toArray lo hi none=((its.drop (HT.fY its.length 0 lo)).take (HT.fY its.length its.length hi - HT.fY its.length 0 lo)).toArray:=by
 obtain⟨h1,h2,h3⟩:=vI lo hi its.toArray.size;unfold slicePick;rw [h1,h2,h3];simp only [sliceRange_one,pick_run,aC] <;> rfl
noncomputable def Ni(K:ag):V->Option Int->Option Int->Hp->VK->Prop:=fun x lo hi H Q=>∃ a xs,x=.ref a/\uF K H a xs/\∀ p,H p=none->Q (.ref p) (upd H p (.lst (yn xs lo hi)))
theorem AG:O5 X (Ni X.K):=by
 intro pins s σ H x v vl vu lo hi sl Q I rx hs pl pu h;obtain⟨a,xs,rfl,hx,q⟩:=h;cases rx;obtain⟨its,r,ht,hz⟩:=I.list hx;have hlen:=r.length;refine⟨"list",_,slot_list_getitem.lookup,ht.isList.typeIs,?_⟩;refine wpAny_getItem_list_slice ht.isList hs pl pu .none (by simp) ?_ (by rw [aC] <;> lia);rw [uc,<-hlen];refine⟨.ref s.heap.objs.size,_,I.laid (t':=s.toks) (o:=.lst (yn xs lo hi)) (fun b ob q=>ar _ q) (aF _) ?_,rfl,q _ (I.bY.fresh (aF _))⟩;exact⟨bx (qE xs lo hi) hz,_,0,(r.drop (HT.fY xs.length 0 lo)).take (HT.fY xs.length xs.length hi - HT.fY xs.length 0 lo),aR _ rfl⟩
theorem wH:Ik X (.type "list") (fun xs H Q=>∃ p ys,xs=[.ref p]/\(uF X.K H p ys\/tM X.K H p ys)/\∀ l,H l=none->Q (.ref l) (upd H l (.lst ys))):=by
 intro pins s σ H xs us Q I r h;obtain⟨p,ys,rfl,hq,q⟩:=h;obtain⟨u,rfl,rx⟩:=vals1 r;cases rx;have fin:∀ (its:List Value),Vals ys its->ys.length<=aY->∀ (h':Heap) (c':Nat),(∀ b o',s.heap.get? b=some o'->h'.get? b=some o') ->
   h'.get? s.heap.objs.size=some { cls:=.type "list",dict:=none,data:=.seq its.toArray c',slots:=#[] }->EP X pins σ Q (.ref s.heap.objs.size) { s with heap:=h' }:=fun its r' hz h' c' kp e =>
  ⟨.ref s.heap.objs.size,_,I.laid (t':=s.toks) kp (aF _) (show eQ X.prog X.w _ h' _ (.lst ys) from⟨hz,its,c',r',e⟩),rfl,q _ (I.bY.fresh (aF _))⟩
 rcases hq with hq | hq
 ·obtain⟨its,r',pl,hz⟩:=I.list hq;have hlen:=r'.length;obtain⟨o,ho,hc,n,hd⟩:=pl.isList;exact call_list_seq p (.inl rfl) ho hc hd (fun h' c' kp e=>fin its r' hz h' c' kp e) (by simp only [aC] <;> lia)
 ·obtain⟨its,r',pl,hz⟩:=I.tuple hq;have hlen:=r'.length;obtain⟨o,ho,hc,n,hd⟩:=pl;exact call_list_seq p (.inr rfl) ho hc hd (fun h' c' kp e=>fin its r' hz h' c' kp e) (by simp only [aC] <;> lia)
noncomputable def Qt(K:ag)(T:String)(x:V)(H:Hp):Prop:=match x with
 | .str _=>T = "str"
 | .int _=>T = "int"
 | .ref p=>(T = "list"/\∃ xs,uF K H p xs)\/(T = "tuple"/\∃ o,K.lookup p=some o/\o.cls=.type "tuple"/\o.dict=none) \/
   (T = "dict"/\((∃ aQ,H p=some (.dK aQ))\/∃ aQ,H p=some (.dT aQ)))\/(T = "set"/\∃ S n,H p=some (.set S n))
 | _=>False
theorem vG{pins:List (Addr×Obj)}{σ:St}{H:Hp}{s:ak}{T:String}{x:V}{v:Value}(I:Inv X pins σ H s)(r:RelV x v)(ty:Qt X.K T x H) :
  s.TypeIs v T/\∀ a,v=.ref a->∃ ob,s.heap.get? a=some ob/\ob.dict=none:=by
 cases x with
 | str z =>
  obtain⟨t,rfl⟩:=r;cases (show T = "str" from ty);exact⟨typeIs_str s z t,fun _ e=>nomatch e⟩
 | int i =>
  obtain⟨t,rfl⟩:=r;cases (show T = "int" from ty);exact⟨typeIs_int s i t,fun _ e=>nomatch e⟩
 | ref p =>
  cases r;rcases ty with ⟨rfl,xs,hq⟩ | ⟨rfl,o,hk,hc,hd⟩ | ⟨rfl,hk⟩ | ⟨rfl,S,n,hk⟩
  ·obtain⟨its,_,pl,_⟩:=I.list hq;refine⟨pl.isList.typeIs,fun a e=>?_⟩;cases e;obtain⟨o,n,e,c,hd,_⟩:=pl;exact⟨o,e,hd⟩
  ·refine⟨⟨o,I.A7 p o hk,hc⟩,fun a e=>?_⟩;cases e;exact⟨o,I.A7 _ o hk,hd⟩
  ·have z:∃ o,s.heap.get? p=some o/\o.ExactDict:=by
    rcases hk with ⟨aQ,hk⟩ | ⟨aQ,hk⟩
    ·obtain⟨_,_,_,_,o,_,_,e,ex,_⟩:=I.bY p _ hk;exact⟨o,e,ex⟩
    ·obtain⟨_,_,_,_,o,_,_,e,ex,_⟩:=I.bY p _ hk;exact⟨o,e,ex⟩
   obtain⟨o,e,ex⟩:=z;refine⟨⟨o,e,ex.1⟩,fun a e2=>?_⟩;cases e2;exact⟨o,e,ex.2.1⟩
  ·obtain⟨o,_,_,_,e,ex,_⟩:=I.bY p _ hk;refine⟨⟨o,e,ex.1⟩,fun a e2=>?_⟩;cases e2;exact⟨o,e,ex.2.1⟩
 | _=>exact bg ty
variable {o e:Expr} {es:List Expr} {to:TE} {t:TA} {name:Str} {apos iS:Pos} {T id:String} {r:V->List V->Hp->VK->Prop}
/- xs.append(e),list.index on a K1 tuple .. are Th facts of 06m -/
end
noncomputable def Ti(X:Cx)(id:String)(r:V->List V->Hp->VK->Prop):Prop :=
 ∀ (pins:List (Addr×Obj)) (s:ak) (σ:St) (H:Hp) (x:V) (xs:List V) (v:Value) (us:List Value) (Q:VK),Inv X pins σ H s->RelV x v->Vals xs us->r x xs H Q ->
  wpAny (model X.prog X.w) X.A (call (.builtin id) (v :: us)) (EP X pins σ Q) X.xe s
theorem Vals.one:∀ {x:V} {us:List Value},Vals [x] us->∃ u,us=[u]/\RelV x u:=by
 intro x us h;cases h with
 | cons r t=>cases t; exact⟨_,rfl,r⟩
section
variable {X:Cx} {pins:List (Addr×Obj)} {σ:St} {H:Hp} {s:ak} {l b:Addr} {xs ys zs:List V}
theorem Inv.Jf{its its':List Value}{n:Nat}{f:Array Value->Array Value}{t':Nat}(I:Inv X pins σ H s)(hH:H l=some (.lst xs))
  (e:s.heap.get? l=some { cls:=.type "list",data:=.seq its.toArray n }) (hf:f its.toArray=its'.toArray) (hv:Vals ys its') (hz:ys.length<=aY) :
  Inv X pins σ (upd H l (.lst ys)) { s with heap:=s.heap.update l (da f),toks:=t' }:=by
 have q:=PySem.IsL.update e f;rw [hf] at q;refine I.write (x:=l) (e:=l) (by rw [hH]; exact trivial) (.inl rfl) (fun b' u hb hu=>(cb s.heap (da f) (j8 hb)).trans hu) ⟨_,q⟩ ?_;exact⟨hz,its',_,hv,q⟩
theorem Inv.NQ{its:List Value}{t':Nat}(I:Inv X pins σ H s)(hv:Vals ys its)(hz:ys.length<=aY) :
  Inv X pins σ (upd H s.heap.objs.size (.lst ys)) { s with heap:=s.heap.push { cls:=.type "list",data:=.seq its.toArray },toks:=t' } :=
 I.laid (fun _ _ q=>ar _ q) (aF _) ⟨hz,its,0,hv,aR _ rfl⟩
theorem Inv.Je (I:Inv X pins σ H s) (hH:H l=some (.lst xs)):xs.length<=aY/\∃ (its:List Value) (n:Nat),Vals xs its/\xs.length=its.length/\s.heap.get? l=some { cls:=.type "list",data:=.seq its.toArray n }:=by
 obtain⟨z,its,n,r,e⟩:=I.bY l _ hH;exact⟨z,its,n,r,r.length,e⟩
theorem Ec{n:Nat}(h:n<=aY):gh n=false:=by
 unfold gh;exact decide_eq_false (by lia)
end
section
variable {X:Cx}
noncomputable def Gz:V->List V->Hp->VK->Prop:=fun x vs H Q=>∃ l xs y,x=.ref l/\vs=[y]/\H l=some (.lst xs)/\xs.length < aY/\Q .bX (upd H l (.lst (xs++[y])))
theorem uZ:Ti X "list.append" Gz:=by
 intro pins s σ H x vs v us Q I rx rv h;obtain⟨l,xs,y,rfl,rfl,hH,hz,q⟩:=h;cases rx;obtain⟨u,rfl,ru⟩:=rv.one;obtain⟨z,its,n,r,hl,e⟩:=I.Je hH;refine tT F.slot_list_append ⟨_,e,rfl⟩ F.entry_list_append (F.args_list_append_2 _ _) (PySem.list_append l its.toArray n u (by rw [aC]; lia)) ⟨e,?_⟩;refine⟨.bX,_,I.Jf (its':=its++[u]) hH e (by simp) (r.append (.cons ru .nil)) ?_,rfl,q⟩;rw [aU,fS];lia
end
section
variable {κ:Type} [DecidableEq κ]
noncomputable def i6(aQ:List (κ×V))(k:κ):Option V:=(aQ.find? fun kv=>decide (kv.1=k)).map (·.2)
noncomputable def putK(aQ:List (κ×V))(k:κ)(v:V):List (κ×V) :=
 if (aQ.any fun kv=>decide (kv.1=k))=true then aQ.map (fun kv=>if kv.1=k then (kv.1,v) else kv) else aQ++[(k,v)]
theorem l0{p:κ×V}{r:List (κ×V)}{k:κ}(e:p.1=k):i6 (p :: r) k=some p.2:=by simp [i6,dS,e]
theorem l5{p:κ×V}{r:List (κ×V)}{k:κ}(e:¬ p.1=k):i6 (p :: r) k=i6 r k:=by simp [i6,dS,e]
theorem xj(k:κ):∀ aQ:List (κ×V),(aQ.any fun kv=>decide (kv.1=k))=(i6 aQ k).isSome
 | []=>rfl
 | p :: r=>by
  rw [j9];by_cases e:p.1=k
  ·simp only [l0 e,decide_eq_true e,Bool.true_or,Option.isSome_some]
  ·rw [l5 e,decide_eq_false e,tY]; exact xj k r
theorem qB(aQ:List (κ×V))(k:κ)(v:V):(putK aQ k v).length<=aQ.length+1:=by
 unfold putK;split
 ·rw [ah]; lia
 ·rw [aU,ao,av]; lia
theorem uG.ky{o:Option V}{u:Option Value}(r:uG o u):o.isSome=u.isSome:=by
 cases o with
 | none=>cases u with
  | none=>rfl
  | some _=>exact(show False from r).elim
 | some _=>cases u with
  | none=>exact(show False from r).elim
  | some _=>rfl
theorem KV.val{aQ:List (κ×V)}{vs:List (κ×Value)}(r:KV aQ vs)(k:κ):uG (i6 aQ k) (C2 vs k):=by
 unfold KV at r;induction r with
 | nil=>exact hW
 | @cons p q ps qs h t ih =>
  obtain⟨h1,h2⟩:=h;by_cases e:p.1=k
  ·have e':q.1=k:=h1.symm.trans e;have b:C2 (q :: qs) k=some q.2:=by simp [C2,dS,e']
   rw [l0 e,b]; exact h2
  ·have e':¬ q.1=k:=fun z=>e (h1.trans z);have b:C2 (q :: qs) k=C2 qs k:=by simp [C2,dS,e']
   rw [l5 e,b]; exact ih
theorem KV.any{aQ:List (κ×V)}{vs:List (κ×Value)}(r:KV aQ vs)(k:κ):(aQ.any fun kv=>decide (kv.1=k))=vs.any fun kv=>decide (kv.1=k):=by
 unfold KV at r;induction r with
 | nil=>rfl
 | cons h t ih=>rw [j9,j9,ih,h.1]
theorem KV.II{aQ:List (κ×V)}{vs:List (κ×Value)}(r:KV aQ vs)(k:κ){y:V}{u:Value}(ry:RelV y u) :
  KV (aQ.map fun kv=>if kv.1=k then (kv.1,y) else kv) (vs.map fun kv=>if kv.1=k then (kv.1,u) else kv):=by
 unfold KV at r ⊢;induction r with
 | nil=>exact .nil
 | @cons p q ps qs h t ih =>
  rw [az,az];refine .cons ?_ ih;obtain⟨h1,h2⟩:=h;by_cases e:p.1=k
  ·rw [if_pos e,if_pos (h1.symm.trans e)]; exact⟨h1,ry⟩
  ·rw [if_neg e,if_neg (fun z=>e (h1.trans z))]; exact⟨h1,h2⟩
theorem KV.put{aQ:List (κ×V)}{vs:List (κ×Value)}(r:KV aQ vs)(k:κ){y:V}{u:Value}(ry:RelV y u):KV (putK aQ k y) (stored vs k u):=by
 unfold putK stored;rw [r.any k];by_cases e:(vs.any fun kv=>decide (kv.1=k))=true
 ·rw [if_pos e,if_pos e]; exact r.II k ry
 ·rw [if_neg e,if_neg e]; exact Paired.snoc r ⟨rfl,ry⟩
theorem KV.length{aQ:List (κ×V)}{vs:List (κ×Value)}(r:KV aQ vs):aQ.length=vs.length:=jK r
end
theorem xV{P:bf}{w:World}{k:Key}{u:Value}(r:RelV (kV k) u):(c7 P w).is k u=true:=by
 cases k with
 | inl i=>obtain⟨t,e⟩:=(show ∃ t,u=cW i t from r); subst e; exact xK P w i t
 | inr x=>obtain⟨t,e⟩:=(show ∃ t,u=Value.str x t from r); subst e; exact xJ P w x t
theorem u6{P:bf}{w:World}:∀ {ks:List Key} {us:List Value},Vals (ks.map kV) us->ItemsAre (c7 P w) ks us
 | [],_,r=>by rw [a9] at r; cases r; exact .nil
 | k :: ks,_,r=>by
  rw [az] at r;cases r with
  | cons h t=>exact .cons (xV h) (u6 t)
noncomputable abbrev KT(H:Hp):List (List Key×V)->List (List Key×Addr×Value)->Prop:=Paired fun p q=>p.1=q.1/\H q.2.1=some (.tup (p.1.map kV))/\RelV p.2 q.2.2
theorem KT.val{H:Hp}{aQ:List (List Key×V)}{xs:List (List Key×Addr×Value)}(r:KT H aQ xs)(k:List Key):uG (i6 aQ k) ((atKey xs k).map (·.2)):=by
 induction r with
 | nil=>exact hW
 | @cons p q ps qs h t ih =>
  obtain⟨h1,_,h2⟩:=h;by_cases e:p.1=k
  ·have e':q.1=k:=h1.symm.trans e;have b:atKey (q :: qs) k=some q.2:=by simp [atKey,dS,e']
   rw [l0 e,b]; exact h2
  ·have e':¬ q.1=k:=fun z=>e (h1.trans z);have b:atKey (q :: qs) k=atKey qs k:=by simp [atKey,dS,e']
   rw [l5 e,b]; exact ih
theorem KT.II{H:Hp}{aQ:List (List Key×V)}{xs:List (List Key×Addr×Value)}(r:KT H aQ xs)(k:List Key){y:V}{u:Value}(ry:RelV y u) :
  KT H (aQ.map fun kv=>if kv.1=k then (kv.1,y) else kv) (xs.map (putAt k u)):=by
 induction r with
 | nil=>exact .nil
 | @cons p q ps qs h t ih =>
  rw [az,az];refine .cons ?_ ih;obtain⟨h1,h2,h3⟩:=h;unfold putAt;by_cases e:p.1=k
  ·rw [if_pos e,if_pos (h1.symm.trans e)]; exact⟨h1,h2,ry⟩
  ·rw [if_neg e,if_neg (fun z=>e (h1.trans z))]; exact⟨h1,h2,h3⟩
theorem KT.put{H:Hp}{aQ:List (List Key×V)}{xs:List (List Key×Addr×Value)}(r:KT H aQ xs)(k:List Key){b:Addr}{y:V}{u:Value}(hb:H b=some (.tup (k.map kV)))(ry:RelV y u) :
  KT H (putK aQ k y) (storedH xs k b u):=by
 have e:(aQ.any fun kv=>decide (kv.1=k))=(atKey xs k).isSome:=by
  rw [xj,(r.val k).ky,iW]
 unfold putK storedH;rw [e];by_cases q:(atKey xs k).isSome=true
 ·rw [if_pos q,if_pos q]; exact r.II k ry
 ·rw [if_neg q,if_neg q]; exact Paired.snoc r ⟨rfl,hb,ry⟩
theorem KT.keeps{H H':Hp}{aQ:List (List Key×V)}{xs:List (List Key×Addr×Value)}(r:KT H aQ xs)(ht:∀ b ys,H b=some (.tup ys)->H' b=some (.tup ys)):KT H' aQ xs :=
 Paired.K4 r fun _ _ z=>⟨z.1,ht _ _ z.2.1,z.2.2⟩
section
variable {P:bf} {w:World} {H:Hp} {h:Heap} {a:Addr}
theorem HJ{u:HO}(ok:ow P w H h)(e:Rd H a u):eQ P w H h a u:=e.ok ok
theorem nT{aQ:List (Key×V)}(ok:ow P w H h)(e:Rd H a (.dK aQ)):aQ.length<=aY/\(a == c3)=false/\∃ vs,KV aQ vs/\h.DictOf (c7 P w) a vs :=
 show eQ P w H h a (.dK aQ) from HJ ok e
theorem ye{aQ:List (Key×V)}(ok:ow P w H h)(e:H a=some (.dK aQ)):aQ.length<=aY/\(a == c3)=false/\∃ vs,KV aQ vs/\h.DictOf (c7 P w) a vs:=nT ok (.inl e)
theorem sG{ks:List Key}(ok:ow P w H h)(e:H a=some (.tup (ks.map kV))):(C3 (c7 P w)).is h ks a:=by
 obtain⟨_,its,r,o,h1,h2,n,h3⟩:=(show eQ P w H h a (.tup (ks.map kV)) from ok a _ e);exact⟨o,its.toArray,n,h1,h2,h3,by simpa using u6 r⟩
theorem sZ{aQ:List (List Key×V)}(ok:ow P w H h)(e:Rd H a (.dT aQ)):aQ.length<=aY/\(a == c3)=false /\
  ∃ xs,KT H aQ xs/\h.DictOfH (C3 (c7 P w)) a xs:=by
 obtain⟨z,y,xs,r,o,es,ep,h1,h2,h3,h4,h5⟩:=(show eQ P w H h a (.dT aQ) from HJ ok e);refine⟨z,y,xs,r,o,es,ep,h1,h2,h3,h4,fun x hx=>?_,h5⟩;have all:∀ {l:List (List Key×V)} {m:List (List Key×Addr×Value)},KT H l m->∀ x∈m,(C3 (c7 P w)).is h x.1 x.2.1:=by
  intro l m q;induction q with
  | nil=>intro x hx; exact nomatch hx
  | @cons p q ps qs hq t ih =>
   intro x hx;rcases List.mem_cons.mp hx with e | hx
   ·subst e;exact sG ok (by rw [<-hq.1]; exact hq.2.1)
   ·exact ih x hx
 exact all r x hx
theorem H0{aQ:List (List Key×V)}(ok:ow P w H h)(e:H a=some (.dT aQ)):aQ.length<=aY/\(a == c3)=false /\
  ∃ xs,KT H aQ xs/\h.DictOfH (C3 (c7 P w)) a xs:=sZ ok (.inl e)
end
noncomputable def tR(H:Hp)(a:Addr)(y:V)(r:Option V):Prop :=
 (∃ aQ k,Rd H a (.dK aQ)/\y=kV k/\r=i6 aQ k)\/∃ aQ k b,Rd H a (.dT aQ)/\y=.ref b/\H b=some (.tup (k.map kV))/\r=i6 aQ k
noncomputable def CA(H:Hp)(a:Addr)(y v:V)(H':Hp):Prop :=
 (∃ aQ k,H a=some (.dK aQ)/\y=kV k/\aQ.length < aY/\H'=upd H a (.dK (putK aQ k v))) \/
 ∃ aQ k b,H a=some (.dT aQ)/\y=.ref b/\H b=some (.tup (k.map kV))/\aQ.length < aY/\H'=upd H a (.dT (putK aQ k v))
theorem tR.k{H:Hp}{a:Addr}{aQ:List (Key×V)}{k:Key}(e:H a=some (.dK aQ)):tR H a (kV k) (i6 aQ k):=.inl ⟨aQ,k,.inl e,rfl,rfl⟩
theorem tR.t{H:Hp}{a b:Addr}{aQ:List (List Key×V)}{k:List Key}(e:H a=some (.dT aQ))(eb:H b=some (.tup (k.map kV))):tR H a (.ref b) (i6 aQ k):=.inr ⟨aQ,k,b,.inl e,rfl,eb,rfl⟩
theorem CA.k{H:Hp}{a:Addr}{aQ:List (Key×V)}{k:Key}{v:V}(e:H a=some (.dK aQ))(hl:aQ.length < aY):CA H a (kV k) v (upd H a (.dK (putK aQ k v))):=.inl ⟨aQ,k,e,rfl,hl,rfl⟩
theorem CA.t{H:Hp}{a b:Addr}{aQ:List (List Key×V)}{k:List Key}{v:V}(e:H a=some (.dT aQ))(eb:H b=some (.tup (k.map kV)))(hl:aQ.length < aY) :
  CA H a (.ref b) v (upd H a (.dT (putK aQ k v))):=.inr ⟨aQ,k,b,e,rfl,eb,hl,rfl⟩
section
variable {X:Cx} {pins:List (Addr×Obj)} {σ:St} {H:Hp} {s:ak} {a:Addr} {y v:V} {u r:Value} {o:Option V} {A:bW} {E:Value->ak->Prop}
theorem Inv.big(I:Inv X pins σ H s):c3 < s.heap.objs.size:=by
 have h:bp < s.heap.objs.size:=(I.mod.glob.keeps I.bk).lt;exact Nat.lt_trans (by decide) h
theorem qm{Q:Value->ak->Prop}(hu:A.units+1 < cLine)(I:Inv X pins σ H s)(g:tR H a y (some v))(ry:RelV y u)(h:∀ w' s',Inv X pins σ H s'->RelV v w'->Q w' s') :
  wpAny (model X.prog X.w) A (getItem (.ref a) u) Q E s:=by
 rcases g with ⟨aQ,k,e,ey,l⟩ | ⟨aQ,k,b,e,ey,eb,l⟩
 ·subst ey;obtain⟨z,hd,vs,rel,dd⟩:=nT I.bY e;obtain⟨w',hw,nX⟩:=uG.some_of (v:=v) (o:=C2 vs k) (by rw [l]; exact rel.val k);exact wpAny_getItem_of (xV ry) dd.mapOf hw (h w' _ (I.tok _) nX)
 ·subst ey;cases (show u=fN b from ry);obtain⟨z,hd,xs,rel,dd⟩:=sZ I.bY e;obtain⟨w',hw,nX⟩:=uG.some_of (v:=v) (o:=(atKey xs k).map (·.2)) (by rw [l]; exact rel.val k);obtain⟨p,hp,uh⟩:=Option.map_eq_some_iff.mp hw;refine wpAny_getItem_heap (nJ hu) (sG I.bY eb) dd hp ?_;rw [uh];exact h w' _ (I.tok _) nX
theorem LI{Q:Value->ak->Prop}(hu:A.units+1 < cLine)(I:Inv X pins σ H s)(g:tR H a y o)(ry:RelV y u)(h:∀ s',Inv X pins σ H s'->Q (.bool o.isSome) s') :
  wpAny (model X.prog X.w) A (cG .In u (.ref a)) Q E s:=by
 rcases g with ⟨aQ,k,e,ey,l⟩ | ⟨aQ,k,b,e,ey,eb,l⟩
 ·subst ey;obtain⟨z,hd,vs,rel,dd⟩:=nT I.bY e;refine wpAny_in_of (xV ry) hd dd.mapOf ?_;rw [<-(rel.val k).ky,<-l];exact h _ (I.tok _)
 ·subst ey;cases (show u=fN b from ry);obtain⟨z,hd,xs,rel,dd⟩:=sZ I.bY e;refine wpAny_in_heap (nJ hu) (sG I.bY eb) hd dd ?_;have q:=(rel.val k).ky;rw [iW] at q;rw [<-q,<-l];exact h _ (I.tok _)
theorem Br{Q:Value->ak->Prop}(hu:A.units+1 < cLine)(I:Inv X pins σ H s)(g:tR H a y o)(ry:RelV y u)(h:∀ s',Inv X pins σ H s'->Q (.bool (!o.isSome)) s') :
  wpAny (model X.prog X.w) A (cG .NotIn u (.ref a)) Q E s:=by
 rcases g with ⟨aQ,k,e,ey,l⟩ | ⟨aQ,k,b,e,ey,eb,l⟩
 ·subst ey;obtain⟨z,hd,vs,rel,dd⟩:=nT I.bY e;refine wpAny_notIn_of (xV ry) hd dd.mapOf ?_;rw [<-(rel.val k).ky,<-l];exact h _ (I.tok _)
 ·subst ey;cases (show u=fN b from ry);obtain⟨z,hd,xs,rel,dd⟩:=sZ I.bY e;refine wpAny_notIn_heap (nJ hu) (sG I.bY eb) hd dd ?_;have q:=(rel.val k).ky;rw [iW] at q;rw [<-q,<-l];exact h _ (I.tok _)
theorem Bq{h':Heap}{t':Nat}{ob:HO}(I:Inv X pins σ H s)(mu:LW (H a))(hs:lL a s.heap h')(he:∃ q,h'.get? a=some q)(new:eQ X.prog X.w (upd H a ob) h' a ob) :
  Inv X pins σ (upd H a ob) { s with heap:=h',toks:=t' } :=
 I.write (x:=a) (e:=a) mu (.inl rfl) (fun b q hb z=>(hs.2 b hb).trans z) he new
theorem JI{P:bf}{w:World}{H':Hp}{h':Heap}{aQ:List (Key×V)}{vs:List (Key×Value)}(z:aQ.length<=aY)(hd:(a == c3)=false)(rel:KV aQ vs)(dd:h'.DictOf (c7 P w) a vs) :
  eQ P w H' h' a (.dK aQ):=⟨z,hd,vs,rel,dd⟩
theorem Cq{H':Hp}{Q:Unit->ak->Prop}(hu:A.units+1 < cLine)(I:Inv X pins σ H s)(g:CA H a y v H')(ry:RelV y u)(rv:RelV v r)(h:∀ s',Inv X pins σ H' s'->Q () s') :
  wpAny (model X.prog X.w) A (setItem (.ref a) u r) Q E s:=by
 rcases g with ⟨aQ,k,e,ey,l,eH⟩ | ⟨aQ,k,b,e,ey,eb,l,eH⟩
 ·subst ey eH;obtain⟨z,hd,vs,rel,dd⟩:=ye I.bY e;have hz:vs.length<=aY:=by rw [<-rel.length]; exact z
  have hl:(putK aQ k v).length<=aY:=by have:=qB aQ k v; lia
  refine wpAny_setItem_pairs (hsz:=hz) (xV ry) dd fun h' MB hs=>h _ ?_;have he:∃ q,h'.get? a=some q:=let ⟨q,_,_,hq,_⟩:=MB; ⟨q,hq⟩
  exact Bq I (by rw [e]; exact hW) hs he (JI hl hd (rel.put k rv) MB)
 ·subst ey eH;cases (show u=fN b from ry);obtain⟨z,hd,xs,rel,dd⟩:=H0 I.bY e;have hz:xs.length<=aY:=by rw [<-jK rel]; exact z
  have hl:(putK aQ k v).length<=aY:=by have:=qB aQ k v; lia
  refine wpAny_setItem_heap (hsz:=hz) (nJ hu) (sG I.bY eb) dd fun h' MB hs=>h _ ?_;obtain⟨q,es,ep,hq,h2,h3,h4,_,h5⟩:=MB;refine Bq I (by rw [e]; exact hW) hs ⟨q,hq⟩ ⟨hl,hd,_,(rel.put k eb rv).keeps fun c ys ec=>?_,q,es,ep,hq,h2,h3,h4,h5⟩;rw [bw (KZ ec e (fun z=>nomatch z))];exact ec
end
section
variable {X:Cx} {pins:List (Addr×Obj)} {σ:St} {H:Hp} {s:ak} {a:Addr} {aQ:List (Key×V)} {k:Key} {u:Value} {A:bW} {E:Value->ak->Prop}
theorem Ia {Q:Value->ak->Prop} (I:Inv X pins σ H s) (e:Rd H a (.dK aQ)) (h:∀ t s',Inv X pins σ H s'->Q (.int aQ.length t) s'):wpAny (model X.prog X.w) A (call (.builtin "len") [.ref a]) Q E s:=by
 obtain⟨z,hd,vs,rel,dd⟩:=nT I.bY e;refine call_len_dict hd dd (by rw [<-rel.length]; rw [bM] at z; lia) ?_;rw [<-rel.length];exact h _ _ (I.tok _)
theorem Hn{Q:Bool->ak->Prop}(I:Inv X pins σ H s)(e:Rd H a (.dK aQ))(h:∀ s',Inv X pins σ H s'->Q (!aQ.isEmpty) s'):wpAny (model X.prog X.w) A (truthy (.ref a)) Q E s:=by
 obtain⟨z,hd,vs,rel,dd⟩:=nT I.bY e;refine yO hd dd (by rw [<-rel.length]; rw [bM] at z; lia) ?_;have q:aQ.isEmpty=vs.isEmpty:=by cases rel <;> rfl
 rw [<-q];exact h _ (I.tok _)
end
theorem mQ {X:Cx} {pins:List (Addr×Obj)} {σ:St} {H:Hp} {s:ak} {a:Addr} {y:V} {o:Option V} (I:Inv X pins σ H s) (g:tR H a y o):s.TypeIs (.ref a) "dict":=by
 rcases g with ⟨aQ,k,e,_,_⟩ | ⟨aQ,k,b,e,_,_,_⟩
 ·obtain⟨_,_,vs,_,dd⟩:=nT I.bY e;exact dd.typeIs
 ·obtain⟨_,_,xs,_,dd⟩:=sZ I.bY e;exact dd.typeIs
theorem E3 {P:bf} {w:World} {H:Hp} (h:Heap) (hb:c3 < h.objs.size):eQ P w H (h.push { cls:=.type "dict",data:=.dict #[] }) h.objs.size (.dK []) :=
 ⟨bJ _,beq_eq_false_iff_ne.mpr (j8 (ba hb)),[],.nil,Heap.DictOf.new h⟩
noncomputable def Iy:TE:=fun _ H Q=>∀ p,H p=none->Q (.ref p) (upd H p (.dK []))
section
variable {X:Cx} {pos:Pos}
theorem D4:PE X (.Dict [] [] pos) Iy:=fun pins s σ H Q I h =>
 wpAny_Dict_empty ⟨.ref s.heap.objs.size,_,I.laid (a:=s.heap.objs.size) (o:=.dK []) (t':=s.toks) (fun _ _ q=>ar _ q) (aF _) (E3 s.heap I.big),rfl,h _ (I.bY.fresh (aF _))⟩
end
structure M1(X:Cx)(o:Expr)(m:Str)(apos:Pos)(e:Expr)(iS:Pos):Prop where
 base:xf o m X.env (eval o X.env)=eval o X.env
 CT:((kc iS (bI [e] X.env)).all (fun x=>!x.1)&&(backToKw iS (keywordEach [] X.env)).all (fun x=>x.1.isSome)
  && decide (([e]:List Expr).length+([]:List Dk).length+(if ([]:List Dk).isEmpty then 0 else 1) < 30))=true
 line:(apos.endLine == iS.line)=true
 trees:kc iS (bI [e] X.env)=[(false,eval e X.env)]
structure M2(X:Cx)(o:Expr)(m:Str)(apos:Pos)(e f:Expr)(iS:Pos):Prop where
 base:xf o m X.env (eval o X.env)=eval o X.env
 CT:((kc iS (bI [e,f] X.env)).all (fun x=>!x.1)&&(backToKw iS (keywordEach [] X.env)).all (fun x=>x.1.isSome)
  && decide (([e,f]:List Expr).length+([]:List Dk).length+(if ([]:List Dk).isEmpty then 0 else 1) < 30))=true
 line:(apos.endLine == iS.line)=true
 trees:kc iS (bI [e,f] X.env)=[(false,eval e X.env),(false,eval f X.env)]
noncomputable def Tr(H:Hp)(a:Addr):Prop:=(∃ aQ,Rd H a (.dK aQ))\/∃ aQ,Rd H a (.dT aQ)
theorem Es{X:Cx}{pins:List (Addr×Obj)}{σ:St}{H:Hp}{s:ak}{a:Addr}(I:Inv X pins σ H s)(d:Tr H a) :
  s.TypeIs (.ref a) "dict"/\(∀ b,fN a=.ref b->∃ ob,s.heap.get? b=some ob/\ob.dict=none)/\(a == c3)=false:=by
 rcases d with ⟨aQ,e⟩ | ⟨aQ,e⟩
 ·obtain⟨_,hd,vs,_,dd⟩:=nT I.bY e;refine⟨dd.typeIs,fun b q=>?_,hd⟩;cases q;obtain⟨ob,_,_,h1,h2,_⟩:=dd;exact⟨ob,h1,h2.2.1⟩
 ·obtain⟨_,hd,xs,_,dd⟩:=sZ I.bY e;refine⟨dd.typeIs,fun b q=>?_,hd⟩;cases q;obtain⟨ob,_,_,h1,h2,_⟩:=dd;exact⟨ob,h1,h2.2.1⟩
end L2
namespace Ql
open PySem PySem.W PySem.Calls PyProof.Rows
theorem qP{P:Params}{h:Heap}:∀ (ns:List Int) (vs:List Value),WellAll P h vs (ns.map WData.int)->jk vs ns:=by
 intro ns;induction ns with
 | nil =>
  intro vs w;rw [a9] at w;cases w;exact .nil
 | cons n ns ih =>
  intro vs w;rw [az] at w;cases w with
  | cons a b =>
   cases a;exact .cons _ _ (ih _ b)
theorem BO{l:Df}{n:Nat}(hn:l.most=some n){P:Params}{h:Heap}{args:List WData}{vals:List Value}
  (ug:l.row.toRowW.claim.pre args=true) (N7:WellAll P h vals args) :
  ∃ a vs ns,vals=[fN a]/\args=[WData.list (ns.map WData.int)]/\h.get? a=some { cls:=.type "list",data:=.seq vs.toArray }/\jk vs ns/\ns.length<=n:=by
 have Mi:WShape.hasAll [] args [.list .int]=true:=(pre_splitW ug).1;have hc:l.pre.holds [] { args:=args } = true:=(pre_splitW ug).2;obtain⟨d,r,rfl,h1,h2⟩:=hasAllW_cons Mi;obtain rfl:=hasAllW_nil h2;obtain⟨xs,rfl,h3⟩:=hasW_list h1;obtain⟨ns,rfl⟩:=items_int h3;have hlen:ns.length<=n:=by
  unfold OpenLaw.pre at hc;have h4:(WTm.not (.lt (.lit (.int (n:Int))) (.len (.arg 0)))).holds [] { args:=[.list (ns.map .int)] } = true:=by
   have h4:=(holds_andW hc).1;rw [hn] at h4;exact h4
  have h5:=condW_of h4 (w_not (w_lt w_lit (w_len_list (w_arg rfl))));rw [ah] at h5;refine Nat.le_of_not_lt fun q=>?_;have q':(n:Int) < ((ns.length:Nat):Int):=by lia
  first
   | (rw [decide_eq_true q'] at h5; exact absurd h5 (by decide))
   | (simp at h5; lia)
 cases N7 with
 | cons w1 w2 =>
  cases w2;cases w1 with
  | list ho EM=>exact⟨_,_,ns,rfl,rfl,ho,qP ns _ EM,hlen⟩
theorem BU(l:Df)(args:List WData):l.row.toRowW.claim.post args (.bool true) args=true :=
 postW_of (r:=l.row.toRowW) (X:=(true == true))
  (show WShape.has [] (.bool true) .bool=true by first | rfl | decide | simp [WShape.has,WShape.arms,WShape.armsAll])
  (show (WTm.eq .res (.lit (.bool true))).value [] { args:=args,res:=some (.bool true),after:=args } = some (.bool (true == true)) from w_eq_bool (w_res rfl) w_lit) rfl
theorem yq{l:Df}{n:Nat}{q:bf}{loose:List Str}{XP:(Str->Option Value)->Heap->Prop}{YP:World->Heap->Prop}{d:DefRec}
  (hn:l.most=some n) (OA:d.params.defaults=[])
  (call:∀ (w:World) (jG dc:ak) (mg mb:Str->Option Value) (fa:Addr) (o:Obj) (pm cd doc:Value) (a:Addr) (vs:List Value) (ns:List Int),
   Ground q loose [] XP w jG mg mb dc.heap->YP w dc.heap ->
   dc.heap.get? fa=some o->o.data=.func (docDef d.name d.params d.body d.scope pm cd doc)->dc.heap.CodeRec cd d.name->mg d.name=some (.ref fa) ->
   dc.heap.get? a=some { cls:=.type "list",data:=.seq vs.toArray }->jk vs ns->ns.length<=n->dc.gens=#[] ->
   rK (model l.prog w) Dc (.call (.ref fa) ⟨[.ref a],[]⟩) (fun r s'=>r=.ok (.ret (.bool true))/\OldK dc.heap s'.heap/\s'.os=dc.os/\vD s'.gens) dc) :
  WalkO q loose XP YP l.row.toRowW d [] (fun f vs=>PySem.call f vs):=by
 intro w jG dc mg mb G Y fa o pm cd doc dV kV ho hd w4 hD Li hg args vals as ug RH Og N7 TQ;obtain rfl:dV=.none:=Dflts.none hD OA;obtain rfl:kV=.none:=Dflts.noKw hD;obtain⟨a,vs,ns,rfl,rfl,Js,hints,hlen⟩:=BO hn ug N7;refine enter_call (codeAny_mono (call w jG dc mg mb fa o pm cd doc a vs ns G Y ho (fd_plain hd) w4 Li Js hints hlen hg) fun r s' hq=>?_);obtain⟨rfl,h2,h3,h4⟩:=hq;exact⟨.inl ⟨.bool true,.bool true,[],rfl,fun _=>rfl,.bool true,BU l _,fun _=>⟨List.Pairwise.nil,fun _ hm=>(nomatch hm)⟩⟩,h2,h3,h4⟩
end Ql
namespace L2
open PySem PySem.Spec PyProof.Rows
theorem uO:∀ {vs:List Value} {ns:List Int},jk vs ns->Vals (ns.map V.int) vs
 | _,_,.nil=>.nil
 | _,_,.cons n t h=>.cons ⟨t,rfl⟩ (uO h)
end L2
/- TY Tn ME (shape; TZ,My.* are Pb):
   My.T5: a structure of MZ addresses Qx Qq PD names (classes,Ke); My.Txt K t: a structure (Prop) of MZ equations over K;
   My.MY:{K} {implicit addresses ..} (e1:nsIn K bp "law" = some (some (.ref f))) (e2:K.lookup f=some ⟨oc,od,.func (fnOf "law" "law" params body scope dV kV doc pm an i0 ct),sl⟩) (e3:codeIn K i0 "law" = true) ..:∃ t,My.Txt K t
(MZ tactic k_is has no namespace: write k_is) -/
namespace L2
open PySem PySem.Spec PyProof.Rows
noncomputable def jQ(s:Stmt):Dl:=match s with
 | .FunctionDef _ a _ _ _ _ _ _ _ _=>a
 | _=>{ posonlyargs:=[],args:=[],vararg:=none,kwonlyargs:=[],kw_defaults:=[],kwarg:=none,defaults:=[] }
noncomputable def fA(s:Stmt):List Stmt:=match s with
 | .FunctionDef _ _ b _ _ _ _ _ _ _=>b
 | _=>[]
noncomputable def aO(s:Stmt):Scope:=match s with
 | .FunctionDef _ _ _ _ _ _ sc _ _ _=>sc
 | _=>{ kind:=.function,names:=[],isGenerator:=false,isCoroutine:=false }
noncomputable abbrev fJ:CZ:=fun _ _ _ _ _ _=>False
noncomputable abbrev E0:XK:=fun _ _ _=>False
theorem HN{X:Cx}:Passes fJ X E0:=fun _ _ _ _ _ _ _ h=>h.elim
structure nv(K:ag)(x qual:Str)(st:Stmt)(f:Addr)(fd:aE):Prop where
 ex:∃ (oc:Value) (od:Option Addr) (kV doc pm:Value) (an:Option Addr) (i0 ct:Value) (CM:Array (Option Value)),
  fd=gY x qual (jQ st) (fA st) (aO st) .none kV doc pm an i0 ct/\K.lookup f=some ⟨oc,od,.func fd,CM⟩/\xg K i0 qual=true
 kp:gy K (.ref f)=true
section
variable {P:bf} {w:World} {K:ag} {mg:Str->Option Value} {base:Heap}
theorem nv.ok{x qual:Str}{st:Stmt}{f:Addr}{fd:aE}{N ps:List Str}{k:Nat}{sp:Sp}(F:nv K x qual st f fd)(S:bL N ps (aO st))(len:∀ vs H Q E,sp vs H Q E->vs.length=ps.length)
  (EK:∀ (i0:Value) (A:bW) (outer:List Env) (s:ak) (H:Hp) (vs:List V) (Q:VK) (E:XK),gX k (A.deeper (rJ qual (aO st) s.heap.objs.size f i0))->sp vs H Q E ->
   ∃ t,Kh (tD fJ P w K mg base N qual (aO st) f i0 A outer s H E).FI (fA st) t/\t { nx:=fun _ H'=>Q .bX H',rt:=Q } (start N vs) H):eR P w K mg base fJ (k+1) f fd ps sp:=by
 obtain⟨oc,od,kV,doc,pm,an,i0,ct,CM,rfl,lk,w4⟩:=F.ex;refine HZ lk w4 S len fun A outer s H vs Q E hr Mh=>?_;obtain⟨t,h,q⟩:=EK i0 A outer s H vs Q E hr Mh;exact⟨t,h.FI,q⟩
theorem nv.binds{x qual:Str}{st:Stmt}{f:Addr}{fd:aE}{ps:List Str}(F:nv K x qual st f fd)
  (h:∀ (kV doc pm:Value) (an:Option Addr) (i0 ct:Value) (us:List Value),us.length=ps.length->bindArgs (gY x qual (jQ st) (fA st) (aO st) .none kV doc pm an i0 ct) ⟨us,[]⟩=pure (ps.zip us)):Binds K fd ps []:=by
 obtain⟨oc,od,kV,doc,pm,an,i0,ct,CM,rfl,lk,w4⟩:=F.ex;exact .all (h kV doc pm an i0 ct)
theorem JE{x qual:Str}{st:Stmt}{f:Addr}{oc:Value}{od an:Option Addr}{CM:Array (Option Value)}{kV doc pm i0 ct:Value}(l:K.lookup f=some ⟨oc,od,.func (gY x qual (jQ st) (fA st) (aO st) .none kV doc pm an i0 ct),CM⟩)
  (c:xg K i0 qual=true) (k:gy K (.ref f)=true):nv K x qual st f (gY x qual (jQ st) (fA st) (aO st) .none kV doc pm an i0 ct):=⟨⟨oc,od,kV,doc,pm,an,i0,ct,CM,rfl,l,c⟩,k⟩
end
end L2
set_option autoImplicit false
section
namespace K2
open PySem (Str)
inductive D where
 | bX | bl (b:Bool) | int (i:Int) | str (x:Str) | tup (ds:List D) | cO (ds:List D) | iC (aQ:List (D×D)) | ref (a:Nat) | exc (c:Str)
 deriving Inhabited
inductive GO where
 | lst (ds:List D)
 | iG (aQ:List (D×D))
noncomputable abbrev Gp:=Nat->Option GO
noncomputable def cf(G:Gp)(a:Nat)(o:GO):Gp:=fun b=>if b=a then some o else G b
theorem aG{G:Gp}{a:Nat}{o:GO}:cf G a o a=some o:=by unfold cf; rw [if_pos rfl]
theorem cN{G:Gp}{a b:Nat}{o:GO}(h:b≠a):cf G a o b=G b:=by unfold cf; rw [if_neg h]
noncomputable abbrev SZ:Nat:=16777216
structure Ex where
 cls:Str
 Si:List (Str×D)
noncomputable abbrev jz:=Ex->Gp->Prop
noncomputable abbrev fk:=List (Option D)
noncomputable abbrev DK:=D->Gp->Prop
noncomputable abbrev e7:=jz->fk->Gp->DK->Prop
noncomputable abbrev tL:=jz->fk->Gp->(Bool->Gp->Prop)->Prop
noncomputable abbrev yK:=jz->fk->Gp->(List D->Gp->Prop)->Prop
structure jB where
 nx:fk->Gp->Prop
 rt:DK
 bk:fk->Gp->Prop
 ct:fk->Gp->Prop
noncomputable abbrev gx:=jz->jB->fk->Gp->Prop
noncomputable abbrev lS:=List D->Gp->DK->jz->Prop
noncomputable abbrev vx:=D->D->Gp->DK->Prop
noncomputable def CN(n:Nat)(i:Int):Option Nat:=if 0<=i then (if i < n then some i.toNat else none) else if -(n:Int)<=i then some (i+n).toNat else none
noncomputable def pG{α:Type}(xs:List α)(i:Int):Option α:=(CN xs.length i).bind fun j=>xs[j]?
noncomputable def fY(n d:Nat):Option Int->Nat
 | none=>d
 | some v=>if v < 0 then (v+(n:Int)).toNat else min v.toNat n
noncomputable def cut{α:Type}(xs:List α)(lo hi:Option Int):List α:=(xs.drop (fY xs.length 0 lo)).take (fY xs.length xs.length hi - fY xs.length 0 lo)
mutual
noncomputable def fy:D->D->Bool
 | .bX,.bX=>true
 | .bl a,.bl b=>a == b
 | .bl a,.int b=>(if a then 1 else 0) == b
 | .int a,.bl b=>a == (if b then 1 else 0)
 | .int a,.int b=>a == b
 | .str a,.str b=>a == b
 | .tup a,.tup b=>iF a b
 | .cO a,.cO b=>iF a b
 | _,_=>false
noncomputable def iF:List D->List D->Bool
 | [],[]=>true
 | a :: r,b :: t=>fy a b&&iF r t
 | _,_=>false
end
mutual
noncomputable def nr:D->Bool
 | .ref _=>false
 | .exc _=>false
 | .iC _=>false
 | .str x=>x.cps.all (· < 0x110000)
 | .tup ds=>lA ds
 | .cO ds=>lA ds
 | _=>true
noncomputable def lA:List D->Bool
 | []=>true
 | d :: r=>nr d&&lA r
end
class inductive Sn (G:Gp):Nat->D->D->Prop
 | bX {n:Nat}:Sn G n .bX .bX
 | bl {n:Nat} (b:Bool):Sn G n (.bl b) (.bl b)
 | int {n:Nat} (i:Int):Sn G n (.int i) (.int i)
 | str {n:Nat} (x:Str) (h:x.cps.all (· < 0x110000)=true):Sn G n (.str x) (.str x)
 | zd {n:Nat}:Sn G (n+1) (.tup []) (.tup [])
 | l8 {n:Nat} {d s:D} {ds ss:List D}:Sn G n d s->Sn G (n+1) (.tup ds) (.tup ss)->Sn G (n+1) (.tup (d :: ds)) (.tup (s :: ss))
 | DO {n:Nat}:Sn G (n+1) (.cO []) (.cO [])
 | xA {n:Nat} {d s:D} {ds ss:List D}:Sn G n d s->Sn G (n+1) (.cO ds) (.cO ss)->Sn G (n+1) (.cO (d :: ds)) (.cO (s :: ss))
 | ref {n:Nat} {a:Nat} {ds ss:List D}:G a=some (.lst ds)->Sn G n (.cO ds) (.cO ss)->Sn G n (.ref a) (.cO ss)
noncomputable abbrev SN:Nat:=8
theorem Sn.nr{G:Gp}{n:Nat}{d t:D}(h:Sn G n d t):K2.nr t=true:=by
 induction h with
 | bX=>rfl
 | bl b=>rfl
 | int i=>rfl
 | str x h=>exact h
 | zd=>rfl
 | l8 _ _ Ez Ey =>
  show (K2.nr _&&K2.lA _)=true;rw [Ez];exact Ey
 | DO=>rfl
 | xA _ _ Ez Ey =>
  show (K2.nr _&&K2.lA _)=true;rw [Ez];exact Ey
 | ref _ _ ih=>exact ih
noncomputable def cC:D->Bool
 | .int _=>true
 | .str _=>true
 | _=>false
noncomputable def BJ:D->Gp->Option Bool
 | .bX,_=>some false
 | .bl b,_=>some b
 | .int i,_=>some (i != 0)
 | .str x,_=>if x.length<=SZ then some ((x.length:Int) != 0) else none
 | .tup ds,_=>some (!ds.isEmpty)
 | .cO ds,_=>some (!ds.isEmpty)
 | .exc _,_=>none
 | .iC aQ,_=>if (aQ.all fun p=>cC p.1)=true then some (!aQ.isEmpty) else none
 | .ref a,G=>match G a with
  | some (.lst ds)=>some (!ds.isEmpty)
  | some (.iG aQ)=>if (aQ.all fun p=>cC p.1)=true then some (!aQ.isEmpty) else none
  | none=>none
noncomputable def ay(i:Nat):e7:=fun _ τ G Q=>match τ[i]? with
 | some (some d)=>Q d G
 | _=>False
noncomputable def dC(d:D):e7:=fun _ _ G Q=>Q d G
noncomputable def a7:yK:=fun _ _ G Q=>Q [] G
noncomputable def aJ(a:e7)(r:yK):yK:=fun E τ G Q=>a E τ G fun x G1=>r E τ G1 fun xs G2=>Q (x :: xs) G2
noncomputable def qV(t:yK):e7:=fun E τ G Q=>t E τ G fun ds G1=>ds.length<=SZ/\Q (.tup ds) G1
noncomputable def fH(t:yK):e7:=fun E τ G Q=>t E τ G fun ds G1=>ds.length<=SZ/\∀ p,G1 p=none->Q (.ref p) (cf G1 p (.lst ds))
noncomputable def bh(r:vx)(a b:e7):e7:=fun E τ G Q=>a E τ G fun x G1=>b E τ G1 fun y G2=>r x y G2 Q
noncomputable def Qa(r:D->Gp->DK->Prop)(a:e7):e7:=fun E τ G Q=>a E τ G fun x G1=>r x G1 Q
noncomputable def ja(G:Gp)(o:GO)(Q:DK):Prop:=∀ p,G p=none->Q (.ref p) (cf G p o)
noncomputable def MulOk(i j:Int):Prop:=(-(2 ^ 64) < i/\i < 2 ^ 64)\/(-(2 ^ 64) < j/\j < 2 ^ 64)
noncomputable def mG:D->Gp->Option (List D)
 | .cO ds,_=>some ds
 | .ref a,G=>match G a with
  | some (.lst ds)=>some ds
  | _=>none
 | _,_=>none
noncomputable def qp(x y:D)(G:Gp)(Q:DK):Prop:=match mG x G,mG y G with
 | some xs,some ys=>xs.length+ys.length<=SZ/\ja G (.lst (xs++ys)) Q
 | _,_=>False
noncomputable def iR:vx
 | .int i,.int j,G,Q=>Q (.int (i+j)) G
 | .str a,.str b,G,Q=>a.length+b.length<=SZ/\Q (.str (a++b)) G
 | .tup a,.tup b,G,Q=>a≠[]/\a.length+b.length<=SZ/\Q (.tup (a++b)) G
 | x,y,G,Q=>qp x y G Q
noncomputable def IK:vx
 | .int i,.int j,G,Q=>Q (.int (i - j)) G
 | _,_,_,_=>False
noncomputable def xC:vx
 | .int i,.int j,G,Q=>MulOk i j/\Q (.int (i * j)) G
 | _,_,_,_=>False
noncomputable def nG:vx
 | .int i,.int j,G,Q=>0 < j/\Q (.int (i % j)) G
 | _,_,_,_=>False
noncomputable def uU:vx
 | .int i,.int j,G,Q=>0 < j/\j < 2 ^ 30/\Q (.int (i / j)) G
 | _,_,_,_=>False
noncomputable def Nj:D->Gp->DK->Prop
 | .int i,G,Q=>Q (.int (-i)) G
 | _,_,_=>False
noncomputable def KH(neg:Bool):vx:=fun x y G Q=>∃ a b,Sn G SN x a/\Sn G SN y b/\Q (.bl (if neg then !fy a b else fy a b)) G
noncomputable def lexLt:List Int->List Int->Bool
 | [],[]=>false
 | [],_ :: _=>true
 | _ :: _,[]=>false
 | x :: xs,y :: ys=>if x=y then lexLt xs ys else decide (x < y)
noncomputable def L7:vx
 | .int i,.int j,G,Q=>Q (.bl (decide (i < j))) G
 | .tup a,.tup b,G,Q=>∃ xs ys,a=xs.map D.int/\b=ys.map D.int/\Q (.bl (lexLt xs ys)) G
 | _,_,_,_=>False
noncomputable def QR:vx
 | .int i,.int j,G,Q=>Q (.bl (decide (i<=j))) G
 | _,_,_,_=>False
noncomputable def QS:vx
 | .int i,.int j,G,Q=>Q (.bl (decide (i > j))) G
 | _,_,_,_=>False
noncomputable def QT:vx
 | .int i,.int j,G,Q=>Q (.bl (decide (i>=j))) G
 | _,_,_,_=>False
noncomputable def itemsOf:D->Gp->Option (List D)
 | .tup ds,_=>some ds
 | .cO ds,_=>some ds
 | .ref a,G=>match G a with
  | some (.lst ds)=>some ds
  | _=>none
 | _,_=>none
noncomputable def n5:D->Bool
 | .tup ds=>ds.all cC
 | _=>false
noncomputable def fh(aQ:List (D×D))(k:D):Bool:=(cC k&&aQ.all fun p=>cC p.1)||(n5 k&&aQ.all fun p=>n5 p.1)
noncomputable def look(aQ:List (D×D))(k:D):Option D:=(aQ.find? fun p=>fy p.1 k).map (·.2)
noncomputable def put(aQ:List (D×D))(k v:D):List (D×D) :=
 if (aQ.any fun p=>fy p.1 k)=true then aQ.map (fun p=>if fy p.1 k=true then (p.1,v) else p) else aQ++[(k,v)]
noncomputable def yJ(neg:Bool):vx:=fun x y G Q=>match y with
 | .ref a=>(match G a with
  | some (.iG aQ)=>fh aQ x=true/\Q (.bl (if neg then !(look aQ x).isSome else (look aQ x).isSome)) G
  | some (.lst ds)=>∃ s ss,Sn G SN x s/\Sn G SN (.cO ds) (.cO ss)/\Q (.bl (if neg then !ss.any (fy · s) else ss.any (fy · s))) G
  | none=>False)
 | .iC aQ=>aQ≠[]/\fh aQ x=true/\Q (.bl (if neg then !(look aQ x).isSome else (look aQ x).isSome)) G
 | .tup ds=>∃ s ss,Sn G SN x s/\Sn G SN (.cO ds) (.cO ss)/\Q (.bl (if neg then !ss.any (fy · s) else ss.any (fy · s))) G
 | .cO ds=>∃ s ss,Sn G SN x s/\Sn G SN (.cO ds) (.cO ss)/\Q (.bl (if neg then !ss.any (fy · s) else ss.any (fy · s))) G
 | _=>False
noncomputable def nQ:vx
 | .tup ds,.int i,G,Q=>(match pG ds i with
  | some d=>Q d G
  | none=>False)
 | .cO ds,.int i,G,Q=>(match pG ds i with
  | some d=>Q d G
  | none=>False)
 | .iC aQ,k,G,Q=>fh aQ k=true/\(match look aQ k with
  | some d=>Q d G
  | none=>False)
 | .ref a,k,G,Q=>(match G a with
  | some (.lst ds)=>(match k with
   | .int i=>(match pG ds i with
    | some d=>Q d G
    | none=>False)
   | _=>False)
  | some (.iG aQ)=>fh aQ k=true/\(match look aQ k with
   | some d=>Q d G
   | none=>False)
  | none=>False)
 | _,_,_,_=>False
noncomputable abbrev LV:=jz->fk->Gp->(Option Int->Gp->Prop)->Prop
noncomputable def dB:LV:=fun _ _ G Q=>Q none G
noncomputable def jR(t:e7):LV:=fun E τ G Q=>t E τ G fun x G1=>match x with
 | .int i=>Q (some i) G1
 | _=>False
noncomputable def DV:D->Option Int->Option Int->Gp->DK->Prop
 | .tup ds,lo,hi,G,Q=>¬ (fY ds.length 0 lo=0/\fY ds.length ds.length hi=ds.length)/\Q (.tup (cut ds lo hi)) G
 | .cO ds,lo,hi,G,Q=>ja G (.lst (cut ds lo hi)) Q
 | .ref a,lo,hi,G,Q=>(match G a with
  | some (.lst ds)=>ja G (.lst (cut ds lo hi)) Q
  | _=>False)
 | _,_,_,_,_=>False
noncomputable def vh(a:e7)(lo hi:LV):e7:=fun E τ G Q=>a E τ G fun x G1=>lo E τ G1 fun l G2=>hi E τ G2 fun h G3=>DV x l h G3 Q
noncomputable def gT(a:e7):tL:=fun E τ G Q=>a E τ G fun x G1=>match BJ x G1 with
 | some b=>Q b G1
 | none=>False
noncomputable def LJ(a b:tL):tL:=fun E τ G Q=>a E τ G fun c G1=>if c=true then b E τ G1 Q else Q false G1
noncomputable def CU(a b:tL):tL:=fun E τ G Q=>a E τ G fun c G1=>if c=true then Q true G1 else b E τ G1 Q
noncomputable def j3(a:tL):tL:=fun E τ G Q=>a E τ G fun c G1=>Q (!c) G1
noncomputable def Bs(a b:e7):e7:=fun E τ G Q=>a E τ G fun x G1=>match BJ x G1 with
 | some true=>b E τ G1 Q
 | some false=>Q x G1
 | none=>False
noncomputable def Ho(a b:e7):e7:=fun E τ G Q=>a E τ G fun x G1=>match BJ x G1 with
 | some true=>Q x G1
 | some false=>b E τ G1 Q
 | none=>False
noncomputable def E8(a:e7):e7:=fun E τ G Q=>a E τ G fun x G1=>match BJ x G1 with
 | some c=>Q (.bl (!c)) G1
 | none=>False
noncomputable def bH(sp:lS)(t:yK):e7:=fun E τ G Q=>t E τ G fun ds G1=>sp ds G1 Q fun _ _=>False
noncomputable def lR(r:List D->Gp->DK->Prop)(t:yK):e7:=fun E τ G Q=>t E τ G fun ds G1=>r ds G1 Q
noncomputable def wX(x:D)(G:Gp):Prop:=match x with
 | .ref a=>(match G a with
  | some (.lst _)=>True
  | _=>False)
 | .cO _=>True
 | _=>False
noncomputable def MX(x:D)(G:Gp):Prop:=match x with
 | .iC _=>True
 | .ref a=>(match G a with
  | some (.iG _)=>True
  | _=>False)
 | _=>False
noncomputable def Qu(x:D)(_:Gp):Prop:=match x with
 | .str _=>True
 | _=>False
noncomputable def w6(ty:D->Gp->Prop)(r:D->List D->Gp->DK->Prop)(o:e7)(t:yK):e7:=fun E τ G Q=>o E τ G fun x G1=>ty x G1/\t E τ G1 fun ds G2=>r x ds G2 Q
noncomputable def lenOf:D->Gp->Option Nat
 | .tup ds,_=>some ds.length
 | .cO ds,_=>some ds.length
 | .str x,_=>if x.length<=SZ then some x.length else none
 | .iC aQ,_=>if (aQ.all fun p=>cC p.1)=true then some aQ.length else none
 | .ref a,G=>match G a with
  | some (.lst ds)=>some ds.length
  | some (.iG aQ)=>if (aQ.all fun p=>cC p.1)=true then some aQ.length else none
  | none=>none
 | _,_=>none
noncomputable def jy(ds:List D)(G:Gp)(Q:DK):Prop:=match ds with
 | [x]=>(match lenOf x G with
  | some n=>Q (.int (n:Int)) G
  | none=>False)
 | _=>False
noncomputable def tH(ds:List D)(G:Gp)(Q:DK):Prop:=match ds with
 | [x]=>(match itemsOf x G with
  | some xs=>ja G (.lst xs) Q
  | none=>False)
 | _=>False
noncomputable def J4(C:String):D->Gp->Option Bool
 | .bX,_=>some false
 | .bl _,_=>some (C == "bool" || C == "int")
 | .int _,_=>some (C == "int")
 | .str _,_=>some (C == "str")
 | .tup _,_=>some (C == "tuple")
 | .cO _,_=>some (C == "list")
 | .iC _,_=>some (C == "dict")
 | .exc _,_=>none
 | .ref a,G=>match G a with
  | some (.lst _)=>some (C == "list")
  | some (.iG _)=>some (C == "dict")
  | none=>none
noncomputable def wF(C:String)(a:e7):e7:=fun E τ G Q=>a E τ G fun x G1=>match J4 C x G1 with
 | some b=>Q (.bl b) G1
 | none=>False
noncomputable def Hu(ds:List D)(G:Gp)(Q:DK):Prop:=match ds with
 | [x]=>∃ bs:List Bool,itemsOf x G=some (bs.map D.bl)/\Q (.bl (bs.all id)) G
 | _=>False
noncomputable def ng(x:D)(ds:List D)(G:Gp)(Q:DK):Prop:=match x,ds with
 | .ref a,[d]=>(match G a with
  | some (.lst xs)=>xs.length < SZ/\Q .bX (cf G a (.lst (xs++[d])))
  | _=>False)
 | _,_=>False
noncomputable def o6(x:D)(ds:List D)(G:Gp)(Q:DK):Prop:=match x,ds with
 | .ref a,[y]=>(match G a,mG y G with
  | some (.lst xs),some ys=>xs.length+ys.length<=SZ/\Q .bX (cf G a (.lst (xs++ys)))
  | _,_=>False)
 | _,_=>False
noncomputable def o4(x:D)(ds:List D)(G:Gp)(Q:DK):Prop:=match x,ds with
 | .ref a,[.int i,d]=>(match G a with
  | some (.lst xs)=>0<=i/\i<=xs.length/\xs.length < SZ/\Q .bX (cf G a (.lst (xs.take i.toNat++d :: xs.drop i.toNat)))
  | _=>False)
 | _,_=>False
noncomputable def vZ(x:D)(ds:List D)(G:Gp)(Q:DK):Prop:=match ds with
 | [d]=>wX x G/\∃ xs s ss,itemsOf x G=some xs/\Sn G SN d s/\Sn G SN (.cO xs) (.cO ss)/\(match ss.findIdx? (fy · s) with
  | some k=>Q (.int (k:Int)) G
  | none=>False)
 | _=>False
noncomputable def xQ(x:D)(ds:List D)(G:Gp)(Q:DK):Prop:=match x,ds with
 | .ref a,[k,d]=>(match G a with
  | some (.iG aQ)=>fh aQ k=true/\cC k=true/\(match look aQ k with
   | some v=>Q v G
   | none=>aQ.length < SZ/\Q d (cf G a (.iG (put aQ k d))))
  | _=>False)
 | _,_=>False
noncomputable def cZ:gx:=fun _ K τ G=>K.nx τ G
noncomputable def cB(a b:gx):gx:=fun E K τ G=>a E { K with nx:=b E K } τ G
noncomputable def gw(a:e7):gx:=fun E K τ G=>a E τ G fun _ G1=>K.nx τ G1
noncomputable def cm(a:e7):gx:=fun E K τ G=>a E τ G K.rt
noncomputable def Ib:gx:=fun _ K _ G=>K.rt .bX G
noncomputable def fQ(c:tL)(a b:gx):gx:=fun E K τ G=>c E τ G fun k G1=>if k=true then a E K τ G1 else b E K τ G1
noncomputable abbrev vw:=jz->D->fk->Gp->(fk->Gp->Prop)->Prop
noncomputable abbrev wL:=jz->List D->fk->Gp->(fk->Gp->Prop)->Prop
noncomputable def aM(i:Nat):vw:=fun _ d τ G Q=>Q (τ.set i (some d)) G
noncomputable def zL:wL:=fun _ ds τ G Q=>match ds with
 | []=>Q τ G
 | _=>False
noncomputable def mK(t:vw)(r:wL):wL:=fun E ds τ G Q=>match ds with
 | d :: ds=>t E d τ G fun oF G1=>r E ds oF G1 Q
 | _=>False
noncomputable def Cg(t:wL):vw:=fun E d τ G Q=>match d with
 | .tup ds=>t E ds τ G Q
 | _=>False
noncomputable def AI(o k d:D)(G:Gp)(Q:Gp->Prop):Prop:=match o with
 | .ref a=>(match G a with
  | some (.lst xs)=>(match k with
   | .int i=>(match CN xs.length i with
    | some j=>Q (cf G a (.lst (xs.set j d)))
    | none=>False)
   | _=>False)
  | some (.iG aQ)=>fh aQ k=true/\aQ.length < SZ/\Q (cf G a (.iG (put aQ k d)))
  | none=>False)
 | _=>False
noncomputable def ER(o k:e7):vw:=fun E d τ G Q=>o E τ G fun x G1=>k E τ G1 fun y G2=>AI x y d G2 fun G3=>Q τ G3
noncomputable def bV(a:e7)(g:vw):gx:=fun E K τ G=>a E τ G fun x G1=>g E x τ G1 K.nx
noncomputable abbrev Ih:=jz->fk->Gp->(List D->(Gp->Prop)->Gp->Prop)->Prop
noncomputable def g8(a:e7):Ih:=fun E τ G R=>a E τ G fun x G1=>match x with
 | .tup ds=>R ds (fun _=>True) G1
 | .cO ds=>R ds (fun _=>True) G1
 | .ref p=>(match G1 p with
  | some (.lst ds)=>R ds (fun G2=>G2 p=some (.lst ds)) G1
  | _=>False)
 | _=>False
noncomputable def fe(lo:Int)(n:Nat):List D:=(bK n).map fun (i:Nat)=>D.int (lo+(i:Int))
noncomputable def sM(a:e7):Ih:=fun E τ G R=>a E τ G fun x G1=>match x with
 | .int n=>-(2 ^ 62)<=n/\n < 2 ^ 62/\R (fe 0 n.toNat) (fun _=>True) G1
 | _=>False
noncomputable def nS(g:vw)(body:gx)(ok:Gp->Prop):List D->gx
 | []=>fun _ K τ G=>ok G/\K.nx τ G
 | d :: r=>fun E K τ G=>ok G/\g E d τ G fun oF G1=>body E { K with nx:=nS g body ok r E K,ct:=nS g body ok r E K,bk:=K.nx } oF G1
noncomputable def fi(i:Ih)(g:vw)(body:gx):gx:=fun E K τ G=>i E τ G fun ds ok G1=>nS g body ok ds E K τ G1
noncomputable def xi(c:tL)(body:gx):Nat->gx
 | 0=>fun _ _ _ _=>False
 | n+1=>fun E K τ G=>c E τ G fun k G1=>if k=true then body E { K with nx:=xi c body n E K,ct:=xi c body n E K,bk:=K.nx } τ G1 else K.nx τ G1
noncomputable def E7(c:tL)(body:gx):gx:=fun E K τ G=>∃ n,xi c body n E K τ G
noncomputable def ie(g:vw)(c:Option tL)(e:e7)(ok:Gp->Prop):List D->jz->fk->Gp->List D->(List D->Gp->Prop)->Prop
 | [],_,_,G,acc,Q=>ok G/\Q acc G
 | d :: r,E,τ,G,acc,Q=>ok G/\g E d τ G fun oF G1=>match c with
  | none=>e E oF G1 fun x G2=>ie g c e ok r E oF G2 (acc++[x]) Q
  | some c=>c E oF G1 fun k G2=>if k=true then e E oF G2 fun x G3=>ie g (some c) e ok r E oF G3 (acc++[x]) Q else ie g (some c) e ok r E oF G2 acc Q
noncomputable def tF(m:Nat)(fr:List Nat)(τ:fk):fk:=aT m none++fr.map fun i=>(τ[i]?).getD none
noncomputable def dg(m:Nat)(fr:List Nat)(i:Ih)(g:vw)(c:Option tL)(e:e7):e7:=fun E τ G Q =>
 i E τ G fun ds ok G1=>ds.length<=SZ/\ie g c e ok ds (fun _ _=>False) (tF m fr τ) G1 [] fun xs G2=>ja G2 (.lst xs) Q
noncomputable abbrev tI(ns:List Int):D:=.tup (ns.map D.int)
noncomputable def NN:List Int->Option Int
 | []=>none
 | a :: r=>some (r.foldl (fun m x=>if x < m then x else m) a)
noncomputable def NM:List (List Int)->Option (List Int)
 | []=>none
 | a :: r=>some (r.foldl (fun m x=>if lexLt x m=true then x else m) a)
noncomputable def Fh(ds:List D)(G:Gp)(Q:DK):Prop:=match ds with
 | [x]=>(∃ ns m,itemsOf x G=some (ns.map D.int)/\NN ns=some m/\Q (.int m) G)\/∃ L9 m,itemsOf x G=some (L9.map tI)/\NM L9=some m/\Q (tI m) G
 | _=>False
noncomputable def zY:e7:=fun _ _ G Q=>ja G (.iG []) Q
noncomputable def eY(G G':Gp):Prop:=∀ a o,G a=some o->G' a=some o
theorem eY.refl(G:Gp):eY G G:=fun _ _ h=>h
theorem eY.trans{G G1 G2:Gp}(a:eY G G1)(b:eY G1 G2):eY G G2:=fun c o h=>b c o (a c o h)
theorem eY.new{G:Gp}{p:Nat}{o:GO}(h:G p=none):eY G (cf G p o):=fun a ob e=>by
 by_cases ha:a=p
 ·subst ha; rw [h] at e; cases e
 ·rw [cN ha]; exact e
theorem eY.free{G G':Gp}{p:Nat}(l:eY G G')(h:G' p=none):G p=none:=by
 cases q:G p with
 | none=>rfl
 | some o=>rw [l p o q] at h; cases h
theorem eY.put{G G':Gp}{p:Nat}{o:GO}(l:eY G G')(h:G p=none):eY G (cf G' p o):=fun a ob e=>by
 by_cases ha:a=p
 ·subst ha; rw [h] at e; cases e
 ·rw [cN ha]; exact l a ob e
noncomputable def ends(Q:DK):jB:=⟨fun _ G=>Q .bX G,Q,fun _ _=>False,fun _ _=>False⟩
noncomputable def bb(n:Nat)(ds:List D):fk:=ds.map some++aT (n - ds.length) none
noncomputable def Hg(x:D)(G1:Gp)(R:List D->(Gp->Prop)->Gp->Prop):Prop:=match x with
 | .tup ds=>R ds (fun _=>True) G1
 | .cO ds=>R ds (fun _=>True) G1
 | .ref p=>(match G1 p with
  | some (.lst ds)=>R ds (fun G2=>G2 p=some (.lst ds)) G1
  | _=>False)
 | _=>False
noncomputable def zm(x:D)(G1:Gp)(Q:Option Int->Gp->Prop):Prop:=match x with
 | .int i=>Q (some i) G1
 | _=>False
noncomputable def qv(x:D)(G1:Gp)(Q:Bool->Gp->Prop):Prop:=match BJ x G1 with
 | some b=>Q b G1
 | none=>False
noncomputable def HH(x:D)(G1:Gp)(R:List D->(Gp->Prop)->Gp->Prop):Prop:=match x with
 | .int n=>-(2 ^ 62)<=n/\n < 2 ^ 62/\R (fe 0 n.toNat) (fun _=>True) G1
 | _=>False
noncomputable def isAt(C:String)(x:D)(G1:Gp)(Q:DK):Prop:=match J4 C x G1 with
 | some b=>Q (.bl b) G1
 | none=>False
theorem eL{i j:Int}{G:Gp}{Q:DK}:iR (.int i) (.int j) G Q=Q (.int (i+j)) G:=rfl
theorem xD{a b:List D}{G:Gp}{Q:DK}:iR (.tup a) (.tup b) G Q=(a≠[]/\a.length+b.length<=SZ/\Q (.tup (a++b)) G):=rfl
theorem sd{i j:Int}{G:Gp}{Q:DK}:IK (.int i) (.int j) G Q=Q (.int (i - j)) G:=rfl
theorem my{i j:Int}{G:Gp}{Q:DK}:xC (.int i) (.int j) G Q=(MulOk i j/\Q (.int (i * j)) G):=rfl
theorem eK{i j:Int}{G:Gp}{Q:DK}:nG (.int i) (.int j) G Q=(0 < j/\Q (.int (i % j)) G):=rfl
theorem mY{i j:Int}{G:Gp}{Q:DK}:uU (.int i) (.int j) G Q=(0 < j/\j < 2 ^ 30/\Q (.int (i / j)) G):=rfl
theorem xB{i:Int}{G:Gp}{Q:DK}:Nj (.int i) G Q=Q (.int (-i)) G:=rfl
theorem vQ{i j:Int}{G:Gp}{Q:DK}:L7 (.int i) (.int j) G Q=Q (.bl (decide (i < j))) G:=rfl
theorem AM{i j:Int}{G:Gp}{Q:DK}:QR (.int i) (.int j) G Q=Q (.bl (decide (i<=j))) G:=rfl
theorem AO{i j:Int}{G:Gp}{Q:DK}:QS (.int i) (.int j) G Q=Q (.bl (decide (i > j))) G:=rfl
theorem AP{i j:Int}{G:Gp}{Q:DK}:QT (.int i) (.int j) G Q=Q (.bl (decide (i>=j))) G:=rfl
theorem Gu{ds:List D}{i:Int}{d:D}{G:Gp}{Q:DK}(h:pG ds i=some d):nQ (.cO ds) (.int i) G Q=Q d G:=by unfold nQ; simp only [h]
theorem Gw{a:Nat}{ds:List D}{i:Int}{d:D}{G:Gp}{Q:DK}(h1:G a=some (.lst ds))(h:pG ds i=some d):nQ (.ref a) (.int i) G Q=Q d G:=by unfold nQ; simp only [h1,h]
theorem rm{ds:List D}{lo hi:Option Int}{G:Gp}{Q:DK}:DV (.tup ds) lo hi G Q=(¬ (fY ds.length 0 lo=0/\fY ds.length ds.length hi=ds.length)/\Q (.tup (cut ds lo hi)) G):=rfl
theorem rn{ds:List D}{lo hi:Option Int}{G:Gp}{Q:DK}:DV (.cO ds) lo hi G Q=ja G (.lst (cut ds lo hi)) Q:=rfl
theorem Gr{a:Nat}{ds:List D}{lo hi:Option Int}{G:Gp}{Q:DK}(h:G a=some (.lst ds)):DV (.ref a) lo hi G Q=ja G (.lst (cut ds lo hi)) Q:=by unfold DV; simp only [h]
theorem tJ{ds:List D}{G:Gp}{Q:DK}:jy [.cO ds] G Q=Q (.int (ds.length:Int)) G:=rfl
theorem pF{ds:List D}{G:Gp}{Q:DK}:jy [.tup ds] G Q=Q (.int (ds.length:Int)) G:=rfl
theorem Fm{a:Nat}{ds:List D}{G:Gp}{Q:DK}(h:G a=some (.lst ds)):jy [.ref a] G Q=Q (.int (ds.length:Int)) G:=by unfold jy lenOf; simp only [h]
theorem cw{a:e7}{E:jz}{τ:fk}{G:Gp}{R:List D->(Gp->Prop)->Gp->Prop}:g8 a E τ G R=a E τ G fun x G1=>Hg x G1 R:=by
 unfold g8 Hg; rfl
theorem Bf{ds:List D}{G:Gp}{R:List D->(Gp->Prop)->Gp->Prop}:Hg (.cO ds) G R=R ds (fun _=>True) G:=rfl
theorem wa{ds:List D}{G:Gp}{R:List D->(Gp->Prop)->Gp->Prop}:Hg (.tup ds) G R=R ds (fun _=>True) G:=rfl
theorem Bg{a:Nat}{ds:List D}{G:Gp}{R:List D->(Gp->Prop)->Gp->Prop}(h:G a=some (.lst ds)):Hg (.ref a) G R=R ds (fun G2=>G2 a=some (.lst ds)) G:=by unfold Hg; simp only [h]
theorem iI{t:e7}{E:jz}{τ:fk}{G:Gp}{Q:Option Int->Gp->Prop}:jR t E τ G Q=t E τ G fun x G1=>zm x G1 Q:=rfl
theorem gj{i:Int}{G:Gp}{Q:Option Int->Gp->Prop}:zm (.int i) G Q=Q (some i) G:=rfl
theorem dA{a:e7}{E:jz}{τ:fk}{G:Gp}{Q:Bool->Gp->Prop}:gT a E τ G Q=a E τ G fun x G1=>qv x G1 Q:=rfl
theorem bS{b:Bool}{G:Gp}{Q:Bool->Gp->Prop}:qv (.bl b) G Q=Q b G:=rfl
theorem jx{a:e7}{E:jz}{τ:fk}{G:Gp}{R:List D->(Gp->Prop)->Gp->Prop}:sM a E τ G R=a E τ G fun x G1=>HH x G1 R:=rfl
theorem ia{n:Int}{G:Gp}{R:List D->(Gp->Prop)->Gp->Prop}:HH (.int n) G R=(-(2 ^ 62)<=n/\n < 2 ^ 62/\R (fe 0 n.toNat) (fun _=>True) G):=rfl
theorem jS{C:String}{a:e7}{E:jz}{τ:fk}{G:Gp}{Q:DK}:wF C a E τ G Q=a E τ G fun x G1=>isAt C x G1 Q:=rfl
theorem sL {C:String} {i:Int} {G:Gp} {Q:DK}:isAt C (.int i) G Q=Q (.bl (C == "int")) G:=rfl
theorem pq {C:String} {ds:List D} {G:Gp} {Q:DK}:isAt C (.tup ds) G Q=Q (.bl (C == "tuple")) G:=rfl
theorem Eu {C:String} {a:Nat} {ds:List D} {G:Gp} {Q:DK} (h:G a=some (.lst ds)):isAt C (.ref a) G Q=Q (.bl (C == "list")) G:=by unfold isAt J4; simp only [h]
theorem tx{a b:e7}{E:jz}{τ:fk}{G:Gp}{Q:DK}:Bs a b E τ G Q=a E τ G fun x G1=>qv x G1 fun k G2=>if k=true then b E τ G2 Q else Q x G2:=by
 unfold Bs qv;refine congrArg (a E τ G) ?_;funext x G1;cases BJ x G1 with
 | none=>rfl
 | some k=>cases k <;> simp
theorem wD{a b:e7}{E:jz}{τ:fk}{G:Gp}{Q:DK}:Ho a b E τ G Q=a E τ G fun x G1=>qv x G1 fun k G2=>if k=true then Q x G2 else b E τ G2 Q:=by
 unfold Ho qv;refine congrArg (a E τ G) ?_;funext x G1;cases BJ x G1 with
 | none=>rfl
 | some k=>cases k <;> simp
theorem tw{a:e7}{E:jz}{τ:fk}{G:Gp}{Q:DK}:E8 a E τ G Q=a E τ G fun x G1=>qv x G1 fun k G2=>Q (.bl (!k)) G2:=rfl
theorem sf{a:Nat}{y:D}{G:Gp}{Q:DK}:iR (.ref a) y G Q=qp (.ref a) y G Q:=by cases y <;> rfl
theorem se{a:List D}{y:D}{G:Gp}{Q:DK}:iR (.cO a) y G Q=qp (.cO a) y G Q:=by cases y <;> rfl
theorem vO{a:Nat}{lo hi:Option Int}{G:Gp}{Q:DK}:DV (.ref a) lo hi G Q=(match G a with
  | some (.lst ds)=>ja G (.lst (cut ds lo hi)) Q
  | _=>False):=rfl
theorem Gv{a:Nat}{k:D}{G:Gp}{Q:DK}:nQ (.ref a) k G Q=(match G a with
  | some (.lst ds)=>(match k with
   | .int i=>(match pG ds i with
    | some d=>Q d G
    | none=>False)
   | _=>False)
  | some (.iG aQ)=>fh aQ k=true/\(match look aQ k with
   | some d=>Q d G
   | none=>False)
  | none=>False):=by unfold nQ; cases k <;> rfl
theorem jt{ds:List D}{i:Int}{G:Gp}{Q:DK}:nQ (.tup ds) (.int i) G Q=(match pG ds i with
  | some d=>Q d G
  | none=>False):=rfl
theorem oS{ds:List D}{i:Int}{G:Gp}{Q:DK}:nQ (.cO ds) (.int i) G Q=(match pG ds i with
  | some d=>Q d G
  | none=>False):=rfl
theorem Fj{a:Nat}{G:Gp}{Q:DK}:jy [.ref a] G Q=(match G a with
  | some (.lst ds)=>Q (.int (ds.length:Int)) G
  | some (.iG ds)=>(ds.all fun p=>cC p.1)=true/\Q (.int (ds.length:Int)) G
  | none=>False):=by
 unfold jy lenOf;cases h:G a with
 | none=>simp only [h]
 | some g =>
  cases g with
  | lst ds=>simp only [h]
  | iG ds =>
   simp only [h];by_cases z:(ds.all fun p=>cC p.1)=true
   ·simp only [z,if_true,true_and]
   ·simp only [z,if_false,false_and,aB]
theorem vn{a:Nat}{G:Gp}{Q:DK}:tH [.ref a] G Q=(match G a with
  | some (.lst ds)=>ja G (.lst ds) Q
  | _=>False):=by
 unfold tH itemsOf;cases h:G a with
 | none=>simp only [h]
 | some g=>cases g <;> simp only [h]
theorem iE{a:Nat}{d:D}{G:Gp}{Q:DK}:ng (.ref a) [d] G Q=(match G a with
  | some (.lst xs)=>xs.length < SZ/\Q .bX (cf G a (.lst (xs++[d])))
  | _=>False):=rfl
theorem jO{a:Nat}{y:D}{G:Gp}{Q:DK}:o6 (.ref a) [y] G Q=(match G a,mG y G with
  | some (.lst xs),some ys=>xs.length+ys.length<=SZ/\Q .bX (cf G a (.lst (xs++ys)))
  | _,_=>False):=rfl
theorem jN{a:Nat}{i:Int}{d:D}{G:Gp}{Q:DK}:o4 (.ref a) [.int i,d] G Q=(match G a with
  | some (.lst xs)=>0<=i/\i<=xs.length/\xs.length < SZ/\Q .bX (cf G a (.lst (xs.take i.toNat++d :: xs.drop i.toNat)))
  | _=>False):=rfl
theorem lC{a:Nat}{k d:D}{G:Gp}{Q:DK}:xQ (.ref a) [k,d] G Q=(match G a with
  | some (.iG aQ)=>fh aQ k=true/\cC k=true/\(match look aQ k with
   | some v=>Q v G
   | none=>aQ.length < SZ/\Q d (cf G a (.iG (put aQ k d))))
  | _=>False):=rfl
theorem Bb {C:String} {b:Bool} {G:Gp} {Q:DK}:isAt C (.bl b) G Q=Q (.bl (C == "bool" || C == "int")) G:=rfl
theorem i7{a:Nat}{G:Gp}:wX (.ref a) G=(match G a with
  | some (.lst _)=>True
  | _=>False):=rfl
theorem AA{a:Nat}{G:Gp}:MX (.ref a) G=(match G a with
  | some (.iG _)=>True
  | _=>False):=rfl
theorem Az{ds:List D}{G:Gp}:wX (.cO ds) G=True:=rfl
theorem vR{aQ:List (D×D)}{k:D}{G:Gp}{Q:DK}:nQ (.iC aQ) k G Q=(fh aQ k=true/\(match look aQ k with
  | some d=>Q d G
  | none=>False)):=by unfold nQ; cases k <;> rfl
theorem Et {C:String} {aQ:List (D×D)} {G:Gp} {Q:DK}:isAt C (.iC aQ) G Q=Q (.bl (C == "dict")) G:=rfl
theorem Ay{x:Str}{G:Gp}:Qu (.str x) G=True:=rfl
end K2
end
section
namespace K2
open PySem (Str)
noncomputable def yh(R:Nat->Bool)(G:Gp):Gp:=fun a=>if R a=true then none else G a
mutual
inductive Fz (G:Gp) (R:Nat->Bool):D->D->Prop
 | same (d:D):Fz G R d d
 | tup {ds ss:List D}:yN G R ds ss->Fz G R (.tup ds) (.tup ss)
 | cO {ds ss:List D}:yN G R ds ss->Fz G R (.cO ds) (.cO ss)
 | ref {a:Nat} {ds ss:List D}:G a=some (.lst ds)->R a=true->yN G R ds ss->Fz G R (.ref a) (.cO ss)
 | iG {a:Nat} {aQ PF:List (D×D)}:G a=some (.iG aQ)->R a=true->Ag G R aQ PF->Fz G R (.ref a) (.iC PF)
inductive yN (G:Gp) (R:Nat->Bool):List D->List D->Prop
 | nil:yN G R [] []
 | cons {d s:D} {ds ss:List D}:Fz G R d s->yN G R ds ss->yN G R (d :: ds) (s :: ss)
inductive Ag (G:Gp) (R:Nat->Bool):List (D×D)->List (D×D)->Prop
 | nil:Ag G R [] []
 | cons {k d s:D} {ds ss:List (D×D)}:Fz G R d s->Ag G R ds ss->Ag G R ((k,d) :: ds) ((k,s) :: ss)
end
theorem Ag.same{G:Gp}{R:Nat->Bool}:∀ (aQ:List (D×D)),Ag G R aQ aQ
 | []=>.nil
 | (k,v) :: r=>.cons (.same v) (Ag.same r)
noncomputable def FO(G:Gp)(x:D)(Q:DK):Prop:=∃ (R:Nat->Bool) (t:D),Fz G R x t/\Q t (yh R G)
noncomputable def dD(e:e7):e7:=fun E τ G Q=>e E τ G fun x G1=>FO G1 x Q
noncomputable def Fb(i:Nat)(t:gx):gx:=fun E K τ G=>t E { K with nx:=fun oF G1=>match oF[i]? with
 | some (some d)=>FO G1 d fun t G2=>K.nx (oF.set i (some t)) G2
 | _=>False } τ G
theorem yN.same{G:Gp}{R:Nat->Bool}:∀ (ds:List D),yN G R ds ds
 | []=>.nil
 | d :: ds=>.cons (.same d) (yN.same ds)
theorem tj{G G1:Gp}(l:eY G G1):yh (fun a=>(G a).isNone) G1=G:=by
 funext a;unfold yh;cases h:G a with
 | none=>simp [h]
 | some o=>simp [l a o h,h]
theorem mL{G:Gp}{d:D}{Q:DK}(q:Q d G):FO G d Q:=⟨fun _=>false,d,.same d,by
 have e:yh (fun _=>false) G=G:=by funext a; simp [yh]
 rw [e]; exact q⟩
theorem Hi{G G1:Gp}{d:D}{Q:DK}(l:eY G G1)(q:Q d G):FO G1 d Q:=⟨_,d,.same d,by rw [tj l]; exact q⟩
theorem n6{G G1:Gp}{p:Nat}{ds ss:List D}{Q:DK}(l:eY G G1)(hp:G p=none)(h1:G1 p=some (.lst ds))(hs:yN G1 (fun a=>(G a).isNone) ds ss)(q:Q (.cO ss) G):FO G1 (.ref p) Q :=
 ⟨_,.cO ss,.ref h1 (by simp [hp]) hs,by rw [tj l]; exact q⟩
theorem ET{G G1:Gp}{p:Nat}{aQ:List (D×D)}{Q:DK}(l:eY G G1)(hp:G p=none)(h1:G1 p=some (.iG aQ))(q:Q (.iC aQ) G):FO G1 (.ref p) Q :=
 ⟨fun a=>(G a).isNone,.iC aQ,.iG h1 (by simp [hp]) (.same _),by rw [tj l]; exact q⟩
noncomputable def uQ:lS:=fun ds G Q _=>∃ ns:List Int,ds=[.cO (ns.map D.int)]/\ns.length<=63/\(∀ a,G a=none)/\∀ G',Q (.bl true) G'
theorem gM{a b:gx}{E:jz}{K:jB}{τ:fk}{G:Gp}(P:fk->Gp->Prop)(h1:∀ N,(∀ τ G,P τ G->N τ G)->a E { K with nx:=N } τ G)(h2:∀ τ G,P τ G->b E K τ G):cB a b E K τ G:=h1 (b E K) h2
theorem kh{a b:gx}{E:jz}{K:jB}{τ:fk}{G:Gp}:cB a b E K τ G=a E { K with nx:=b E K } τ G:=rfl
theorem dI{a:e7}{g:vw}{b:gx}{E:jz}{K:jB}{τ:fk}{G:Gp}:cB (bV a g) b E K τ G=bV a g E { K with nx:=b E K } τ G:=rfl
theorem rS{a:e7}{b:gx}{E:jz}{K:jB}{τ:fk}{G:Gp}:cB (gw a) b E K τ G=gw a E { K with nx:=b E K } τ G:=rfl
theorem k6(a b:D)(r t:List D):iF (a :: r) (b :: t)=(fy a b&&iF r t):=rfl
theorem oe(a b:Int):fy (.int a) (.int b)=(a == b):=rfl
theorem zT(a b:List D):fy (.tup a) (.tup b)=iF a b:=rfl
theorem yi{α:Type} [DecidableEq α](a b:α)(as bs:List α):(decide (a=b)&&decide (as=bs))=decide (a :: as=b :: bs):=by
 by_cases h:a=b <;> by_cases h2:as=bs <;> simp [h,h2]
end K2
end
section
namespace K2
open PySem (Str)
set_option genInjectivity true in structure T2 where
 a:Int
 b:Int
 deriving DecidableEq
set_option genInjectivity true in structure T3 where
 a:Int
 b:Int
 c:Int
 deriving DecidableEq
class Enc (α:Type) [DecidableEq α] where
 enc:α->D
 dep:Nat
 eqv:∀ a b,fy (enc a) (enc b)=decide (a=b)
 sn:∀ (G:Gp) (n:Nat) (a:α),dep<=n->Sn G n (enc a) (enc a)
open Enc (enc)
noncomputable instance:Enc Int where
 enc:=D.int
 dep:=0
 eqv:=fun a b=>rfl
 sn:=fun G n a _=>.int a
noncomputable instance:Enc Bool where
 enc:=D.bl
 dep:=0
 eqv:=fun a b=>FF a b
 sn:=fun G n a _=>.bl a
noncomputable instance:Enc T2 where
 enc:=fun t=>.tup [.int t.a,.int t.b]
 dep:=1
 eqv:=fun x y=>by
  cases x; cases y;rw [zT,k6,k6,oe,oe]; simp only [T2.mk.injEq]; rename_i a b c d; by_cases h:a=c <;> by_cases h2:b=d <;> simp [h,h2,show iF [] []=true from rfl]
 sn:=fun G n t h=>by
  obtain⟨m,rfl⟩:∃ m,n=m+1:=⟨n - 1,by lia⟩;exact .l8 (.int _) (.l8 (.int _) .zd)
noncomputable instance:Enc T3 where
 enc:=fun t=>.tup [.int t.a,.int t.b,.int t.c]
 dep:=1
 eqv:=fun x y=>by
  cases x; cases y;rw [zT,k6,k6,k6,oe,oe,oe]; simp only [T3.mk.injEq]; rename_i a b e c d f; by_cases h:a=c <;> by_cases h2:b=d <;> by_cases h3:e=f <;> simp [h,h2,h3,show iF [] []=true from rfl]
 sn:=fun G n t h=>by
  obtain⟨m,rfl⟩:∃ m,n=m+1:=⟨n - 1,by lia⟩;exact .l8 (.int _) (.l8 (.int _) (.l8 (.int _) .zd))
noncomputable instance {α β:Type} [DecidableEq α] [DecidableEq β] [Enc α] [Enc β]:Enc (α×β) where
 enc:=fun t=>.tup [enc t.1,enc t.2]
 dep:=max (Enc.dep α) (Enc.dep β)+1
 eqv:=fun x y=>by
  cases x; cases y;rw [zT,k6,k6,Enc.eqv,Enc.eqv]; simp only [Prod.mk.injEq]; rename_i a b c d; by_cases h:a=c <;> by_cases h2:b=d <;> simp [h,h2,show iF [] []=true from rfl]
 sn:=fun G n t h=>by
  obtain⟨m,rfl⟩:∃ m,n=m+1:=⟨n - 1,by lia⟩;exact .l8 (Enc.sn _ _ _ (by lia)) (.l8 (Enc.sn _ _ _ (by lia)) .zd)
theorem yd{α:Type} [DecidableEq α] [Enc α]:∀ (a b:List α),iF (a.map enc) (b.map enc)=decide (a=b)
 | [],[]=>(decide_eq_true rfl).symm
 | [],b :: bs=>(decide_eq_false (fun z=>nomatch z)).symm
 | a :: as,[]=>(decide_eq_false (fun z=>nomatch z)).symm
 | a :: as,b :: bs=>by
  show (fy (enc a) (enc b)&&iF (as.map enc) (bs.map enc))=_;rw [Enc.eqv,yd as bs,yi]
theorem pW{α:Type} [DecidableEq α] [Enc α](G:Gp)(n:Nat)(h:Enc.dep α<=n):∀ (xs:List α),Sn G (n+1) (.cO (xs.map enc)) (.cO (xs.map enc))
 | []=>.DO
 | a :: as=>.xA (Enc.sn _ _ _ h) (pW G n h as)
noncomputable instance {α:Type} [DecidableEq α] [Enc α]:Enc (List α) where
 enc:=fun xs=>.cO (xs.map enc)
 dep:=Enc.dep α+1
 eqv:=fun a b=>by
  show iF _ _=_;exact yd a b
 sn:=fun G n t h=>by
  obtain⟨m,rfl⟩:∃ m,n=m+1:=⟨n - 1,by lia⟩;exact pW G m (by lia) t
section
variable {α:Type} [DecidableEq α] [Enc α]
theorem By(L:List α)(t:α):(L.map enc).any (fy · (enc t))=decide (t∈L):=by
 induction L with
 | nil=>simp
 | cons a r ih =>
  simp only [az,j9,Enc.eqv,ih,CF];by_cases h:a=t
  ·simp [h]
  ·have h':¬ t=a:=fun z=>h z.symm;by_cases h2:t∈r <;> simp [h,h',h2]
end
section
variable {κ α:Type} [DecidableEq κ] [Enc κ] [DecidableEq α] [Enc α]
noncomputable def bG(l:List (κ×α)):List (D×D):=l.map fun p=>(enc p.1,enc p.2)
noncomputable def eP(l:List (κ×α))(k:κ):Option α:=(l.find? fun p=>p.1=k).map (·.2)
noncomputable def z9(l:List (κ×α))(k:κ)(v:α):List (κ×α):=if (l.any fun p=>p.1=k)=true then l.map (fun p=>if p.1=k then (p.1,v) else p) else l++[(k,v)]
theorem xU(l:List (κ×α))(k:κ):look (bG l) (enc k)=(eP l k).map enc:=by
 unfold look eP bG;induction l with
 | nil=>rfl
 | cons p r ih =>
  rw [az,dS,dS];simp only [Enc.eqv];by_cases h:p.1=k
  ·simp [h]
  ·simp only [h,decide_false]; exact ih
theorem GA(l:List (κ×α))(k:κ)(v:α):put (bG l) (enc k) (enc v)=bG (z9 l k v):=by
 unfold put z9;have e:((bG l).any fun p=>fy p.1 (enc k))=l.any fun p=>decide (p.1=k):=by
  unfold bG; rw [List.any_map]; congr 1; funext p; exact Enc.eqv _ _
 rw [e];split
 ·unfold bG; rw [hX,hX];refine List.map_congr_left fun p _=>?_;simp only [Function.comp,Enc.eqv,decide_eq_true_eq];split <;> rfl
 ·unfold bG; rw [aK]; rfl
theorem Fu(l:List (κ×α))(k:κ)(v:α):(z9 l k v).length<=l.length+1:=by
 unfold z9; split <;> simp
end
class mW (κ:Type) [DecidableEq κ] [Enc κ] where
 ok:(∀ k:κ,cC (enc k)=true)\/∀ k:κ,n5 (enc k)=true
noncomputable instance:mW Int:=⟨.inl fun _=>rfl⟩
noncomputable instance:mW T2:=⟨.inr fun _=>rfl⟩
noncomputable instance:mW T3:=⟨.inr fun _=>rfl⟩
theorem n4{κ α:Type} [DecidableEq κ] [Enc κ] [mW κ] [DecidableEq α] [Enc α](l:List (κ×α))(k:κ):fh (bG l) (enc k)=true:=by
 unfold fh bG;rcases mW.ok (κ:=κ) with h | h
 ·rw [pO]; left;rw [h k,Bool.true_and,h8,fm];intro p _; exact h p.1
 ·rw [pO]; right;rw [h k,Bool.true_and,h8,fm];intro p _; exact h p.1
end K2
end
section
namespace K2
open PySem (Str)
open Enc (enc)
mutual
noncomputable def iY:D->D->Bool
 | .int a,.int b=>decide (a < b)
 | .tup a,.tup b=>jH a b
 | .cO a,.cO b=>jH a b
 | _,_=>false
noncomputable def jH:List D->List D->Bool
 | [],[]=>false
 | [],_ :: _=>true
 | _ :: _,[]=>false
 | x :: xs,y :: ys=>if fy x y=true then jH xs ys else iY x y
end
theorem kU(x y:D)(xs ys:List D):jH (x :: xs) (y :: ys)=if fy x y=true then jH xs ys else iY x y:=rfl
theorem Ei(a b:Int):iY (.int a) (.int b)=decide (a < b):=rfl
inductive jA where
 | int | tup (l:List jA) | lst (s:jA)
mutual
noncomputable def bD:jA->D->Bool
 | .int,.int _=>true
 | .tup l,.tup ds=>c9 l ds
 | .lst s,.cO ds=>eA s ds
 | _,_=>false
noncomputable def c9:List jA->List D->Bool
 | [],[]=>true
 | s :: l,d :: ds=>bD s d&&c9 l ds
 | _,_=>false
noncomputable def eA:jA->List D->Bool
 | _,[]=>true
 | s,d :: ds=>bD s d&&eA s ds
end
theorem ck{a:D}(h:bD .int a=true):∃ i,a=.int i:=by cases a <;> first | exact⟨_,rfl⟩ | exact bA (show false=true from h)
theorem cg{l:List jA}{a:D}(h:bD (.tup l) a=true):∃ x,a=.tup x:=by cases a <;> first | exact⟨_,rfl⟩ | exact bA (show false=true from h)
theorem cj{l:jA}{a:D}(h:bD (.lst l) a=true):∃ x,a=.cO x:=by cases a <;> first | exact⟨_,rfl⟩ | exact bA (show false=true from h)
mutual
noncomputable def Hm:jA->Nat
 | .int=>0
 | .tup l=>E2 l+1
 | .lst s=>Hm s+1
noncomputable def E2:List jA->Nat
 | []=>0
 | s :: l=>max (Hm s) (E2 l)
end
noncomputable def Eb(sh:jA):Bool:=decide (Hm sh<=7)&&(match sh with
 | .tup []=>false
 | _=>true)
noncomputable def FJ(a b:D):Bool:=!iY b a
noncomputable def jn(ds:List D):List D:=ds.mergeSort FJ
noncomputable def rD(ds:List D)(G:Gp)(Q:DK):Prop:=match ds with
 | [x]=>∃ (sh:jA) (xs:List D),wX x G/\itemsOf x G=some xs/\xs.all (bD sh)=true/\Eb sh=true/\xs.length < 64/\ja G (.lst (jn xs)) Q
 | _=>False
class aZ (α:Type) [DecidableEq α] [Enc α] where
 lt:α->α->Bool
 pY:jA
 we:∀ a:α,bD pY (enc a)=true
 HP:∀ a b:α,iY (enc a) (enc b)=lt a b
 Cb:∀ a,lt a a=false
 trans:∀ a b c,lt a b=true->lt b c=true->lt a c=true
 Gf:∀ a b,lt a b=false->lt b a=false->a=b
noncomputable instance:aZ Int where
 lt:=fun a b=>decide (a < b)
 pY:=.int
 we:=fun _=>rfl
 HP:=fun a b=>rfl
 Cb:=fun a=>by simp
 trans:=fun a b c h1 h2=>by simp at *; lia
 Gf:=fun a b h1 h2=>by simp at *; lia
noncomputable def nH{α:Type} [DecidableEq α](lt:α->α->Bool):List α->List α->Bool
 | [],[]=>false
 | [],_ :: _=>true
 | _ :: _,[]=>false
 | x :: xs,y :: ys=>if x=y then nH lt xs ys else lt x y
theorem sA{α:Type} [DecidableEq α](lt:α->α->Bool)(x y:α)(xs ys:List α):nH lt (x :: xs) (y :: ys)=if x=y then nH lt xs ys else lt x y:=rfl
section
variable {α:Type} [DecidableEq α] {lt:α->α->Bool}
theorem pe:∀ x:List α,nH lt x x=false
 | []=>rfl
 | a :: x=>by simp only [sA,if_true]; exact pe x
theorem o9(t:∀ a b,lt a b=false->lt b a=false->a=b):∀ (x y:List α),nH lt x y=false->nH lt y x=false->x=y
 | [],[],_,_=>rfl
 | [],_ :: _,h,_=>by cases h
 | _ :: _,[],_,h=>by cases h
 | a :: x,b :: y,h1,h2=>by
  simp only [sA] at h1 h2;by_cases e:a=b
  ·subst e;simp only [if_true] at h1 h2;rw [o9 t x y h1 h2]
  ·rw [if_neg e] at h1;rw [if_neg (j8 e)] at h2;exact absurd (t a b h1 h2) e
theorem kX(ir:∀ a,lt a a=false)(tr:∀ a b c,lt a b=true->lt b c=true->lt a c=true):∀ (x y z:List α),nH lt x y=true->nH lt y z=true->nH lt x z=true
 | [],[],_,h,_=>by cases h
 | [],_ :: _,[],_,h=>by cases h
 | [],_ :: _,_ :: _,_,_=>rfl
 | _ :: _,[],_,h,_=>by cases h
 | _ :: _,_ :: _,[],_,h=>by cases h
 | a :: x,b :: y,c :: z,h1,h2=>by
  simp only [sA] at h1 h2 ⊢;by_cases e1:a=b
  ·subst e1;simp only [if_true] at h1;by_cases e2:a=c
   ·subst e2;simp only [if_true] at h2 ⊢;exact kX ir tr x y z h1 h2
   ·rw [if_neg e2] at h2 ⊢; exact h2
  ·rw [if_neg e1] at h1;by_cases e2:b=c
   ·subst e2;rw [if_neg e1]; exact h1
   ·rw [if_neg e2] at h2;have h3:=tr _ _ _ h1 h2;rw [if_neg (by rintro rfl; rw [ir] at h3; cases h3)]; exact h3
end
theorem o7{α:Type} [DecidableEq α] [Enc α] [aZ α]:∀ (x y:List α),jH (x.map enc) (y.map enc)=nH (aZ.lt (α:=α)) x y
 | [],[]=>rfl
 | [],_ :: _=>rfl
 | _ :: _,[]=>rfl
 | a :: x,b :: y=>by simp only [az,kU,sA,Enc.eqv,o7 x y,aZ.HP,decide_eq_true_eq]
theorem vc{α:Type} [DecidableEq α] [Enc α] [aZ α]:∀ (x:List α),eA (aZ.pY α) (x.map enc)=true
 | []=>rfl
 | a :: x=>by simp only [az,eA,aZ.we,vc x,Bool.and_self]
noncomputable instance {α:Type} [DecidableEq α] [Enc α] [aZ α]:aZ (List α) where
 lt:=nH aZ.lt
 pY:=.lst (aZ.pY α)
 we:=fun a=>vc a
 HP:=fun a b=>o7 a b
 Cb:=pe
 trans:=kX aZ.Cb aZ.trans
 Gf:=o9 aZ.Gf
noncomputable def T2.l(t:T2):List Int:=[t.a,t.b]
noncomputable def T3.l(t:T3):List Int:=[t.a,t.b,t.c]
noncomputable instance:aZ T2 where
 lt:=fun x y=>nH (fun a b=>decide (a < b)) x.l y.l
 pY:=.tup [.int,.int]
 we:=fun _=>rfl
 HP:=fun a b=>o7 a.l b.l
 Cb:=fun a=>pe _
 trans:=fun a b c=>kX (α:=Int) aZ.Cb aZ.trans _ _ _
 Gf:=fun ⟨a,b⟩ ⟨c,d⟩ h1 h2=>by
  have:=o9 (α:=Int) aZ.Gf _ _ h1 h2;simpa [T2.l] using this
noncomputable instance:aZ T3 where
 lt:=fun x y=>nH (fun a b=>decide (a < b)) x.l y.l
 pY:=.tup [.int,.int,.int]
 we:=fun _=>rfl
 HP:=fun a b=>o7 a.l b.l
 Cb:=fun a=>pe _
 trans:=fun a b c=>kX (α:=Int) aZ.Cb aZ.trans _ _ _
 Gf:=fun ⟨a,b,e⟩ ⟨c,d,f⟩ h1 h2=>by
  have:=o9 (α:=Int) aZ.Gf _ _ h1 h2;simpa [T3.l] using this
section
variable {α:Type} [DecidableEq α] [Enc α] [aZ α]
noncomputable def sE(a b:α):Bool:=!aZ.lt b a
noncomputable def BL(xs:List α):List α:=xs.mergeSort sE
theorem uR(xs:List α):jn (xs.map enc)=(BL xs).map enc:=by
 unfold jn BL;symm;exact List.map_mergeSort fun a _ b _=>by unfold sE FJ; rw [aZ.HP]
theorem qf(a b c:α)(h1:sE a b=true)(h2:sE b c=true):sE a c=true:=by
 unfold sE at *;simp only [Bool.not_eq_true'] at *;cases h:aZ.lt c a with
 | false=>rfl
 | true =>
  by_cases e:a=b
  ·subst e; rw [h] at h2; cases h2
  ·have R1:aZ.lt a b=true:=by
    cases q:aZ.lt a b with
    | true=>rfl
    | false=>exact absurd (aZ.Gf _ _ q h1) e
   rw [aZ.trans _ _ _ h R1] at h2; cases h2
theorem B5(a b:α):(sE a b||sE b a)=true:=by
 unfold sE;cases h:aZ.lt b a with
 | false=>rfl
 | true =>
  cases h2:aZ.lt a b with
  | false=>rfl
  | true=>have:=aZ.trans _ _ _ h h2; rw [aZ.Cb] at this; cases this
theorem ph(a b:α)(h1:sE a b=true)(h2:sE b a=true):a=b:=by
 unfold sE at *;exact aZ.Gf a b (by simpa using h2) (by simpa using h1)
theorem oJ(xs:List α):(BL xs).Perm xs:=List.mergeSort_perm xs sE
theorem rP(xs:List α):(BL xs).Pairwise fun a b=>sE a b=true:=CD qf B5 xs
theorem ub:∀ {xs ys:List α},xs.Perm ys->xs.Pairwise (fun a b=>sE a b=true)->ys.Pairwise (fun a b=>sE a b=true)->xs=ys:=by
 intro xs ys hp h1 h2;exact wU (fun a b _ _ h h'=>ph a b h h') h1 h2 hp
theorem IA{xs ys:List α}(h:xs.Perm ys):BL xs=BL ys:=ub (((oJ xs).trans h).trans (oJ ys).symm) (rP xs) (rP ys)
theorem Gh(xs:List α):(BL xs).length=xs.length:=(oJ xs).length_eq
end
end K2
end
section
namespace K2
open PySem (Str)
mutual
theorem ic:∀ (sh:jA) (a:D),bD sh a=true->fy a a=true
 | .int,.int i,_=>by show (i == i)=true; exact beq_self_eq_true i
 | .tup l,.tup xs,h=>by show iF xs xs=true; exact qC l xs h
 | .lst l,.cO xs,h=>by show iF xs xs=true; exact qD l xs h
theorem qC:∀ (l:List jA) (xs:List D),c9 l xs=true->iF xs xs=true
 | [],[],_=>rfl
 | s :: l,x :: xs,h=>by
  have h:(bD s x&&c9 l xs)=true:=h;rw [aA] at h;show (fy x x&&iF xs xs)=true;rw [ic s x h.1,qC l xs h.2]; rfl
theorem qD:∀ (s:jA) (xs:List D),eA s xs=true->iF xs xs=true
 | _,[],_=>rfl
 | s,x :: xs,h=>by
  have h:(bD s x&&eA s xs)=true:=h;rw [aA] at h;show (fy x x&&iF xs xs)=true;rw [ic s x h.1,qD s xs h.2]; rfl
end
theorem JH(s:jA)(ih:∀ (a b:D),bD s a=true->bD s b=true->fy a b=true->a=b):∀ (xs ys:List D),eA s xs=true->eA s ys=true->iF xs ys=true->xs=ys:=by
 intro xs;induction xs with
 | nil=>intro ys _ _ h; cases ys with
  | nil=>rfl
  | cons _ _=>cases h
 | cons x xs K7 =>
  intro ys h1 h2 h;cases ys with
  | nil=>cases h
  | cons y ys =>
   have h1:(bD s x&&eA s xs)=true:=h1;have h2:(bD s y&&eA s ys)=true:=h2;have h:(fy x y&&iF xs ys)=true:=h;rw [aA] at h1 h2 h;rw [ih x y h1.1 h2.1 h.1,K7 ys h1.2 h2.2 h.2]
mutual
theorem lF:∀ (sh:jA) (a b:D),bD sh a=true->bD sh b=true->fy a b=true->a=b
 | .int,a,b,h1,h2,h=>by
  first | obtain⟨_,rfl⟩:=ck h1 | obtain⟨_,rfl⟩:=cg h1 | obtain⟨_,rfl⟩:=cj h1
  first | obtain⟨_,rfl⟩:=ck h2 | obtain⟨_,rfl⟩:=cg h2 | obtain⟨_,rfl⟩:=cj h2
  rw [oe] at h; rw [beq_iff_eq.mp h]
 | .tup l,a,b,h1,h2,h=>by
  first | obtain⟨_,rfl⟩:=ck h1 | obtain⟨_,rfl⟩:=cg h1 | obtain⟨_,rfl⟩:=cj h1
  first | obtain⟨_,rfl⟩:=ck h2 | obtain⟨_,rfl⟩:=cg h2 | obtain⟨_,rfl⟩:=cj h2
  rw [EZ l _ _ h1 h2 h]
 | .lst l,a,b,h1,h2,h=>by
  first | obtain⟨_,rfl⟩:=ck h1 | obtain⟨_,rfl⟩:=cg h1 | obtain⟨_,rfl⟩:=cj h1
  first | obtain⟨_,rfl⟩:=ck h2 | obtain⟨_,rfl⟩:=cg h2 | obtain⟨_,rfl⟩:=cj h2
  rw [JH l (lF l) _ _ h1 h2 h]
theorem EZ:∀ (l:List jA) (xs ys:List D),c9 l xs=true->c9 l ys=true->iF xs ys=true->xs=ys
 | [],xs,ys,h1,h2,_=>by
  cases xs with
  | nil=>cases ys with
   | nil=>rfl
   | cons _ _=>cases h2
  | cons _ _=>cases h1
 | s :: l,xs,ys,h1,h2,h=>by
  cases xs with
  | nil=>cases h1
  | cons x xs =>
   cases ys with
   | nil=>cases h2
   | cons y ys =>
    have h1:(bD s x&&c9 l xs)=true:=h1;have h2:(bD s y&&c9 l ys)=true:=h2;have h:(fy x y&&iF xs ys)=true:=h;rw [aA] at h1 h2 h;rw [lF s x y h1.1 h2.1 h.1,EZ l xs ys h1.2 h2.2 h.2]
end
theorem Eh(s:jA)(ih:∀ (a b:D),bD s a=true->bD s b=true->iY a b=false->iY b a=false->a=b):∀ (xs ys:List D),eA s xs=true->eA s ys=true->jH xs ys=false->jH ys xs=false->xs=ys:=by
 intro xs;induction xs with
 | nil=>intro ys _ _ h _; cases ys with
  | nil=>rfl
  | cons _ _=>cases h
 | cons x xs K7 =>
  intro ys h1 h2 h3 h4;cases ys with
  | nil=>cases h4
  | cons y ys =>
   have h1:(bD s x&&eA s xs)=true:=h1;have h2:(bD s y&&eA s ys)=true:=h2;rw [aA] at h1 h2;simp only [kU] at h3 h4;by_cases e:fy x y=true
   ·have OV:=lF s x y h1.1 h2.1 e;subst OV;rw [if_pos e] at h3 h4;rw [K7 ys h1.2 h2.2 h3 h4]
   ·rw [if_neg e] at h3;by_cases e2:fy y x=true
    ·have:=lF s y x h2.1 h1.1 e2;subst this; exact absurd e2 e
    ·rw [if_neg e2] at h4;have:=ih x y h1.1 h2.1 h3 h4;subst this;exact absurd (ic s x h1.1) e
mutual
theorem rp:∀ (sh:jA) (a b:D),bD sh a=true->bD sh b=true->iY a b=false->iY b a=false->a=b
 | .int,a,b,h1,h2,h3,h4=>by
  first | obtain⟨_,rfl⟩:=ck h1 | obtain⟨_,rfl⟩:=cg h1 | obtain⟨_,rfl⟩:=cj h1
  first | obtain⟨_,rfl⟩:=ck h2 | obtain⟨_,rfl⟩:=cg h2 | obtain⟨_,rfl⟩:=cj h2
  simp [Ei] at h3 h4; congr 1; lia
 | .tup l,a,b,h1,h2,h3,h4=>by
  first | obtain⟨_,rfl⟩:=ck h1 | obtain⟨_,rfl⟩:=cg h1 | obtain⟨_,rfl⟩:=cj h1
  first | obtain⟨_,rfl⟩:=ck h2 | obtain⟨_,rfl⟩:=cg h2 | obtain⟨_,rfl⟩:=cj h2
  rw [xR l _ _ h1 h2 h3 h4]
 | .lst l,a,b,h1,h2,h3,h4=>by
  first | obtain⟨_,rfl⟩:=ck h1 | obtain⟨_,rfl⟩:=cg h1 | obtain⟨_,rfl⟩:=cj h1
  first | obtain⟨_,rfl⟩:=ck h2 | obtain⟨_,rfl⟩:=cg h2 | obtain⟨_,rfl⟩:=cj h2
  rw [Eh l (rp l) _ _ h1 h2 h3 h4]
theorem xR:∀ (l:List jA) (xs ys:List D),c9 l xs=true->c9 l ys=true->jH xs ys=false->jH ys xs=false->xs=ys
 | [],xs,ys,h1,h2,_,_=>by
  cases xs with
  | nil=>cases ys with
   | nil=>rfl
   | cons _ _=>cases h2
  | cons _ _=>cases h1
 | s :: l,xs,ys,h1,h2,h3,h4=>by
  cases xs with
  | nil=>cases h1
  | cons x xs =>
   cases ys with
   | nil=>cases h2
   | cons y ys =>
    have h1:(bD s x&&c9 l xs)=true:=h1;have h2:(bD s y&&c9 l ys)=true:=h2;rw [aA] at h1 h2;simp only [kU] at h3 h4;by_cases e:fy x y=true
    ·have OV:=lF s x y h1.1 h2.1 e;subst OV;rw [if_pos e] at h3 h4;rw [xR l xs ys h1.2 h2.2 h3 h4]
    ·rw [if_neg e] at h3;by_cases e2:fy y x=true
     ·have:=lF s y x h2.1 h1.1 e2;subst this; exact absurd e2 e
     ·rw [if_neg e2] at h4;have:=rp s x y h1.1 h2.1 h3 h4;subst this;exact absurd (ic s x h1.1) e
end
mutual
theorem v3:∀ (sh:jA) (a:D),bD sh a=true->iY a a=false
 | .int,.int i,_=>by rw [Ei]; exact decide_eq_false (Int.lt_irrefl _)
 | .tup l,.tup xs,h=>by show jH xs xs=false; exact xS l xs h
 | .lst l,.cO xs,h=>by show jH xs xs=false; exact xT l xs h
theorem xS:∀ (l:List jA) (xs:List D),c9 l xs=true->jH xs xs=false
 | [],[],_=>rfl
 | s :: l,x :: xs,h=>by
  have h:(bD s x&&c9 l xs)=true:=h;rw [aA] at h;simp only [kU,ic s x h.1,if_true]; exact xS l xs h.2
theorem xT:∀ (s:jA) (xs:List D),eA s xs=true->jH xs xs=false
 | _,[],_=>rfl
 | s,x :: xs,h=>by
  have h:(bD s x&&eA s xs)=true:=h;rw [aA] at h;simp only [kU,ic s x h.1,if_true]; exact xT s xs h.2
end
theorem zx(s:jA)(ih:∀ (a b c:D),bD s a=true->bD s b=true->bD s c=true->iY a b=true->iY b c=true->iY a c=true):∀ (xs ys zs:List D),eA s xs=true->eA s ys=true->eA s zs=true->jH xs ys=true->jH ys zs=true->jH xs zs=true:=by
 intro xs;induction xs with
 | nil =>
  intro ys zs _ _ _ h4 h5;cases ys with
  | nil=>cases h4
  | cons _ _=>cases zs with
   | nil=>cases h5
   | cons _ _=>rfl
 | cons x xs K7 =>
  intro ys zs h1 h2 h3 h4 h5;cases ys with
  | nil=>cases h4
  | cons y ys =>
   cases zs with
   | nil=>cases h5
   | cons z zs =>
    have h1:(bD s x&&eA s xs)=true:=h1;have h2:(bD s y&&eA s ys)=true:=h2;have h3:(bD s z&&eA s zs)=true:=h3;rw [aA] at h1 h2 h3;simp only [kU] at h4 h5 ⊢;by_cases e1:fy x y=true
    ·have:=lF s x y h1.1 h2.1 e1;subst this;rw [if_pos e1] at h4;by_cases e2:fy x z=true
     ·rw [if_pos e2] at h5 ⊢;exact K7 ys zs h1.2 h2.2 h3.2 h4 h5
     ·rw [if_neg e2] at h5 ⊢; exact h5
    ·rw [if_neg e1] at h4;by_cases e2:fy y z=true
     ·have:=lF s y z h2.1 h3.1 e2;subst this;rw [if_neg e1]; exact h4
     ·rw [if_neg e2] at h5;have h6:=ih x y z h1.1 h2.1 h3.1 h4 h5;rw [if_neg (fun e3=>by
       have:=lF s x z h1.1 h3.1 e3;subst this;rw [v3 s x h1.1] at h6; cases h6)]
      exact h6
mutual
theorem nh:∀ (sh:jA) (a b c:D),bD sh a=true->bD sh b=true->bD sh c=true->iY a b=true->iY b c=true->iY a c=true
 | .int,a,b,c,h1,h2,h3,h4,h5=>by
  first | obtain⟨_,rfl⟩:=ck h1 | obtain⟨_,rfl⟩:=cg h1 | obtain⟨_,rfl⟩:=cj h1
  first | obtain⟨_,rfl⟩:=ck h2 | obtain⟨_,rfl⟩:=cg h2 | obtain⟨_,rfl⟩:=cj h2
  first | obtain⟨_,rfl⟩:=ck h3 | obtain⟨_,rfl⟩:=cg h3 | obtain⟨_,rfl⟩:=cj h3
  simp [Ei] at *; lia
 | .tup l,a,b,c,h1,h2,h3,h4,h5=>by
  first | obtain⟨_,rfl⟩:=ck h1 | obtain⟨_,rfl⟩:=cg h1 | obtain⟨_,rfl⟩:=cj h1
  first | obtain⟨_,rfl⟩:=ck h2 | obtain⟨_,rfl⟩:=cg h2 | obtain⟨_,rfl⟩:=cj h2
  first | obtain⟨_,rfl⟩:=ck h3 | obtain⟨_,rfl⟩:=cg h3 | obtain⟨_,rfl⟩:=cj h3
  exact su l _ _ _ h1 h2 h3 h4 h5
 | .lst l,a,b,c,h1,h2,h3,h4,h5=>by
  first | obtain⟨_,rfl⟩:=ck h1 | obtain⟨_,rfl⟩:=cg h1 | obtain⟨_,rfl⟩:=cj h1
  first | obtain⟨_,rfl⟩:=ck h2 | obtain⟨_,rfl⟩:=cg h2 | obtain⟨_,rfl⟩:=cj h2
  first | obtain⟨_,rfl⟩:=ck h3 | obtain⟨_,rfl⟩:=cg h3 | obtain⟨_,rfl⟩:=cj h3
  exact zx l (nh l) _ _ _ h1 h2 h3 h4 h5
theorem su:∀ (l:List jA) (xs ys zs:List D),c9 l xs=true->c9 l ys=true->c9 l zs=true->jH xs ys=true->jH ys zs=true->jH xs zs=true
 | [],xs,ys,zs,h1,h2,_,h,_=>by
  cases xs with
  | nil=>cases ys with
   | nil=>cases h
   | cons _ _=>cases h2
  | cons _ _=>cases h1
 | s :: l,xs,ys,zs,h1,h2,h3,h4,h5=>by
  cases xs with
  | nil=>cases h1
  | cons x xs =>
   cases ys with
   | nil=>cases h2
   | cons y ys =>
    cases zs with
    | nil=>cases h3
    | cons z zs =>
     have h1:(bD s x&&c9 l xs)=true:=h1;have h2:(bD s y&&c9 l ys)=true:=h2;have h3:(bD s z&&c9 l zs)=true:=h3;rw [aA] at h1 h2 h3;simp only [kU] at h4 h5 ⊢;by_cases e1:fy x y=true
     ·have:=lF s x y h1.1 h2.1 e1;subst this;rw [if_pos e1] at h4;by_cases e2:fy x z=true
      ·rw [if_pos e2] at h5 ⊢;exact su l xs ys zs h1.2 h2.2 h3.2 h4 h5
      ·rw [if_neg e2] at h5 ⊢; exact h5
     ·rw [if_neg e1] at h4;by_cases e2:fy y z=true
      ·have:=lF s y z h2.1 h3.1 e2;subst this;rw [if_neg e1]; exact h4
      ·rw [if_neg e2] at h5;have h6:=nh s x y z h1.1 h2.1 h3.1 h4 h5;rw [if_neg (fun e3=>by
        have:=lF s x z h1.1 h3.1 e3;subst this;rw [v3 s x h1.1] at h6; cases h6)]
       exact h6
end
theorem qe(sh:jA){a b:D}(h1:bD sh a=true)(h2:bD sh b=true)(h:iY a b=true):iY b a=false:=by
 cases q:iY b a with
 | false=>rfl
 | true=>have:=nh sh a b a h1 h2 h1 h q; rw [v3 sh a h1] at this; cases this
theorem nZ(sh:jA){a b c:D}(h1:bD sh a=true)(h2:bD sh b=true)(h3:bD sh c=true)(q1:iY b a=false)(q2:iY c b=false):iY c a=false:=by
 cases h:iY c a with
 | false=>rfl
 | true =>
  exfalso;cases q:iY a b with
  | false =>
   have:=rp sh a b h1 h2 q q1;subst this; rw [h] at q2; cases q2
  | true=>rw [nh sh c a b h3 h1 h2 h q] at q2; cases q2
theorem i9(sh:jA){xs ys:List D}(hx:∀ x∈xs,bD sh x=true)(hp:ys.Perm xs)(hs:ys.Pairwise fun a b=>iY b a=false):jn xs=ys:=by
 have hy:∀ y∈ys,bD sh y=true:=fun y h=>hx y (hp.mem_iff.mp h);have p1:(jn xs).Perm xs:=List.mergeSort_perm xs FJ;have hz:∀ z∈jn xs,bD sh z=true:=fun z h=>hx z (p1.mem_iff.mp h);have s1:(jn xs).Pairwise fun a b=>iY b a=false:=by
  let Kt:List { d:D // bD sh d=true }:=xs.attach.map fun x=>⟨x.1,hx x.1 x.2⟩
  have ex:xs=Kt.map (·.1):=by
   simp only [Kt,hX]
   conv=>lhs; rw [<-List.attach_map_subtype_val xs]
   rfl
  have e2:jn xs=(Kt.mergeSort fun a b=>FJ a.1 b.1).map (·.1):=by
   unfold jn;rw [ex];exact(List.map_mergeSort (r:=fun (a b:{ d:D // bD sh d=true })=>FJ a.1 b.1) (s:=FJ) (f:=fun x=>x.1) (l:=Kt) fun a _ b _=>rfl).symm
  rw [e2,uM]
  have:=CD (le:=fun (a b:{ d:D // bD sh d=true })=>FJ a.1 b.1) (fun a b c h1 h2=>by
   unfold FJ at *;simp only [Bool.not_eq_true'] at *;exact nZ sh a.2 b.2 c.2 h1 h2) (fun a b=>by
   unfold FJ;cases q:iY b.1 a.1 with
   | false=>rfl
   | true=>rw [qe sh b.2 a.2 q]; rfl) Kt
  exact this.imp fun h=>by unfold FJ at h; simpa using h
 refine wU (le:=fun a b=>iY b a=false) (fun a b ha hb h h'=>?_) s1 hs (p1.trans hp.symm);exact rp sh a b (hz a ha) (hy b hb) h' h
end K2
end
section
namespace K2
open PySem (Str)
open Enc (enc)
noncomputable def Nt(P:D->Gp->Prop):List D->Gp->Prop
 | [x],G=>P x G
 | _,_=>False
noncomputable def IsL(G:Gp)(d:D)(ds:List D):Prop:=d=.cO ds\/∃ a,d=.ref a/\G a=some (.lst ds)
theorem IsL.cO{G:Gp}{ds:List D}:IsL G (.cO ds) ds:=.inl rfl
theorem IsL.enc{α:Type} [DecidableEq α] [Enc α]{G:Gp}(xs:List α):IsL G (enc xs) (xs.map enc):=.inl rfl
theorem IsL.ref{G:Gp}{a:Nat}{ds:List D}(h:G a=some (.lst ds)):IsL G (.ref a) ds:=.inr ⟨a,rfl,h⟩
theorem IsL.mono{G G':Gp}{d:D}{ds:List D}(h:IsL G d ds)(l:eY G G'):IsL G' d ds:=by
 rcases h with h | ⟨a,h,e⟩
 ·exact .inl h
 ·exact .inr ⟨a,h,l a _ e⟩
theorem Jm{G:Gp}{d:D}{ds:List D}{R:List D->(Gp->Prop)->Gp->Prop}(h:IsL G d ds)(k:∀ ok:Gp->Prop,(∀ G',eY G G'->ok G')->R ds ok G):Hg d G R:=by
 rcases h with rfl | ⟨a,rfl,e⟩
 ·exact k _ fun _ _=>trivial
 ·rw [Bg e]; exact k _ fun G' l=>l a _ e
theorem Ba {G:Gp} {d:D} {ds:List D} {C:String} {Q:DK} (h:IsL G d ds) (k:Q (.bl (C == "list")) G):isAt C d G Q:=by
 rcases h with rfl | ⟨a,rfl,e⟩
 ·exact k
 ·rw [Eu e]; exact k
theorem sI{G:Gp}{d:D}{ds:List D}(h:IsL G d ds):itemsOf d G=some ds:=by
 rcases h with rfl | ⟨a,rfl,e⟩
 ·rfl
 ·unfold itemsOf; simp only [e]
theorem Iq{G:Gp}{d:D}{ds:List D}(h:IsL G d ds):wX d G:=by
 rcases h with rfl | ⟨a,rfl,e⟩
 ·trivial
 ·unfold wX; simp only [e]
theorem vP{G:Gp}{d:D}{ds:List D}{lo hi:Option Int}{Q:DK}(h:IsL G d ds)(k:ja G (.lst (cut ds lo hi)) Q):DV d lo hi G Q:=by
 rcases h with rfl | ⟨a,rfl,e⟩
 ·exact k
 ·rw [Gr e]; exact k
theorem lg{G:Gp}{d:D}{ds:List D}{Q:DK}(h:IsL G d ds)(k:Q (.int (ds.length:Int)) G):jy [d] G Q:=by
 rcases h with rfl | ⟨a,rfl,e⟩
 ·exact k
 ·rw [Fm e]; exact k
theorem Fi{G:Gp}{d:D}{ds:List D}{Q:DK}(h:IsL G d ds)(k:ja G (.lst ds) Q):tH [d] G Q:=by
 unfold tH; simp only [sI h]; exact k
theorem z8{α:Type} [DecidableEq α] [Enc α] [aZ α]{G:Gp}{d:D}{xs:List α}{Q:DK}(h:IsL G d (xs.map enc))(hl:xs.length < 64)(k:ja G (.lst ((BL xs).map enc)) Q)(ok:autoParam (Eb (aZ.pY α)=true) Ad._auto_1):rD [d] G Q :=
 ⟨aZ.pY α,xs.map enc,Iq h,sI h,by rw [h8,fm]; intro x _; exact aZ.we x,ok,by rw [ah]; exact hl,by rw [uR]; exact k⟩
theorem vS{G:Gp}{d x:D}{ds:List D}{i:Int}{Q:DK}(h:IsL G d ds)(e:pG ds i=some x)(k:Q x G):nQ d (.int i) G Q:=by
 rcases h with rfl | ⟨a,rfl,e2⟩
 ·rw [Gu e]; exact k
 ·rw [Gw e2 e]; exact k
theorem gQ{G:Gp}{d:D}{ds:List D}(h:IsL G d ds):mG d G=some ds:=by
 rcases h with rfl | ⟨a,rfl,e⟩
 ·rfl
 ·unfold mG; simp only [e]
theorem Bz{G:Gp}{d e:D}{ds es:List D}{Q:DK}(h:IsL G d ds)(h':IsL G e es)(hz:ds.length+es.length<=SZ)(k:ja G (.lst (ds++es)) Q):qp d e G Q:=by
 unfold qp; simp only [gQ h,gQ h']; exact⟨hz,k⟩
theorem tE{α:Type}(xs:List α)(i:Nat)(h:i<=xs.length):cut xs (some (i:Int)) none=xs.drop i:=by
 unfold cut fY;simp only;rw [if_neg (by lia),eV,Nat.min_eq_left h];exact Dg (by rw [cU]; lia)
theorem zZ{α:Type}(xs:List α)(i:Nat)(h:i<=xs.length):cut xs none (some (i:Int))=xs.take i:=by
 unfold cut fY;simp only;rw [if_neg (by lia),eV,Nat.min_eq_left h];simp
theorem k8{α β:Type}(f:α->β)(xs:List α)(lo hi:Option Int):cut (xs.map f) lo hi=(cut xs lo hi).map f:=by
 unfold cut; rw [ah,CG,CH]
theorem nu{α:Type}(xs:List α){k:Int}(h0:0<=k)(h1:k < xs.length):pG xs k=some (xs[k.toNat]'(by lia)):=by
 unfold pG CN;rw [if_pos h0,if_pos h1];show xs[k.toNat]?=_;exact ai (by lia)
noncomputable def M6{α β:Type} [DecidableEq α] [Enc α] [DecidableEq β] [Enc β](pre:α->Prop)(f:α->β):lS:=fun ds G Q _=>∃ a:α,ds=[enc a]/\pre a/\Q (enc (f a)) G
end K2
end
section
namespace K2
open PySem (Str)
open Enc (enc)
noncomputable def yg:D->Gp->Option (List (D×D))
 | .iC aQ,_=>some aQ
 | .ref a,G=>match G a with
  | some (.iG aQ)=>some aQ
  | _=>none
 | _,_=>none
noncomputable def ku(aQ:List (D×D)):Bool:=aQ.all fun p=>cC p.1
noncomputable def qT(l m:List (Int×Int)):Bool:=l.length == m.length&&l.all fun p=>eP m p.1 == some p.2
noncomputable def IL(neg:Bool):vx:=fun x y G Q=>∃ l m:List (Int×Int),yg x G=some (bG l)/\yg y G=some (bG m)/\Q (.bl (if neg then !qT l m else qT l m)) G
noncomputable def qN(neg:Bool):vx:=fun x y G Q=>KH neg x y G Q\/IL neg x y G Q
noncomputable def Ki{κ α:Type} [DecidableEq κ] [Enc κ] [DecidableEq α] [Enc α](G:Gp)(d:D)(l:List (κ×α)):Prop:=yg d G=some (bG l)
section
variable {κ α:Type} [DecidableEq κ] [Enc κ] [DecidableEq α] [Enc α] {l:List (κ×α)} {G G':Gp} {d:D}
theorem Ki.iC:Ki G (.iC (bG l)) l:=rfl
theorem nj{β:Type} [DecidableEq β] [Enc β](l:List (Int×β)):ku (bG l)=true:=by
 unfold ku bG; rw [h8,fm]; intro p _; rfl
end
theorem DY{neg:Bool}{G:Gp}{d e:D}{l m:List (Int×Int)}{Q:DK}(h1:Ki G d l)(h2:Ki G e m)(k:Q (.bl (if neg then !qT l m else qT l m)) G):qN neg d e G Q:=.inr ⟨l,m,h1,h2,k⟩
theorem DX{neg:Bool}{G:Gp}{i j:Int}{Q:DK}(k:Q (.bl (if neg then !decide (i=j) else decide (i=j))) G):qN neg (.int i) (.int j) G Q:=.inl ⟨_,_,.int _,.int _,by
 have:fy (.int i) (.int j)=decide (i=j):=Enc.eqv i j;rw [this]; exact k⟩
end K2
end
section
namespace K2
open PySem (Str)
open Enc (enc)
noncomputable abbrev Te:=jz->fk->Gp->(List Str->Gp->Prop)->Prop
end K2
end
section
namespace K2
open PySem (Str)
open Enc (enc)
noncomputable def h2(t:T2):Int:=PySem.reduceHash (PySem.Builtin.Tuple.tupleHashOf [PySem.hashInt t.a,PySem.hashInt t.b])
noncomputable def Ht(ds:List D)(G:Gp)(Q:DK):Prop:=match ds with
 | [.int a,.int b]=>Q (.int (if a < b then b else a)) G
 | _=>False
end K2
end
section
namespace K2
open Enc (enc)
noncomputable def Gs:vx:=fun x y G Q=>∃ (sh:jA) (a b:D),(Sn G SN x a/\Sn G SN y b)/\(bD sh a=true/\bD sh b=true)/\Q (.bl (iY a b)) G
theorem DW{α:Type} [DecidableEq α] [Enc α] [aZ α]{x y:α}{G:Gp}{Q:DK}(hd:Enc.dep α<=8)(q:Q (.bl (aZ.lt x y)) G):Gs (enc x) (enc y) G Q :=
 ⟨aZ.pY α,enc x,enc y,⟨Enc.sn _ _ _ hd,Enc.sn _ _ _ hd⟩,⟨aZ.we _,aZ.we _⟩,by rw [aZ.HP]; exact q⟩
end K2
end
section
namespace K2
open Enc (enc)
noncomputable def t4(lt:Nat->Nat->Bool):Nat->Nat
 | 0=>0
 | j+1=>if lt (j+1) (t4 lt j)=true then j+1 else t4 lt j
theorem Fp(lt:Nat->Nat->Bool):∀ j,t4 lt j<=j:=by
 intro j;induction j with
 | zero=>exact aF _
 | succ j ih =>
  show (if lt (j+1) (t4 lt j)=true then j+1 else t4 lt j)<=j+1;split
  ·exact aF _
  ·exact Nat.le_succ_of_le ih
noncomputable def zu(x:D)(G:Gp)(Q:DK):Prop:=∃ (ds:List D) (sh:jA) (kf:Nat->D),IsL G x ds/\0 < ds.length/\(∀ i d,ds[i]?=some d->∃ k r,d=.tup (k :: r)/\Sn G SN k (kf i)/\bD sh (kf i)=true) /\
 ∀ d,ds[t4 (fun i j=>iY (kf i) (kf j)) (ds.length - 1)]?=some d->Q d G
noncomputable def E9(ta:e7):e7:=fun E τ G Q=>ta E τ G fun x G1=>zu x G1 Q
end K2
namespace K2
noncomputable def Be(x:D)(G1:Gp)(R:List D->(Gp->Prop)->Gp->Prop):Prop:=match x with
 | .iC aQ=>ku aQ=true/\R (aQ.map (·.2)) (fun _=>True) G1
 | _=>False
noncomputable def EA(to:e7):Ih:=fun E τ G R=>to E τ G fun x G1=>Be x G1 R
end K2
namespace K2
open Enc (enc)
noncomputable def nt(ds:List D)(G:Gp)(Q:DK):Prop:=match ds with
 | [.iC aQ]=>∃ ns:List Int,aQ.map (·.1)=ns.map D.int/\ns.length < 64/\ja G (.lst ((BL ns).map enc)) Q
 | _=>False
end K2
end
section
namespace K2
open PySem PySem.Spec PyProof.Rows L2
noncomputable def JT(K:ag)(H:Hp)(a:Addr)(xs:List V):Prop :=
 (∃ o,H a=some (.jI o (.lst xs))) \/
  ∃ (o:Obj) (its:Array Value) (n:Nat),K.lookup a=some o/\o.cls=.type "list"/\o.dict=none/\o.data=.seq its n/\its.size<=aY/\Vals xs its.toList
theorem JT.sq{K:ag}{H:Hp}{a:Addr}{xs:List V}(h:JT K H a xs):uF K H a xs:=by
 rcases h with ⟨o,h⟩ | h
 ·exact .inl (.inr ⟨o,h⟩)
 ·exact .inr h
noncomputable def cY:Key->D
 | .inl i=>.int i
 | .inr x=>.str x
noncomputable def ExcAt(K:ag)(H:Hp)(a:Addr)(c:Str):Prop:=∃ (o:Obj) (C:Addr),H a=some (.jI o (.ext fun h=>h.get? a=some o))/\o.cls=.ref C/\cR K bp c=some (some (.ref C))
mutual
inductive bF (K:ag) (H:Hp):V->D->Prop
 | bX:bF K H .bX .bX
 | bl (b:Bool):bF K H (.bl b) (.bl b)
 | int (i:Int):bF K H (.int i) (.int i)
 | str (x:Str):bF K H (.str x) (.str x)
 | tup {a:Addr} {vs:List V} {ds:List D}:H a=some (.tup vs)->aX K H vs ds->bF K H (.ref a) (.tup ds)
 | cO {a:Addr} {vs:List V} {ds:List D}:JT K H a vs->aX K H vs ds->bF K H (.ref a) (.cO ds)
 | mh {a:Addr} {o:Obj} {kv:List (Key×V)} {aQ:List (D×D)}:H a=some (.jI o (.dK kv))->jC K H kv aQ->bF K H (.ref a) (.iC aQ)
 | mf {a:Addr} {o:Obj} {kv:List (List Key×V)} {aQ:List (D×D)}:H a=some (.jI o (.dT kv))->lT K H kv aQ->bF K H (.ref a) (.iC aQ)
 | ref (a:Addr):bF K H (.ref a) (.ref a)
 | exc {a:Addr} {c:Str}:ExcAt K H a c->bF K H (.ref a) (.exc c)
inductive aX (K:ag) (H:Hp):List V->List D->Prop
 | nil:aX K H [] []
 | cons {v:V} {d:D} {vs:List V} {ds:List D}:bF K H v d->aX K H vs ds->aX K H (v :: vs) (d :: ds)
inductive jC (K:ag) (H:Hp):List (Key×V)->List (D×D)->Prop
 | nil:jC K H [] []
 | cons {k:Key} {v:V} {d:D} {r:List (Key×V)} {t:List (D×D)}:bF K H v d->jC K H r t->jC K H ((k,v) :: r) ((cY k,d) :: t)
inductive lT (K:ag) (H:Hp):List (List Key×V)->List (D×D)->Prop
 | nil:lT K H [] []
 | cons {k:List Key} {v:V} {d:D} {r:List (List Key×V)} {t:List (D×D)}:bF K H v d->lT K H r t->lT K H ((k,v) :: r) ((.tup (k.map cY),d) :: t)
end
structure Kp(H H':Hp):Prop where
 tup:∀ a xs,H a=some (.tup xs)->H' a=some (.tup xs)
 jI:∀ a o u,H a=some (.jI o u)->H' a=some (.jI o u)
theorem Kp.refl(H:Hp):Kp H H:=⟨fun _ _ h=>h,fun _ _ _ h=>h⟩
theorem Kp.trans{H H1 H2:Hp}(a:Kp H H1)(b:Kp H1 H2):Kp H H2:=⟨fun c xs h=>b.tup c xs (a.tup c xs h),fun c o u h=>b.jI c o u (a.jI c o u h)⟩
theorem Kp.QA{K:ag}{H H':Hp}{a:Addr}{xs:List V}(k:Kp H H')(h:tM K H a xs):tM K H' a xs:=by
 rcases h with (h | ⟨o,h⟩) | h
 ·exact .inl (.inl (k.tup _ _ h))
 ·exact .inl (.inr ⟨o,k.jI _ _ _ h⟩)
 ·exact .inr h
theorem Kp.Ky{K:ag}{H H':Hp}{a:Addr}{xs:List V}(k:Kp H H')(h:JT K H a xs):JT K H' a xs:=by
 rcases h with ⟨o,h⟩ | h
 ·exact .inl ⟨o,k.jI _ _ _ h⟩
 ·exact .inr h
theorem ExcAt.mono{K:ag}{H H':Hp}(k:Kp H H'){a:Addr}{c:Str}(h:ExcAt K H a c):ExcAt K H' a c :=
 let ⟨o,C,h1,h2,h3⟩:=h
 ⟨o,C,k.jI _ _ _ h1,h2,h3⟩
theorem aX.xY{K:ag}{H:Hp}{P:List V->List D->Prop}(h0:P [] [])(h1:∀ {v:V} {d:D} {vs:List V} {ds:List D},bF K H v d->aX K H vs ds->P vs ds->P (v :: vs) (d :: ds)){vs:List V}{ds:List D}(h:aX K H vs ds):P vs ds :=
 aX.rec (motive_1:=fun _ _ _=>True) (motive_2:=fun vs ds _=>P vs ds) (motive_3:=fun _ _ _=>True) (motive_4:=fun _ _ _=>True) trivial (fun _=>trivial) (fun _=>trivial) (fun _=>trivial) (fun _ _ _=>trivial) (fun _ _ _=>trivial) (fun _ _ _=>trivial) (fun _ _ _=>trivial) (fun _=>trivial) (fun _=>trivial) h0 (fun a b _ ih=>h1 a b ih) trivial (fun _ _ _ _=>trivial) trivial (fun _ _ _ _=>trivial) h
theorem bF.mono{K:ag}{H H':Hp}(k:Kp H H'):∀ {v:V} {d:D},bF K H v d->bF K H' v d:=fun h =>
 bF.rec (motive_1:=fun v d _=>bF K H' v d) (motive_2:=fun v d _=>aX K H' v d) (motive_3:=fun v d _=>jC K H' v d) (motive_4:=fun v d _=>lT K H' v d)
  .bX .bl .int .str (fun h _ r=>.tup (k.tup _ _ h) r) (fun h _ r=>.cO (k.Ky h) r) (fun h _ r=>.mh (k.jI _ _ _ h) r) (fun h _ r=>.mf (k.jI _ _ _ h) r) .ref (fun h=>.exc (h.mono k)) .nil (fun _ _ a b=>.cons a b) .nil (fun _ _ a b=>.cons a b) .nil (fun _ _ a b=>.cons a b) h
theorem aX.mono{K:ag}{H H':Hp}(k:Kp H H'){v:List V}{d:List D}(h:aX K H v d):aX K H' v d :=
 aX.xY (P:=fun v d=>aX K H' v d) .nil (fun r _ ih=>.cons (r.mono k) ih) h
theorem jC.mono{K:ag}{H H':Hp}(k:Kp H H'){v:List (Key×V)}{d:List (D×D)}(h:jC K H v d):jC K H' v d :=
 jC.rec (motive_1:=fun v d _=>bF K H' v d) (motive_2:=fun v d _=>aX K H' v d) (motive_3:=fun v d _=>jC K H' v d) (motive_4:=fun v d _=>lT K H' v d)
  .bX .bl .int .str (fun h _ r=>.tup (k.tup _ _ h) r) (fun h _ r=>.cO (k.Ky h) r) (fun h _ r=>.mh (k.jI _ _ _ h) r) (fun h _ r=>.mf (k.jI _ _ _ h) r) .ref (fun h=>.exc (h.mono k)) .nil (fun _ _ a b=>.cons a b) .nil (fun _ _ a b=>.cons a b) .nil (fun _ _ a b=>.cons a b) h
theorem lT.mono{K:ag}{H H':Hp}(k:Kp H H'){v:List (List Key×V)}{d:List (D×D)}(h:lT K H v d):lT K H' v d :=
 lT.rec (motive_1:=fun v d _=>bF K H' v d) (motive_2:=fun v d _=>aX K H' v d) (motive_3:=fun v d _=>jC K H' v d) (motive_4:=fun v d _=>lT K H' v d)
  .bX .bl .int .str (fun h _ r=>.tup (k.tup _ _ h) r) (fun h _ r=>.cO (k.Ky h) r) (fun h _ r=>.mh (k.jI _ _ _ h) r) (fun h _ r=>.mf (k.jI _ _ _ h) r) .ref (fun h=>.exc (h.mono k)) .nil (fun _ _ a b=>.cons a b) .nil (fun _ _ a b=>.cons a b) .nil (fun _ _ a b=>.cons a b) h
theorem aX.length{K:ag}{H:Hp}:∀ {vs:List V} {ds:List D},aX K H vs ds->vs.length=ds.length:=fun h =>
 aX.xY (P:=fun vs ds=>vs.length=ds.length) rfl (fun _ _ ih=>congrArg (· + 1) ih) h
theorem aX.get{K:ag}{H:Hp}:∀ {vs:List V} {ds:List D} {i:Nat} {d:D},aX K H vs ds->ds[i]?=some d->∃ v,vs[i]?=some v/\bF K H v d:=by
 intro vs ds i d h;refine aX.xY (P:=fun vs ds=>∀ (i:Nat) (d:D),ds[i]?=some d->∃ v,vs[i]?=some v/\bF K H v d) (fun i d e=>by cases e) (fun r _ ih i d e=>?_) h i d;cases i with
 | zero=>cases e; exact⟨_,rfl,r⟩
 | succ i=>exact ih i d e
theorem aX.OO{K:ag}{H:Hp}:∀ {vs:List V} {ds:List D} {i:Nat} {v:V},aX K H vs ds->vs[i]?=some v->∃ d,ds[i]?=some d/\bF K H v d:=by
 intro vs ds i v h;refine aX.xY (P:=fun vs ds=>∀ (i:Nat) (v:V),vs[i]?=some v->∃ d,ds[i]?=some d/\bF K H v d) (fun i d e=>by cases e) (fun r _ ih i d e=>?_) h i v;cases i with
 | zero=>cases e; exact⟨_,rfl,r⟩
 | succ i=>exact ih i d e
theorem aX.append{K:ag}{H:Hp}:∀ {vs ws:List V} {ds es:List D},aX K H vs ds->aX K H ws es->aX K H (vs++ws) (ds++es):=fun {_ ws _ es} h s =>
 aX.xY (P:=fun vs ds=>aX K H (vs++ws) (ds++es)) s (fun r _ ih=>.cons r ih) h
theorem aX.take{K:ag}{H:Hp}:∀ {vs:List V} {ds:List D} (n:Nat),aX K H vs ds->aX K H (vs.take n) (ds.take n):=fun {_ _} n h =>
 aX.xY (P:=fun vs ds=>∀ n,aX K H (vs.take n) (ds.take n)) (fun n=>by rw [tV,tV]; exact .nil) (fun r _ ih n=>by
  cases n with
  | zero=>exact .nil
  | succ n=>exact .cons r (ih n)) h n
theorem aX.drop{K:ag}{H:Hp}:∀ {vs:List V} {ds:List D} (n:Nat),aX K H vs ds->aX K H (vs.drop n) (ds.drop n):=fun {_ _} n h =>
 aX.xY (P:=fun vs ds=>∀ n,aX K H (vs.drop n) (ds.drop n)) (fun n=>by rw [tW,tW]; exact .nil) (fun r t ih n=>by
  cases n with
  | zero=>exact .cons r t
  | succ n=>exact ih n) h n
theorem aX.set{K:ag}{H:Hp}{v:V}{d:D}(r:bF K H v d):∀ {vs:List V} {ds:List D} (i:Nat),aX K H vs ds->aX K H (vs.set i v) (ds.set i d):=fun {_ _} i h =>
 aX.xY (P:=fun vs ds=>∀ i,aX K H (vs.set i v) (ds.set i d)) (fun i=>by rw [vB,vB]; exact .nil) (fun q t ih i=>by
  cases i with
  | zero=>exact .cons r t
  | succ i=>exact .cons q (ih i)) h i
theorem aX.one{K:ag}{H:Hp}:∀ {vs:List V} {d:D},aX K H vs [d]->∃ v,vs=[v]/\bF K H v d:=by
 intro vs d h;cases h with
 | cons r t=>cases t; exact⟨_,rfl,r⟩
theorem aX.two{K:ag}{H:Hp}:∀ {vs:List V} {d e:D},aX K H vs [d,e]->∃ v u,vs=[v,u]/\bF K H v d/\bF K H u e:=by
 intro vs d e h;cases h with
 | cons r t =>
  obtain⟨u,rfl,q⟩:=aX.one t;exact⟨_,_,rfl,r,q⟩
theorem aX.zero{K:ag}{H:Hp}:∀ {vs:List V},aX K H vs []->vs=[]
 | _,.nil=>rfl
theorem aX.ints{K:ag}{H:Hp}:∀ {vs:List V} {ns:List Int},aX K H vs (ns.map D.int)->vs=ns.map V.int:=by
 intro vs ns;induction ns generalizing vs with
 | nil=>intro h; exact h.zero
 | cons n ns ih =>
  intro h;cases h with
  | cons r t =>
   cases r;rw [ih t]; rfl
theorem aX.AZ{K:ag}{H:Hp}:∀ (ns:List Int),aX K H (ns.map V.int) (ns.map D.int)
 | []=>.nil
 | n :: ns=>.cons (.int n) (aX.AZ ns)
theorem jC.ind{K:ag}{H:Hp}{motive:∀ (kv:List (Key×V)) (aQ:List (D×D)),jC K H kv aQ->Prop}(nil:motive [] [] .nil)
  (cons:∀ {k:Key} {v:V} {d:D} {r:List (Key×V)} {t:List (D×D)} (re:bF K H v d) (rs:jC K H r t),motive r t rs->motive ((k,v) :: r) ((cY k,d) :: t) (.cons re rs)):∀ {kv:List (Key×V)} {aQ:List (D×D)} (h:jC K H kv aQ),motive kv aQ h:=fun h =>
 jC.rec (motive_1:=fun _ _ _=>True) (motive_2:=fun _ _ _=>True) (motive_3:=motive) (motive_4:=fun _ _ _=>True) trivial (fun _=>trivial) (fun _=>trivial) (fun _=>trivial) (fun _ _ _=>trivial) (fun _ _ _=>trivial) (fun _ _ _=>trivial) (fun _ _ _=>trivial) (fun _=>trivial) (fun _=>trivial) trivial (fun _ _ _ _=>trivial) nil (fun a b _ ih=>cons a b ih) trivial (fun _ _ _ _=>trivial) h
theorem lT.ind{K:ag}{H:Hp}{motive:∀ (kv:List (List Key×V)) (aQ:List (D×D)),lT K H kv aQ->Prop}(nil:motive [] [] .nil)
  (cons:∀ {k:List Key} {v:V} {d:D} {r:List (List Key×V)} {t:List (D×D)} (re:bF K H v d) (rs:lT K H r t),motive r t rs->motive ((k,v) :: r) ((.tup (k.map cY),d) :: t) (.cons re rs)):∀ {kv:List (List Key×V)} {aQ:List (D×D)} (h:lT K H kv aQ),motive kv aQ h:=fun h =>
 lT.rec (motive_1:=fun _ _ _=>True) (motive_2:=fun _ _ _=>True) (motive_3:=fun _ _ _=>True) (motive_4:=motive) trivial (fun _=>trivial) (fun _=>trivial) (fun _=>trivial) (fun _ _ _=>trivial) (fun _ _ _=>trivial) (fun _ _ _=>trivial) (fun _ _ _=>trivial) (fun _=>trivial) (fun _=>trivial) trivial (fun _ _ _ _=>trivial) trivial (fun _ _ _ _=>trivial) nil (fun a b _ ih=>cons a b ih) h
theorem jC.length{K:ag}{H:Hp}:∀ {v:List (Key×V)} {d:List (D×D)},jC K H v d->v.length=d.length:=fun h =>
 jC.ind (motive:=fun v d _=>v.length=d.length) rfl (fun _ _ ih=>congrArg (· + 1) ih) h
theorem lT.length{K:ag}{H:Hp}:∀ {v:List (List Key×V)} {d:List (D×D)},lT K H v d->v.length=d.length:=fun h =>
 lT.ind (motive:=fun v d _=>v.length=d.length) rfl (fun _ _ ih=>congrArg (· + 1) ih) h
noncomputable def FC(K:ag)(H:Hp)(a:Addr):GO->Prop
 | .lst ds=>∃ vs,H a=some (.lst vs)/\aX K H vs ds
 | .iG aQ=>(∃ kv,H a=some (.dK kv)/\jC K H kv aQ)\/∃ kv,H a=some (.dT kv)/\lT K H kv aQ
noncomputable def jJ(K:ag)(H:Hp)(G:Gp):Prop:=∀ a g,G a=some g->FC K H a g
theorem FC.dk{K:ag}{H:Hp}{a:Addr}{kv:List (Key×V)}{aQ:List (D×D)}(h:H a=some (.dK kv))(r:jC K H kv aQ):FC K H a (.iG aQ):=.inl ⟨kv,h,r⟩
theorem FC.mono{K:ag}{H H':Hp}{a:Addr}{g:GO}(k:Kp H H')(e:H' a=H a)(h:FC K H a g):FC K H' a g:=by
 cases g with
 | lst ds=>obtain⟨vs,q,r⟩:=h; exact⟨vs,e.trans q,r.mono k⟩
 | iG aQ =>
  rcases h with ⟨kv,q,r⟩ | ⟨kv,q,r⟩
  ·exact .inl ⟨kv,e.trans q,r.mono k⟩
  ·exact .inr ⟨kv,e.trans q,r.mono k⟩
theorem FC.tracked{K:ag}{H:Hp}{a:Addr}{g:GO}(h:FC K H a g):H a≠none:=by
 cases g with
 | lst ds=>obtain⟨vs,q,r⟩:=h; rw [q]; simp
 | iG aQ =>
  rcases h with ⟨kv,q,r⟩ | ⟨kv,q,r⟩
  ·rw [q]; simp
  ·rw [q]; simp
theorem jJ.free{K:ag}{H:Hp}{G:Gp}{a:Addr}(h:jJ K H G)(e:H a=none):G a=none:=by
 cases q:G a with
 | none=>rfl
 | some g=>exact absurd e (h a g q).tracked
theorem jJ.KW{K:ag}{H:Hp}{G:Gp}{a:Addr}{xs:List V}(h:jJ K H G)(e:H a=some (.tup xs)):G a=none:=by
 cases q:G a with
 | none=>rfl
 | some g =>
  have z:=h a g q;cases g with
  | lst ds=>obtain⟨vs,q,r⟩:=z; rw [e] at q; cases q
  | iG aQ =>
   rcases z with ⟨kv,q,r⟩ | ⟨kv,q,r⟩
   ·rw [e] at q; cases q
   ·rw [e] at q; cases q
theorem jJ.KY{K:ag}{H:Hp}{G:Gp}{a:Addr}{o:Obj}{u:HO}(h:jJ K H G)(e:H a=some (.jI o u)):G a=none:=by
 cases q:G a with
 | none=>rfl
 | some g =>
  have z:=h a g q;cases g with
  | lst ds=>obtain⟨vs,q,r⟩:=z; rw [e] at q; cases q
  | iG aQ =>
   rcases z with ⟨kv,q,r⟩ | ⟨kv,q,r⟩
   ·rw [e] at q; cases q
   ·rw [e] at q; cases q
structure Mv(K:ag)(H:Hp)(G:Gp)(H':Hp)(G':Gp):Prop where
 keep:∀ a o,H a=some o->G a=none->H' a=some o/\G' a=none
 ke:∀ a,G a≠none->H' a≠none
 ab:jJ K H' G'
theorem Mv.refl{K:ag}{H:Hp}{G:Gp}(h:jJ K H G):Mv K H G H G:=⟨fun _ _ e n=>⟨e,n⟩,fun a n=>by
 cases q:G a with
 | none=>exact absurd q n
 | some g=>exact(h a g q).tracked,h⟩
theorem Mv.trans{K:ag}{H H1 H2:Hp}{G G1 G2:Gp}(a:Mv K H G H1 G1)(b:Mv K H1 G1 H2 G2):Mv K H G H2 G2 :=
 ⟨fun c o e n=>let ⟨e1,n1⟩:=a.keep c o e n; b.keep c o e1 n1,fun c n=>by
  have h1:=a.ke c n;cases q:G1 c with
  | some g=>exact b.ke c (by rw [q]; simp)
  | none =>
   cases q1:H1 c with
   | none=>exact absurd q1 h1
   | some o=>rw [(b.keep c o q1 q).1]; simp,b.ab⟩
theorem Mv.kp{K:ag}{H H':Hp}{G G':Gp}(m:Mv K H G H' G')(h:jJ K H G):Kp H H' :=
 ⟨fun a xs e=>(m.keep a _ e (h.KW e)).1,fun a o u e=>(m.keep a _ e (h.KY e)).1⟩
theorem Kp.new{H:Hp}{p:Addr}{o:HO}(hp:H p=none):Kp H (upd H p o):=⟨fun a xs e=>by rw [bw (bQ e hp)]; exact e,fun a ob u e=>by rw [bw (bQ e hp)]; exact e⟩
theorem Kp.putL{H:Hp}{p:Addr}{xs:List V}{o:HO}(hp:H p=some (.lst xs)):Kp H (upd H p o) :=
 ⟨fun a ys e=>by rw [bw (by rintro rfl; rw [hp] at e; cases e)]; exact e,fun a ob u e=>by rw [bw (by rintro rfl; rw [hp] at e; cases e)]; exact e⟩
theorem Mv.new{K:ag}{H:Hp}{G:Gp}{p:Addr}{o:HO}{g:GO}(h:jJ K H G)(hp:H p=none)(ho:FC K (upd H p o) p g):Mv K H G (upd H p o) (cf G p g) where
 keep:=fun a ob e n=>by
  have ne:=bQ e hp;exact⟨by rw [bw ne]; exact e,by rw [cN ne]; exact n⟩
 ke:=fun a n=>by
  have ne:a≠p:=by rintro rfl; exact n (h.free hp)
  rw [bw ne];exact(Mv.refl h).ke a n
 ab:=fun a g' e=>by
  by_cases ha:a=p
  ·subst ha; rw [aG] at e; cases e; exact ho
  ·rw [cN ha] at e;exact(h a g' e).mono (.new hp) (bw ha)
theorem Mv.Kb{K:ag}{H:Hp}{G:Gp}{p:Addr}{o:HO}(h:jJ K H G)(hp:H p=none):Mv K H G (upd H p o) G where
 keep:=fun a ob e n=>⟨by rw [bw (bQ e hp)]; exact e,n⟩
 ke:=fun a n=>by
  have ne:a≠p:=by rintro rfl; exact n (h.free hp)
  rw [bw ne];exact(Mv.refl h).ke a n
 ab:=fun a g' e=>by
  have ne:a≠p:=by rintro rfl; rw [h.free hp] at e; cases e
  exact(h a g' e).mono (.new hp) (bw ne)
theorem Mv.put{K:ag}{H:Hp}{G:Gp}{p:Addr}{o:HO}{g g0:GO}(h:jJ K H G)(hg:G p=some g0)(k:Kp H (upd H p o))(ho:FC K (upd H p o) p g):Mv K H G (upd H p o) (cf G p g) where
 keep:=fun a ob e n=>by
  have ne:a≠p:=by rintro rfl; rw [hg] at n; cases n
  exact⟨by rw [bw ne]; exact e,by rw [cN ne]; exact n⟩
 ke:=fun a n=>by
  by_cases ha:a=p
  ·subst ha; rw [cq]; simp
  ·rw [bw ha]; exact(Mv.refl h).ke a n
 ab:=fun a g' e=>by
  by_cases ha:a=p
  ·subst ha; rw [aG] at e; cases e; exact ho
  ·rw [cN ha] at e;exact(h a g' e).mono k (bw ha)
theorem jJ.lst{K:ag}{H:Hp}{G:Gp}{a:Addr}{ds:List D}(h:jJ K H G)(e:G a=some (.lst ds)):∃ vs,H a=some (.lst vs)/\aX K H vs ds:=h a _ e
theorem Mv.vX{K:ag}{H:Hp}{G:Gp}{p:Addr}{vs:List V}{ds:List D}(h:jJ K H G)(hp:H p=none)(r:aX K H vs ds):Mv K H G (upd H p (.lst vs)) (cf G p (.lst ds)) :=
 .new h hp ⟨vs,cq,r.mono (.new hp)⟩
theorem Mv.putL{K:ag}{H:Hp}{G:Gp}{p:Addr}{Qr vs:List V}{SI ds:List D}(h:jJ K H G)(hg:G p=some (.lst SI))(hp:H p=some (.lst Qr))(r:aX K H vs ds):Mv K H G (upd H p (.lst vs)) (cf G p (.lst ds)) :=
 .put h hg (.putL hp) ⟨vs,cq,r.mono (.putL hp)⟩
structure FP(K:ag)(H:Hp)(σ:L2.St)(τ:fk):Prop where
 len:σ.length=τ.length
 at':∀ (i:Nat) (d:D),τ[i]?=some (some d)->∃ v,σ[i]?=some (some v)/\bF K H v d
theorem FP.mono{K:ag}{H H':Hp}{σ:L2.St}{τ:fk}(k:Kp H H')(a:FP K H σ τ):FP K H' σ τ :=
 ⟨a.len,fun i d e=>let ⟨v,h1,h2⟩:=a.at' i d e; ⟨v,h1,h2.mono k⟩⟩
theorem FP.set{K:ag}{H:Hp}{σ:L2.St}{τ:fk}{v:V}{d:D}(a:FP K H σ τ)(i:Nat)(r:bF K H v d):FP K H (σ.set i (some v)) (τ.set i (some d)):=by
 refine⟨by rw [iN,iN]; exact a.len,fun j e h=>?_⟩;by_cases hj:i=j
 ·subst hj;by_cases hi:i < τ.length
  ·rw [fB hi] at h;cases h;exact⟨v,by rw [fB (by rw [a.len]; exact hi)],r⟩
  ·rw [List.set_eq_of_length_le (by lia)] at h;rw [FE (by lia)] at h;cases h
 ·rw [gB hj] at h;obtain⟨w,h1,h2⟩:=a.at' j e h;exact⟨w,by rw [gB hj]; exact h1,h2⟩
structure I2(X:Cx)(pins:List (Addr×Obj))(σ:L2.St)(H:Hp)(τ:fk)(G:Gp)(s:ak):Prop where
 inv:Inv X pins σ H s
 st:FP X.K H σ τ
 ab:jJ X.K H G
theorem I2.mv{X:Cx}{pins:List (Addr×Obj)}{σ:L2.St}{H H':Hp}{τ:fk}{G G':Gp}{s s':ak}(I:I2 X pins σ H τ G s)(I':Inv X pins σ H' s')(m:Mv X.K H G H' G'):I2 X pins σ H' τ G' s' :=
 ⟨I',I.st.mono (m.kp I.ab),m.ab⟩
noncomputable def Tw(P:bf)(w:World):CZ:=fun outer H s E e s'=>∃ (a C t:Addr) (B:Heap) (H':Hp),e=.ref a/\s'.os=s.os/\vD s'.gens/\Un (CS outer) [] H H' s.heap s'.heap/\ow P w H' s'.heap /\
 (∀ b o,s'.heap.get? b=some o->b∉CS outer->(s.heap.get? b≠none\/H' b≠none)->B.get? b=some o)/\PySem.Heap.FlyingW B outer a (.ref C) (.ref t) s'.heap/\H' a=none/\s.heap.get? a=none/\E (.ref C) none H'
noncomputable def SF(mg:Str->Option Value)(E:jz):XK:=fun cls _ _=>∃ (ex:Ex) (C:Addr),cls=.ref C/\mg ex.cls=some (.ref C)/\E ex (fun _=>none)
structure Lk(X:Cx)(E:jz):Prop where
 made:∀ (pins:List (Addr×Obj)) (σ:L2.St) (H:Hp) (s:ak) (h1:Heap) (a C:Addr) (args:List Value) (ex:Ex),Inv X pins σ H s->PySem.Heap.MadeExcOf s.heap h1 a (.ref C) args->X.mg ex.cls=some (.ref C)->E ex (fun _=>none)->X.xe (.ref a) { s with heap:=h1 }
 pass:∀ (pins:List (Addr×Obj)) (σ:L2.St) (H:Hp) (s s':ak) (e:Value),Inv X pins σ H s->Tw X.prog X.w X.stack H s (SF X.mg E) e s'->X.xe e s'
theorem Lk.none{X:Cx}{E:jz}(h:∀ ex G,¬ E ex G):Lk X E where
 made:=fun _ _ _ _ _ _ _ _ ex _ _ _ z=>absurd z (h ex _)
 pass:=fun _ _ _ _ _ _ _ hc=>by
  obtain⟨_,_,_,_,_,_,_,_,_,_,_,_,_,_,hz⟩:=hc;obtain⟨ex,_,_,_,z⟩:=hz;exact absurd z (h ex _)
inductive ny (X:Cx) (pins:List (Addr×Obj)) (σ:L2.St) (H:Hp) (G:Gp) (Q:DK) (u:Value) (s':ak):Prop
 | mk (v:V) (H':Hp) (d:D) (G':Gp) (i:Inv X pins σ H' s') (m:Mv X.K H G H' G') (r:RelV v u) (rd:bF X.K H' v d) (q:Q d G'):ny X pins σ H G Q u s'
inductive Kg (X:Cx) (pins:List (Addr×Obj)) (σ:L2.St) (H:Hp) (G:Gp) (Q:Bool->Gp->Prop) (b:Bool) (s':ak):Prop
 | mk (H':Hp) (G':Gp) (i:Inv X pins σ H' s') (m:Mv X.K H G H' G') (q:Q b G'):Kg X pins σ H G Q b s'
inductive Qn (X:Cx) (pins:List (Addr×Obj)) (σ:L2.St) (H:Hp) (G:Gp) (Q:List D->Gp->Prop) (us:List Value) (s':ak):Prop
 | mk (vs:List V) (H':Hp) (ds:List D) (G':Gp) (i:Inv X pins σ H' s') (m:Mv X.K H G H' G') (r:Vals vs us) (rd:aX X.K H' vs ds) (q:Q ds G'):Qn X pins σ H G Q us s'
inductive MF (X:Cx) (pins:List (Addr×Obj)) (H:Hp) (G:Gp) (P:fk->Gp->Prop) (s':ak):Prop
 | mk (gi:L2.St) (H':Hp) (lr:fk) (G':Gp) (i:I2 X pins gi H' lr G' s') (m:Mv X.K H G H' G') (q:P lr G'):MF X pins H G P s'
inductive Qg (X:Cx) (pins:List (Addr×Obj)) (H:Hp) (G:Gp) (P:D->Gp->Prop) (u:Value) (s':ak):Prop
 | mk (v:V) (gi:L2.St) (H':Hp) (d:D) (G':Gp) (i:Inv X pins gi H' s') (m:Mv X.K H G H' G') (r:RelV v u) (rd:bF X.K H' v d) (q:P d G'):Qg X pins H G P u s'
noncomputable def JU(X:Cx)(pins:List (Addr×Obj))(H:Hp)(G:Gp)(D:jB)(f:Flow)(s':ak):Prop :=
 match f with
 | .next=>MF X pins H G D.nx s'
 | .brk=>MF X pins H G D.bk s'
 | .cont=>MF X pins H G D.ct s'
 | .ret u=>Qg X pins H G D.rt u s'
noncomputable def fI(X:Cx)(e:Expr)(t:e7):Prop :=
 ∀ (E:jz) (pins:List (Addr×Obj)) (s:ak) (σ:L2.St) (H:Hp) (τ:fk) (G:Gp) (Q:DK),Lk X E->I2 X pins σ H τ G s->t E τ G Q->wpAny (model X.prog X.w) X.A (eval e X.env) (ny X pins σ H G Q) X.xe s
noncomputable def Fv(X:Cx)(e:Expr)(t:tL):Prop :=
 ∀ (E:jz) (pins:List (Addr×Obj)) (s:ak) (σ:L2.St) (H:Hp) (τ:fk) (G:Gp) (Q:Bool->Gp->Prop),Lk X E->I2 X pins σ H τ G s->t E τ G Q->wpAny (model X.prog X.w) X.A (isTrue e X.env (eval e X.env)) (Kg X pins σ H G Q) X.xe s
noncomputable def FN(X:Cx)(e:Expr)(t:tL):Prop :=
 ∀ (wh:Sem Value) (E:jz) (pins:List (Addr×Obj)) (s:ak) (σ:L2.St) (H:Hp) (τ:fk) (G:Gp) (Q:Bool->Gp->Prop),Lk X E->I2 X pins σ H τ G s->t E τ G Q->wpAny (model X.prog X.w) X.A (isTrue e X.env wh) (Kg X pins σ H G Q) X.xe s
noncomputable def BC(X:Cx)(es:List Expr)(t:yK):Prop :=
 ∀ (pos:Pos) (E:jz) (pins:List (Addr×Obj)) (s:ak) (σ:L2.St) (H:Hp) (τ:fk) (G:Gp) (Q:List D->Gp->Prop),Lk X E->I2 X pins σ H τ G s->t E τ G Q->wpAny (model X.prog X.w) X.A (spliced (kc pos (bI es X.env))) (Qn X pins σ H G Q) X.xe s
noncomputable def BB(X:Cx)(st:Stmt)(t:gx):Prop :=
 ∀ (E:jz) (pins:List (Addr×Obj)) (s:ak) (σ:L2.St) (H:Hp) (τ:fk) (G:Gp) (D:jB),Lk X E->I2 X pins σ H τ G s->t E D τ G->wpAny (model X.prog X.w) X.A (exec st X.env) (JU X pins H G D) X.xe s
noncomputable def qr(X:Cx)(st:List Stmt)(t:gx):Prop :=
 ∀ (E:jz) (pins:List (Addr×Obj)) (s:ak) (σ:L2.St) (H:Hp) (τ:fk) (G:Gp) (D:jB),Lk X E->I2 X pins σ H τ G s->t E D τ G->wpAny (model X.prog X.w) X.A (execs st X.env) (JU X pins H G D) X.xe s
theorem JU.trans{X:Cx}{pins:List (Addr×Obj)}{H H1:Hp}{G G1:Gp}{D:jB}{f:Flow}{s':ak}(m:Mv X.K H G H1 G1)(h:JU X pins H1 G1 D f s'):JU X pins H G D f s':=by
 cases f with
 | next=>obtain⟨gi,H',lr,G',I,m',q⟩:=h; exact⟨gi,H',lr,G',I,m.trans m',q⟩
 | brk=>obtain⟨gi,H',lr,G',I,m',q⟩:=h; exact⟨gi,H',lr,G',I,m.trans m',q⟩
 | cont=>obtain⟨gi,H',lr,G',I,m',q⟩:=h; exact⟨gi,H',lr,G',I,m.trans m',q⟩
 | ret u=>obtain⟨v,gi,H',d,G',I,m',r,rd,q⟩:=h; exact⟨v,gi,H',d,G',I,m.trans m',r,rd,q⟩
section
variable {X:Cx} {a b c:Expr} {ta tb tc:e7} {pos:Pos}
theorem jZ{pins:List (Addr×Obj)}{σ:L2.St}{H:Hp}{τ:fk}{G:Gp}{s:ak}{E:jz}{R:DK}{Q:Value->ak->Prop}(ha:fI X a ta)(hE:Lk X E)(I:I2 X pins σ H τ G s)(h:ta E τ G R)
  (k:∀ v H1 d G1 u s1,I2 X pins σ H1 τ G1 s1->Mv X.K H G H1 G1->RelV v u->bF X.K H1 v d->R d G1->Q u s1):wpAny (model X.prog X.w) X.A (eval a X.env) Q X.xe s :=
 eI (ha E pins s σ H τ G R hE I h) (by rintro u s1 ⟨v,H1,d,G1,I1,m,r,rd,q⟩; exact k v H1 d G1 u s1 (I.mv I1 m) m r rd q)
theorem ny.trans{pins:List (Addr×Obj)}{σ:L2.St}{H H1:Hp}{G G1:Gp}{Q:DK}{u:Value}{s':ak}(m:Mv X.K H G H1 G1)(h:ny X pins σ H1 G1 Q u s'):ny X pins σ H G Q u s':=by
 obtain⟨v,H',d,G',I,m',r,rd,q⟩:=h;exact⟨v,H',d,G',I,m.trans m',r,rd,q⟩
theorem Kg.trans{pins:List (Addr×Obj)}{σ:L2.St}{H H1:Hp}{G G1:Gp}{Q:Bool->Gp->Prop}{u:Bool}{s':ak}(m:Mv X.K H G H1 G1)(h:Kg X pins σ H1 G1 Q u s'):Kg X pins σ H G Q u s':=by
 obtain⟨H',G',I,m',r⟩:=h;exact⟨H',G',I,m.trans m',r⟩
theorem GC {i:Nat} {x:Str} (hN:X.N[i]?=some x) (hv:MD X.env.scope x) (hd:autoParam ((x == ("__debug__" : Str))=false) Ad._auto_1) (w4:autoParam ((x == ("__classdict__" : Str))=false) Ad._auto_1):fI X (.Name x pos) (ay i):=by
 intro E pins s σ H τ G Q hE I h;unfold ay at h;split at h
 ·rename_i d e;obtain⟨v,h1,h2⟩:=I.st.at' i d e;exact eI (IM hN hv hd w4 pins s σ H (fun v' H'=>v'=v/\H'=H) I.inv ⟨v,h1,rfl,rfl⟩) fun u s1 CP=>by
   obtain⟨v',H',I1,r,e1,e2⟩:=CP;subst e1; subst e2;exact⟨_,_,d,G,I1,.refl I.ab,r,h2,h⟩
 ·exact h.elim
theorem uX{e:Expr}{v:V}{d:D}(h:PE X e (tC v))(r:∀ K H,bF K H v d):fI X e (dC d):=by
 intro E pins s σ H τ G Q hE I hq;exact eI (h pins s σ H (fun v' H'=>v'=v/\H'=H) I.inv ⟨rfl,rfl⟩) fun u s1 RA=>by
  obtain⟨v',H',I1,rr,e1,e2⟩:=RA;subst e1; subst e2;exact⟨_,_,d,G,I1,.refl I.ab,rr,r _ _,hq⟩
theorem a8{i j}:fI X (.Constant (.int i) j pos) (dC (.int i)):=uX IP fun _ _=>.int i
noncomputable def ll(X:Cx)(f:Value->Value->Sem Value)(r:vx):Prop :=
 ∀ (pins:List (Addr×Obj)) (s:ak) (σ:L2.St) (H:Hp) (G:Gp) (x y:V) (dx dy:D) (v u:Value) (Q:DK),Inv X pins σ H s->jJ X.K H G->RelV x v->RelV y u->bF X.K H x dx->bF X.K H y dy->r dx dy G Q ->
  wpAny (model X.prog X.w) X.A (f v u) (ny X pins σ H G Q) X.xe s
noncomputable def lp(X:Cx)(f:Value)(r:List D->Gp->DK->Prop):Prop :=
 ∀ (pins:List (Addr×Obj)) (s:ak) (σ:L2.St) (H:Hp) (G:Gp) (xs:List V) (ds:List D) (us:List Value) (Q:DK),Inv X pins σ H s->jJ X.K H G->Vals xs us->aX X.K H xs ds->r ds G Q ->
  wpAny (model X.prog X.w) X.A (call f us) (ny X pins σ H G Q) X.xe s
noncomputable abbrev w7(K:ag)(H:Hp)(G:Gp)(Q:DK):VK:=fun v H'=>∃ d G',Mv K H G H' G'/\bF K H' v d/\Q d G'
theorem ny.of{pins:List (Addr×Obj)}{σ:L2.St}{H:Hp}{G:Gp}{Q:DK}{u:Value}{s':ak}(h:EP X pins σ (w7 X.K H G Q) u s'):ny X pins σ H G Q u s':=by
 obtain⟨v,H',I,r,d,G',m,rd,q⟩:=h;exact⟨v,H',d,G',I,m,r,rd,q⟩
theorem Fq(ha:fI X a ta)(hb:fI X b tb){E:jz}{pins:List (Addr×Obj)}{s:ak}{σ:L2.St}{H:Hp}{τ:fk}{G:Gp}{R:D->D->Gp->Prop}(hE:Lk X E)(I:I2 X pins σ H τ G s)
  (h:ta E τ G fun x G1=>tb E τ G1 fun y G2=>R x y G2) {Q:Value->ak->Prop} {f:Value->Value->Sem Value}
  (hf:∀ v u s2 x y dx dy H2 G2,I2 X pins σ H2 τ G2 s2->Mv X.K H G H2 G2->RelV x v->RelV y u->bF X.K H2 x dx->bF X.K H2 y dy->R dx dy G2->wpAny (model X.prog X.w) X.A (f v u) Q X.xe s2) :
  wpAny (model X.prog X.w) X.A (eval a X.env) (fun v dc=>wpAny (model X.prog X.w) X.A (eval b X.env) (fun u iQ=>wpAny (model X.prog X.w) X.A (f v u) Q X.xe iQ) X.xe dc) X.xe s:=by
 refine jZ ha hE I h fun x H1 dx G1 v s1 I1 m1 r1 je q1=>?_;refine jZ hb hE I1 q1 fun y H2 dy G2 u s2 kF m2 r2 AL q2=>?_;exact hf v u s2 x y dx dy H2 G2 kF (m1.trans m2) r1 r2 (je.mono (m2.kp I1.ab)) AL q2
theorem bN{op:Operator}{r:vx}(ho:ll X (g7 op) r)(ha:fI X a ta)(hb:fI X b tb):fI X (.BinOp a op b pos) (bh r ta tb):=by
 intro E pins s σ H τ G Q hE I h;exact wpAny_BinOp (Fq ha hb hE I h fun v u s2 x y dx dy H2 G2 kF m rx ry dX dY q=>eI (ho pins s2 σ H2 G2 x y dx dy v u Q kF.inv kF.ab rx ry dX dY q) fun _ _ z=>z.trans m)
theorem GF{op:CmpOp}{r:vx}(ho:ll X (cG op) r)(ha:fI X a ta)(hb:fI X b tb)(hm:behindInMarks op b=false):fI X (.Compare a [op] [b] pos) (bh r ta tb):=by
 intro E pins s σ H τ G Q hE I h;exact wpAny_Compare1 (Fq ha hb hE I h fun v u s2 x y dx dy H2 G2 kF m rx ry dX dY q=>eI (ho pins s2 σ H2 G2 x y dx dy v u Q kF.inv kF.ab rx ry dX dY q) fun _ _ z=>z.trans m) hm
end
end K2
end
section
namespace K2
open PySem PySem.Spec PyProof.Rows L2
theorem Ku{K:ag}{H:Hp}{G:Gp}{x:V}{d:D}{k:Bool}(ab:jJ K H G)(r:bF K H x d)(e:BJ d G=some k):(∃ p,x=.ref p/\Rd H p (.dT [])/\k=false)\/(∃ p kv,x=.ref p/\Rd H p (.dK kv)/\k=!kv.isEmpty)\/JS K x H k:=by
 have E4:∀ aQ:List (D×D),(if (aQ.all fun p=>cC p.1)=true then some (!aQ.isEmpty) else none)=some k->∀ p,((∃ kv,Rd H p (.dK kv)/\jC K H kv aQ)\/∃ kv,Rd H p (.dT kv)/\lT K H kv aQ) ->
   (∃ p',V.ref p=.ref p'/\Rd H p' (.dT [])/\k=false)\/(∃ p' kv,V.ref p=.ref p'/\Rd H p' (.dK kv)/\k=!kv.isEmpty)\/JS K (.ref p) H k:=by
  intro aQ e p z;by_cases ha:(aQ.all fun p=>cC p.1)=true
  ·rw [if_pos ha] at e;cases e;rcases z with ⟨kv,hv,rs⟩ | ⟨kv,hv,rs⟩
   ·right; left;refine⟨p,kv,rfl,hv,?_⟩;cases rs <;> rfl
   ·left;cases rs with
    | nil=>exact⟨p,rfl,hv,rfl⟩
    | cons _ _=>simp [cC] at ha
  ·rw [if_neg ha] at e; cases e
 cases r with
 | bX=>right; right; cases e; rfl
 | bl b=>right; right; cases e; rfl
 | int i=>right; right; cases e; rfl
 | str y =>
  right; right;unfold BJ at e;dsimp only at e;by_cases h:y.length<=SZ
  ·rw [if_pos h] at e; cases e; exact⟨by rw [bM]; exact h,rfl⟩
  ·rw [if_neg h] at e; cases e
 | tup h rs =>
  right; right;cases e;refine .inr (.inl ⟨_,.of h,?_⟩);cases rs <;> rfl
 | cO h rs =>
  right; right;cases e;refine .inl ⟨_,h.sq,?_⟩;cases rs <;> rfl
 | mh h rs=>exact E4 _ e _ (.inl ⟨_,.inr ⟨_,h⟩,rs⟩)
 | mf h rs=>exact E4 _ e _ (.inr ⟨_,.inr ⟨_,h⟩,rs⟩)
 | exc h=>simp [BJ] at e
 | ref a =>
  unfold BJ at e;dsimp only at e;cases q:G a with
  | none=>rw [q] at e; cases e
  | some g =>
   rw [q] at e;have z:=ab a g q;cases g with
   | lst ds =>
    right; right;obtain⟨vs,hv,rs⟩:=z;cases e;refine .inl ⟨vs,.of hv,?_⟩;cases rs <;> rfl
   | iG aQ =>
    refine E4 aQ e a ?_;rcases z with ⟨kv,hv,rs⟩ | ⟨kv,hv,rs⟩
    ·exact .inl ⟨kv,.inl hv,rs⟩
    ·exact .inr ⟨kv,.inl hv,rs⟩
section
variable {X:Cx} {a b c:Expr} {ta tb tc:e7} {pos:Pos}
noncomputable def LU(X:Cx):Prop:=∀ (pins:List (Addr×Obj)) (s:ak) (σ:L2.St) (H:Hp) (G:Gp) (x:V) (d:D) (v:Value) (k:Bool) (Q:Bool->ak->Prop),Inv X pins σ H s->jJ X.K H G->RelV x v->bF X.K H x d->BJ d G=some k ->
  (∀ s',Inv X pins σ H s'->Q k s')->wpAny (model X.prog X.w) X.A (truthy v) Q X.xe s
theorem zc:LU X:=by
 intro pins s σ H G x d v k Q I ab rx rd e q;rcases Ku ab rd e with ⟨p,rfl,hv,hk⟩ | ⟨p,kv,rfl,hv,hk⟩ | h
 ·obtain⟨z,hS,xs,rel,o,es,ep,ho,hx,x2,hl,nd⟩:=hv.ok I.bY;have N6:xs=[]:=by cases rel; rfl
  subst N6;have he:es=#[]:=by simpa using hl
  subst he;cases rx;have dd:s.heap.DictOf (c7 X.prog X.w) p []:=⟨o,#[],ep,ho,hx,x2,(fun _ h=>by simp at h),.nil,cP⟩;refine yO hS dd (by simp) ?_;subst hk;exact q _ (I.tok _)
 ·cases rx;subst hk;exact Hn I hv q
 ·exact eI (Iu pins s σ H x v (fun k' H'=>k'=k/\H'=H) I rx ⟨k,h,rfl,rfl⟩) fun k' s' CP=>by
   obtain⟨H',I',e1,e2⟩:=CP;subst e1; subst e2; exact q s' I'
theorem eT(ha:fI X a ta)(he:autoParam (∀ whole,isTrue a X.env whole=(do let v ← whole; standAt a.pos; yR [v] (truthy v))) Ai._auto_1):Fv X a (gT ta):=by
 intro E pins s σ H τ G Q hE I h;refine isTrue_plain (jZ ha hE I h fun x H1 d G1 v s1 I1 m1 r1 je q1=>?_) (he _)
 try dsimp only at q1
 split at q1
 ·rename_i k e;exact zc pins s1 σ H1 G1 x d v k _ I1.inv I1.ab r1 je e fun s' I'=>⟨H1,G1,I',m1,q1⟩
 ·exact q1.elim
theorem eZ{op:CmpOp}{r:vx}(ho:ll X (cG op) r)(ha:fI X a ta)(hb:fI X b tb)(hm:behindInMarks op b=false):Fv X (.Compare a [op] [b] pos) (gT (bh r ta tb)):=by
 intro E pins s σ H τ G Q hE I h;refine wpAny_isTrue_Compare1 (jZ ha hE I h fun x H1 dx G1 v s1 I1 m1 r1 je q1=>jZ hb hE I1 q1 fun y H2 dy G2 u s2 kF m2 r2 AL q2 =>
  eI (ho pins s2 σ H2 G2 x y dx dy v u _ kF.inv kF.ab r1 r2 (je.mono (m2.kp I1.ab)) AL q2) ?_) hm
 rintro c s3 ⟨z,H3,dz,G3,I3,m3,r3,Ng,q3⟩
 try dsimp only at q3
 split at q3
 ·rename_i k e;exact zc pins s3 σ H3 G3 z dz c k _ I3 m3.ab r3 Ng e fun s' I'=>⟨H3,G3,I',(m1.trans m2).trans m3,q3⟩
 ·exact q3.elim
variable {tA tB:tL} {rest:List Expr}
theorem FN.pt{e:Expr}{t:tL}(h:FN X e t):Fv X e t:=fun E pins s σ H τ G Q hE I q=>h _ E pins s σ H τ G Q hE I q
theorem Gg{pins:List (Addr×Obj)}{σ:L2.St}{H:Hp}{τ:fk}{G:Gp}{s:ak}{E:jz}{R:Bool->Gp->Prop}{Q:Bool->ak->Prop}(ha:Fv X a tA)(hE:Lk X E)(I:I2 X pins σ H τ G s)(h:tA E τ G R)
  (k:∀ c H1 G1 s1,I2 X pins σ H1 τ G1 s1->Mv X.K H G H1 G1->R c G1->Q c s1):wpAny (model X.prog X.w) X.A (isTrue a X.env (eval a X.env)) Q X.xe s :=
 eI (ha E pins s σ H τ G R hE I h) (by rintro c s1 ⟨H1,G1,I1,m,q⟩; exact k c H1 G1 s1 (I.mv I1 m) m q)
theorem oT(ha:Fv X a tA):FN X (.BoolOp .Or [a] pos) tA:=by
 intro wh E pins s σ H τ G Q hE I h;refine isTrue_or (eI (ha E pins s σ H τ G Q hE I h) fun c s1 e=>?_);cases c with
 | false=>exact isTrue_or_nil e
 | true=>exact e
theorem p7(ha:Fv X a tA)(hb:FN X (.BoolOp .Or (b :: rest) pos) tB):FN X (.BoolOp .Or (a :: b :: rest) pos) (CU tA tB):=by
 intro wh E pins s σ H τ G Q hE I h;refine isTrue_or (Gg ha hE I h fun c H1 G1 s1 I1 m1 q1=>?_);cases c with
 | false=>exact eI (hb wh E pins s1 σ H1 τ G1 Q hE I1 (by simpa using q1)) fun _ _ z=>z.trans m1
 | true=>exact⟨H1,G1,I1.inv,m1,by simpa using q1⟩
theorem ip(ha:Fv X a tA):Fv X (.UnaryOp .Not a pos) (j3 tA):=by
 intro E pins s σ H τ G Q hE I h;exact isTrue_not (eI (ha E pins s σ H τ G (fun c H1=>Q (!c) H1) hE I h) (by rintro c s' ⟨H',G',i,m,q⟩; exact⟨H',G',i,m,q⟩))
theorem AW{op}{t:e7}(h:fI X a t):fI X (.BoolOp op [a] pos) t:=fun E pins s σ H τ G Q hE I hw=>BoolOp_one (h E pins s σ H τ G Q hE I hw)
theorem GG(ha:fI X a ta)(hb:fI X (.BoolOp .And (b :: rest) pos) tb):fI X (.BoolOp .And (a :: b :: rest) pos) (Bs ta tb):=by
 intro E pins s σ H τ G Q hE I h;refine BoolOp_and (jZ ha hE I h fun x H1 d G1 v s1 I1 m1 r1 je q1=>?_)
 try dsimp only at q1
 split at q1
 ·rename_i e;exact zc pins s1 σ H1 G1 x d v true _ I1.inv I1.ab r1 je e fun s' I'=>eI (hb E pins s' σ H1 τ G1 Q hE ⟨I',I1.st,I1.ab⟩ q1) fun _ _ z=>z.trans m1
 ·rename_i e;exact zc pins s1 σ H1 G1 x d v false _ I1.inv I1.ab r1 je e fun s' I'=>⟨x,H1,d,G1,I',m1,r1,je,q1⟩
 ·exact q1.elim
theorem IQ(ha:fI X a ta)(hb:fI X (.BoolOp .Or (b :: rest) pos) tb):fI X (.BoolOp .Or (a :: b :: rest) pos) (Ho ta tb):=by
 intro E pins s σ H τ G Q hE I h;refine BoolOp_or (jZ ha hE I h fun x H1 d G1 v s1 I1 m1 r1 je q1=>?_)
 try dsimp only at q1
 split at q1
 ·rename_i e;exact zc pins s1 σ H1 G1 x d v true _ I1.inv I1.ab r1 je e fun s' I'=>⟨x,H1,d,G1,I',m1,r1,je,q1⟩
 ·rename_i e;exact zc pins s1 σ H1 G1 x d v false _ I1.inv I1.ab r1 je e fun s' I'=>eI (hb E pins s' σ H1 τ G1 Q hE ⟨I',I1.st,I1.ab⟩ q1) fun _ _ z=>z.trans m1
 ·exact q1.elim
theorem GD(ha:fI X a ta):fI X (.UnaryOp .Not a pos) (E8 ta):=by
 intro E pins s σ H τ G Q hE I h;refine UnaryOp_ (jZ ha hE I h fun x H1 d G1 v s1 I1 m1 r1 je q1=>?_)
 try dsimp only at q1
 split at q1
 ·rename_i k e;exact not_of (zc pins s1 σ H1 G1 x d v k _ I1.inv I1.ab r1 je e fun s' I'=>⟨.bl (!k),H1,.bl (!k),G1,I',m1,rfl,.bl _,q1⟩)
 ·exact q1.elim
variable {e:Expr} {es:List Expr} {te:e7} {t:yK}
theorem aL:BC X [] a7:=fun _ _ _ _ _ H _ G Q _ I h=>Calls.spliced_nil ⟨[],H,[],G,I.inv,.refl I.ab,.nil,.nil,h⟩
theorem ax(ha:fI X e te)(hr:BC X es t)(hs:autoParam (bI (e :: es) X.env=(false,eval e X.env) :: bI es X.env) Ar._auto_1):BC X (e :: es) (aJ te t):=by
 intro pos E pins s σ H τ G Q hE I h;rw [hs];show wpAny _ _ (spliced ((false,eval e X.env) :: kc pos (bI es X.env))) _ _ s;refine rN (jZ ha hE I h fun x H1 d G1 u s1 I1 m1 r1 je q1=>?_);exact eI (hr pos E pins s1 σ H1 τ G1 _ hE I1 q1) (by rintro us s2 ⟨xs,H2,ds,G2,kF,m2,r2,AL,q2⟩; exact⟨x :: xs,H2,d :: ds,G2,kF,m1.trans m2,.cons r1 r2,.cons (je.mono (m2.kp I1.ab)) AL,q2⟩)
theorem xl{pins:List (Addr×Obj)}{σ:L2.St}{H:Hp}{τ:fk}{G:Gp}{s:ak}{E:jz}{R:List D->Gp->Prop}{Q:List Value->ak->Prop}(ha:BC X es t)(pos:Pos)(hE:Lk X E)(I:I2 X pins σ H τ G s)(h:t E τ G R)
  (k:∀ vs H1 ds G1 us s1,I2 X pins σ H1 τ G1 s1->Mv X.K H G H1 G1->Vals vs us->aX X.K H1 vs ds->R ds G1->Q us s1):wpAny (model X.prog X.w) X.A (spliced (kc pos (bI es X.env))) Q X.xe s :=
 eI (ha pos E pins s σ H τ G R hE I h) (by rintro us s1 ⟨vs,H1,ds,G1,I1,m,r,rd,q⟩; exact k vs H1 ds G1 us s1 (I.mv I1 m) m r rd q)
theorem oY{x1}(h:BC X es t):fI X (.Tuple es x1 pos) (qV t):=by
 intro E pins s σ H τ G Q hE I hq;refine wpAny_Tuple_spliced (xl h pos hE I hq ?_);rintro xs H1 ds G1 us s1 I1 m1 r rd ⟨z,q⟩;refine⟨by rw [<-r.length,rd.length,bM]; exact z,?_⟩;have hf:H1 s1.heap.objs.size=none:=I1.inv.bY.fresh (aF _);refine⟨.ref s1.heap.objs.size,upd H1 s1.heap.objs.size (.tup xs),.tup ds,G1,I1.inv.laid (t':=s1.toks) (fun b u e=>ar _ e) (aF _) ?_,m1.trans (.Kb I1.ab hf),rfl,?_,q⟩
 ·exact⟨by rw [rd.length,bM]; exact z,us,r,⟨_,aR _ rfl,rfl,_,rfl⟩⟩
 ·exact .tup cq (rd.mono (.new hf))
theorem dM(h:BC X es t):fI X (.List es pos) (fH t):=by
 intro E pins s σ H τ G Q hE I hq;refine wpAny_List_spliced (xl h pos hE I hq ?_);rintro xs H1 ds G1 us s1 I1 m1 r rd ⟨z,q⟩;refine⟨by rw [<-r.length,rd.length,bM]; exact z,?_⟩;have hf:H1 s1.heap.objs.size=none:=I1.inv.bY.fresh (aF _);refine⟨.ref s1.heap.objs.size,upd H1 s1.heap.objs.size (.lst xs),.ref _,cf G1 s1.heap.objs.size (.lst ds),I1.inv.laid (t':=s1.toks) (fun b u e=>ar _ e) (aF _) ?_,m1.trans (.vX I1.ab hf rd),rfl,.ref _,q _ (I1.ab.free hf)⟩;exact⟨by rw [rd.length,bM]; exact z,us,0,r,aR _ rfl⟩
noncomputable def di(K:ag)(sp:lS):Sp:=fun vs H Q _=>∃ ds G Q2,aX K H vs ds/\jJ K H G/\sp ds G Q2 (fun _ _=>False)/\∀ d G' v H',Q2 d G'->Mv K H G H' G'->bF K H' v d->Q v H'
variable {k:Nat} {f:Addr} {fd:aE} {ps:List Str} {sp:lS} {x:Str} {p:Pos} {r:List D->Gp->DK->Prop} {id:String}
theorem D6(F:eR X.prog X.w X.K X.mg X.base fJ k f fd ps (di X.K sp))(hr:gX k X.A)(hg:Gl X x)(hm:X.mg x=some (.ref f))(hk:gy X.K (.ref f)=true)(hb:Binds X.K fd ps [])
  (ha:BC X (e :: es) t) (zJ:autoParam ((x == ("__debug__" : Str))=false) Ad._auto_1) (he:autoParam (bI (e :: es) X.env=(false,eval e X.env) :: bI es X.env) Ar._auto_1) (CO:autoParam ((kc pos (bI es X.env)).any (·.1)=false) Ar._auto_1) :
  fI X (.Call (.Name x p) (e :: es) [] pos) (fun E τ G Q=>bH (fun ds G1 Q1 _=>sp ds G1 Q1 fun _ _=>False) t E τ G Q):=by
 intro E pins s σ H τ G Q hE I h;refine gm (A3 I.inv hg hm ?_ zJ);refine FD (h₀:=X.base) I.inv.ok.mod.Md hk (xl ha pos hE I h fun vs H1 ds G1 us s1 I1 m1 r rd q=>⟨I1.inv.A7,?_⟩) he CO;refine eI (DJ F hr hb .nil HN I1.inv r (Q:=w7 X.K H1 G1 Q) ?_) fun _ _ z=>(ny.of z).trans m1;rw [dU];exact⟨ds,G1,Q,rd,I1.ab,q,fun d G' v H' q' m' J0=>⟨d,G',m',J0,q'⟩⟩
theorem cy (hc:lp X (.builtin id) r) (hg:Gl X x) (hm:X.mg x=none) (hv:cF x=some (.builtin id)) (ha:BC X (e :: es) t) (hn:autoParam (x≠"__name__") Ad._auto_1) (zJ:autoParam ((x == ("__debug__" : Str))=false) Ad._auto_1)
  (he:autoParam (bI (e :: es) X.env=(false,eval e X.env) :: bI es X.env) Ar._auto_1) (CO:autoParam ((kc pos (bI es X.env)).any (·.1)=false) Ar._auto_1):fI X (.Call (.Name x p) (e :: es) [] pos) (lR r t):=by
 intro E pins s σ H τ G Q hE I h;refine gm (qg I.inv hg hm hv ?_ hn zJ);exact pR (xl ha pos hE I h fun vs H1 ds G1 us s1 I1 m1 r1 je q1=>eI (hc pins s1 σ H1 G1 vs ds us Q I1.inv I1.ab r1 je q1) fun _ _ z=>z.trans m1) he CO
variable {st:Stmt} {Ph:List Stmt} {u v:gx}
theorem cX:qr X [] cZ:=fun _ _ _ σ H τ G _ _ I h=>rF ⟨σ,H,τ,G,I,.refl I.ab,h⟩
theorem aN(h1:BB X st u)(h2:qr X Ph v):qr X (st :: Ph) (cB u v):=by
 intro E pins s σ H τ G D hE I h;refine wpAny_execs_cons (eI (h1 E pins s σ H τ G { D with nx:=v E D } hE I h) fun f s1 q=>?_);cases f with
 | next =>
  obtain⟨gi,H',lr,G',I',m,q⟩:=q;exact eI (h2 E pins s1 gi H' lr G' D hE I' q) fun _ _ z=>z.trans m
 | ret v=>exact q
 | brk=>exact q
 | cont=>exact q
theorem aS(h1:BB X st u):qr X [st] u:=by
 intro E pins s σ H τ G D hE I h;refine wpAny_execs_cons (eI (h1 E pins s σ H τ G D hE I h) fun f s1 q=>?_);cases f with
 | next=>exact rF q
 | ret v=>exact q
 | brk=>exact q
 | cont=>exact q
theorem bC(he:fI X e te):BB X (.Return (some e) pos) (cm te):=by
 intro E pins s σ H τ G D hE I h;exact wpAny_Return_some (eI (he E pins s σ H τ G _ hE I h) (by rintro v s1 ⟨x,H1,d,G1,I1,m,r1,rd,q1⟩; exact⟨x,σ,H1,d,G1,I1,m,r1,rd,q1⟩))
theorem ff{sa sb:List Stmt}(hc:Fv X c tA)(ha:qr X sa u)(hb:qr X sb v):BB X (.If c sa sb pos) (fQ tA u v):=by
 intro E pins s σ H τ G D hE I h;refine wpAny_If (Gg hc hE I h fun d H1 G1 s1 I1 m1 q1=>?_);cases d with
 | true=>exact eI (ha E pins s1 σ H1 τ G1 D hE I1 (by simpa using q1)) fun _ _ z=>z.trans m1
 | false=>exact eI (hb E pins s1 σ H1 τ G1 D hE I1 (by simpa using q1)) fun _ _ z=>z.trans m1
noncomputable def CW(X:Cx)(target:Expr)(t:vw):Prop :=
 ∀ (E:jz) (pins:List (Addr×Obj)) (s:ak) (σ:L2.St) (H:Hp) (τ:fk) (G:Gp) (w:V) (d:D) (u:Value) (Q:fk->Gp->Prop),Lk X E->I2 X pins σ H τ G s->RelV w u->bF X.K H w d->t E d τ G Q ->
  wpAny (model X.prog X.w) X.A (De target X.env u) (fun _ s'=>∃ gi H' lr G',I2 X pins gi H' lr G' s'/\Mv X.K H G H' G'/\Q lr G') X.xe s
noncomputable def HA(X:Cx)(ts:List Expr)(t:wL):Prop :=
 ∀ (E:jz) (pins:List (Addr×Obj)) (s:ak) (σ:L2.St) (H:Hp) (τ:fk) (G:Gp) (ws:List V) (ds:List D) (us:List Value) (Q:fk->Gp->Prop),Lk X E->I2 X pins σ H τ G s->Vals ws us->aX X.K H ws ds->t E ds τ G Q ->
  wpAny (model X.prog X.w) X.A (assignInOrder ((tU ts X.env).map (·.2)) us) (fun _ s'=>∃ gi H' lr G',I2 X pins gi H' lr G' s'/\Mv X.K H G H' G'/\Q lr G') X.xe s
theorem D3{i:Nat}{x:Str}(hN:X.N.Nodup)(hi:X.N[i]?=some x)(hx:Loc X.env.scope x)(hf:autoParam (X.fn x=true\/X.env.scope.names.lookup x=some .local) Ao._auto_1):CW X (.Name x pos) (aM i):=by
 intro E pins s σ H τ G w d u Q hE I r rd h;exact wpAny_assign_Name (xm I.inv hN hi hx r (fun s' I'=>⟨_,H,_,G,⟨I',I.st.set i rd,I.ab⟩,.refl I.ab,h⟩) hf)
theorem xG:HA X [] zL:=by
 intro E pins s σ H τ G ws ds us Q hE I r rd h;unfold zL at h;split at h
 ·have e:=rd.zero;subst e;cases r;exact assignInOrder_nil ⟨σ,H,τ,G,I,.refl I.ab,h⟩
 ·exact h.elim
theorem km{t:vw}{u:wL}(h1:CW X e t)(h2:HA X es u)
  (hs:autoParam ((tU (e :: es) X.env).map (·.2)=De e X.env :: (tU es X.env).map (·.2)) Ar._auto_1):HA X (e :: es) (mK t u):=by
 intro E pins s σ H τ G ws ds us Q hE I r rd h;unfold mK at h;split at h
 ·cases rd with
  | cons je AL =>
   cases r with
   | cons r1 r2 =>
    rw [hs];refine assignInOrder_cons (eI (h1 E pins s σ H τ G _ _ _ _ hE I r1 je h) ?_);rintro _ s1 ⟨L0,H1,oF,G1,I1,m1,q1⟩;exact eI (h2 E pins s1 L0 H1 oF G1 _ _ _ Q hE I1 r2 (AL.mono (m1.kp I.ab)) q1) (by rintro _ _ ⟨MV,H2,uN,G2,kF,m2,q2⟩; exact⟨MV,H2,uN,G2,kF,m1.trans m2,q2⟩)
 ·exact h.elim
theorem AU{k:Nat}{t:wL}{n:Nat}(hc:X.calm=true)(h:HA X es t)(RO:∀ E ds τ G Q,t E ds τ G Q->ds.length=n)
  (hn:autoParam ((tU es X.env).length=n) Ar._auto_1) (Oe:autoParam ((tU es X.env).findIdx? (·.1)=none) Ar._auto_1):CW X (.Tuple es k pos) (Cg t):=by
 intro E pins s σ H τ G w d u Q hE I r rd hw;unfold Cg at hw;split at hw
 ·cases rd with
  | tup hq rs =>
   cases r;obtain⟨its,rv,ht,hz⟩:=I.inv.tuple (.of hq);refine assign_Tuple_tuple (I.inv.ok.hd hc) ht (by rw [hn,aC,<-rv.length,rs.length]; exact(RO _ _ _ _ _ hw).symm) Oe fun h' hx=>?_;have I1:Inv X pins σ H { s with heap:=h' }:=I.inv.kept (t':=s.toks) fun b o e=>hx b o (ba (aH e)) e;exact h E pins _ σ H τ G _ _ _ Q hE ⟨I1,I.st,I.ab⟩ (by simpa using rv) rs hw
 ·exact hw.elim
theorem x4:∀ E ds τ G Q,zL E ds τ G Q->ds.length=0:=by
 intro E ds τ G Q h;cases ds with
 | nil=>rfl
 | cons _ _=>exact h.elim
theorem Cf{t:vw}{u:wL}{n:Nat}(h:∀ E ds τ G Q,u E ds τ G Q->ds.length=n)(hm:∀ E d τ G (Q Q':fk->Gp->Prop),t E d τ G Q->(∀ lr G',Q lr G'->Q' lr G')->t E d τ G Q')(hx:∀ E d τ G,¬ t E d τ G fun _ _=>False) :
  ∀ E ds τ G Q,mK t u E ds τ G Q->ds.length=n+1:=by
 intro E ds τ G Q q;cases ds with
 | nil=>exact q.elim
 | cons d ds =>
  by_cases hl:ds.length=n
  ·rw [ao,hl]
  ·exact absurd (hm E d τ G _ (fun _ _=>False) q fun lr G' z=>hl (h _ _ _ _ _ z)) (hx E d τ G)
theorem vT{tg:Expr}{g:vw}(he:fI X e te)(hg:CW X tg g)(hs:autoParam (swapsWithSole [tg] e pos.line X.env=pure false) Ar._auto_1)(hw:autoParam (swappedStores [tg] e X.env=pure none) Ar._auto_1)
  (h1:autoParam ((tU [tg] X.env).map (·.2)=[De tg X.env]) Ar._auto_1):BB X (.Assign [tg] e pos) (bV te g):=by
 intro E pins s σ H τ G D hE I h;refine wpAny_Assign_stores (jZ he hE I h fun x H1 d G1 v s1 I1 m1 r1 je q1=>?_) hs hw;rw [h1];exact eI (hg E pins s1 σ H1 τ G1 x d v _ hE I1 r1 je q1) (by rintro _ s2 ⟨MV,H2,uN,G2,kF,m2,q2⟩; exact⟨MV,H2,uN,G2,kF,m1.trans m2,q2⟩)
theorem GB{i:Nat}{x:Str}{pos':Pos}(hN:X.N.Nodup)(hi:X.N[i]?=some x)(hx:Loc X.env.scope x)(he:fI X e te)(hs:autoParam (C4 e (some (.Name x pos')) pos.line X.env=pure false) Ar._auto_1)(hf:autoParam (X.fn x=true\/X.env.scope.names.lookup x=some .local) Ao._auto_1) :
  BB X (.Assign [.Name x pos'] e pos) (bV te (aM i)):=by
 intro E pins s σ H τ G D hE I h;refine wpAny_Assign_Name (jZ he hE I h fun y H1 d G1 v s1 I1 m1 r1 je q1=>?_) hs;exact xm I1.inv hN hi hx r1 (fun s2 kF=>⟨_,H1,_,G1,⟨kF,I1.st.set i je,I1.ab⟩,m1,q1⟩) hf
theorem iD(he:fI X e te)(hs:autoParam (C4 e none pos.line X.env=pure false) Ar._auto_1):BB X (.Expr e pos) (gw te):=by
 intro E pins s σ H τ G D hE I h;exact wpAny_Expr_any (jZ he hE I h fun y H1 d G1 v s1 I1 m1 r1 je q1=>⟨σ,H1,τ,G1,I1,m1,q1⟩) I.inv.quiet hs
end
end K2
end
section
namespace K2
open PySem PySem.Spec PyProof.Rows L2
noncomputable def Ig(K:ag)(J:It)(H':Hp)(ds:List D)(ok:Gp->Prop):Prop :=
 ∀ i H1 G1,Kp H' H1->jJ K H1 G1->ok G1->(∀ d,ds[i]?=some d->J.go i H1/\∀ x H2,J.Pc i H1 x H2->bF K H2 x d/\Mv K H1 G1 H2 G1)/\(ds.length<=i->J.stop i H1)
inductive Fw (X:Cx) (pins:List (Addr×Obj)) (σ:L2.St) (tg:Expr) (H:Hp) (G:Gp) (R:List D->(Gp->Prop)->Gp->Prop) (HS:Value) (s2:ak):Prop
 | mk (it:Addr) (fp:List Addr) (tn:Nat->Heap->Prop) (J:It) (H':Hp) (G':Gp) (ds:List D) (ok:Gp->Prop) (e:HS=.ref it) (i:Inv X pins σ H' s2) (m:Mv X.K H G H' G') (T:Turn X.prog X.w X.K tg J fp it tn) (t0:tn 0 s2.heap) (f:∀ b∈fp,qZ X pins H' b)
  (wk:Ig X.K J H' ds ok) (q:R ds ok G'):Fw X pins σ tg H G R HS s2
noncomputable def Ii(X:Cx)(tg iter:Expr)(wi:Ih):Prop :=
 ∀ (E:jz) (pins:List (Addr×Obj)) (s:ak) (σ:L2.St) (H:Hp) (τ:fk) (G:Gp) (R:List D->(Gp->Prop)->Gp->Prop),Lk X E->I2 X pins σ H τ G s->wi E τ G R ->
  wpAny (model X.prog X.w) X.A (eval iter X.env) (fun v s1=>wpAny (model X.prog X.w) X.A (C6 v) (Fw X pins σ tg H G R) X.xe s1) X.xe s
section
variable {X:Cx} {tg:Expr} {a b:Expr} {ta tb:e7} {pos p:Pos}
theorem A2{pins:List (Addr×Obj)}{σ:L2.St}{H H1:Hp}{G G1:Gp}{s1:ak}{l:Addr}{vs:List V}{ds:List D}{ok:Gp->Prop}{R:List D->(Gp->Prop)->Gp->Prop}(I1:Inv X pins σ H1 s1)(m:Mv X.K H G H1 G1)(hq:uF X.K H1 l vs)
  (hk:∀ H2 G2,Kp H1 H2->jJ X.K H2 G2->ok G2->∃ ws,uF X.K H2 l ws/\aX X.K H2 ws ds) (q:R ds ok G1):wpAny (model X.prog X.w) X.A (C6 (.ref l)) (Fw X pins σ tg H G R) X.xe s1:=by
 obtain⟨its,rv,pl,hz⟩:=I1.list hq;refine oy pl.isList ?_;refine⟨s1.heap.objs.size,[s1.heap.objs.size],_,_,H1,G1,ds,ok,rfl,I1.kept (t':=s1.toks) fun b o e=>ar _ e,m,BH l _,⟨_,aR _ rfl,rfl,rfl⟩,fun b hb=>?_,fun i H2 G2 k ab o=>?_,q⟩
 ·have e:b=s1.heap.objs.size:=by simpa using hb
  subst e;exact I1.EV (aF _) (I1.bY.fresh (aF _))
 ·obtain⟨ws,hw,rd⟩:=hk H2 G2 k ab o;refine⟨fun d hd=>?_,fun hl=>⟨ws,hw,by rw [rd.length]; exact hl⟩⟩;obtain⟨v,hv,r⟩:=rd.get hd;refine⟨⟨ws,v,hw,hv⟩,?_⟩;rintro x H3 ⟨e,y⟩;subst e;have:=y ws hw;rw [hv] at this;cases this;exact⟨r,.refl ab⟩
theorem Ir{pins:List (Addr×Obj)}{σ:L2.St}{H H1:Hp}{G G1:Gp}{s1:ak}{l:Addr}{vs:List V}{ds:List D}{R:List D->(Gp->Prop)->Gp->Prop}(I1:Inv X pins σ H1 s1)(m:Mv X.K H G H1 G1)(hq:tM X.K H1 l vs)(rd:aX X.K H1 vs ds)
  (q:R ds (fun _=>True) G1):wpAny (model X.prog X.w) X.A (C6 (.ref l)) (Fw X pins σ tg H G R) X.xe s1:=by
 obtain⟨its,rv,pl,hz⟩:=I1.tuple hq;refine w8 (show s1.heap.IsTuple l its.toArray from pl) ?_;refine⟨s1.heap.objs.size,[s1.heap.objs.size],_,_,H1,G1,ds,_,rfl,I1.kept (t':=s1.toks) fun b o e=>ar _ e,m,za l _,⟨_,aR _ rfl,rfl,rfl⟩,fun b hb=>?_,fun i H2 G2 k ab _=>?_,q⟩
 ·have e:b=s1.heap.objs.size:=by simpa using hb
  subst e;exact I1.EV (aF _) (I1.bY.fresh (aF _))
 ·have hw:=k.QA hq;have AL:=rd.mono k;refine⟨fun d hd=>?_,fun hl=>⟨vs,hw,by rw [rd.length]; exact hl⟩⟩;obtain⟨v,hv,r⟩:=AL.get hd;refine⟨⟨vs,v,hw,hv⟩,?_⟩;rintro x H3 ⟨e,y⟩;subst e;have:=y vs hw;rw [hv] at this;cases this;exact⟨r,.refl ab⟩
theorem cA(ha:fI X a ta):Ii X tg a (g8 ta):=by
 intro E pins s σ H τ G R hE I h;refine jZ ha hE I h fun x H1 d G1 v s1 I1 m1 r1 je q1=>?_;cases je with
 | tup hq rs=>cases r1; exact Ir I1.inv m1 (.of hq) rs q1
 | cO hq rs=>cases r1; exact A2 I1.inv m1 hq.sq (fun H2 G2 k ab _=>⟨_,(k.Ky hq).sq,rs.mono k⟩) q1
 | ref p =>
  cases r1;dsimp only at q1;split at q1
  ·rename_i ds e;obtain⟨vs,hv,rs⟩:=I1.ab.lst e;refine A2 I1.inv m1 (.of hv) (fun H2 G2 k ab o=>?_) q1;obtain⟨ws,hw,nX⟩:=ab.lst o;exact⟨ws,.of hw,nX⟩
  ·exact q1.elim
 | mh _ _=>exact q1.elim
 | mf _ _=>exact q1.elim
 | bX=>exact q1.elim
 | bl _=>exact q1.elim
 | int _=>exact q1.elim
 | str _=>exact q1.elim
 | exc _=>exact q1.elim
theorem IG{pins:List (Addr×Obj)}{σ:L2.St}{H H1:Hp}{G G1:Gp}{s:ak}{R:List D->(Gp->Prop)->Gp->Prop}{lo hi:Int}{t u v:Tok}{tk:Nat}(I:Inv X pins σ H1 s)(m:Mv X.K H G H1 G1)(h1:-(2 ^ 62)<=lo)(h2:lo < 2 ^ 62)(h3:-(2 ^ 62)<=hi)(h4:hi < 2 ^ 62)
  (q:R (fe lo (hi - lo).toNat) (fun _=>True) G1):wpAny (model X.prog X.w) X.A (C6 (.ref s.heap.objs.size)) (Fw X pins σ tg H G R) X.xe { s with heap:=s.heap.push { cls:=.type "range",data:=.fields #[.int lo t,.int hi u,.int 1 v] },toks:=tk }:=by
 refine eI (DU (tg:=tg) I h1 h2 h3 h4 (R:=fun J H'=>J=O9 lo (hi - lo).toNat/\H'=H1) ⟨rfl,rfl⟩) ?_;rintro HS s2 ⟨it,fp,tn,J,H',e,kF,T,st,fo,eJ,eH⟩;subst eJ; subst eH;refine⟨it,fp,tn,_,H',G1,_,_,e,kF,m,T,st,fo,fun i H2 G2 k ab _=>⟨fun d hd=>?_,fun hl=>?_⟩,q⟩
 ·unfold fe at hd;rw [bZ] at hd;cases Jv:(bK (hi - lo).toNat)[i]? with
  | none=>rw [Jv] at hd; cases hd
  | some j =>
   rw [Jv] at hd;obtain⟨ou,ej⟩:=List.getElem?_eq_some_iff.mp Jv;rw [cK] at ou;rw [lK] at ej;subst ej;cases hd;refine⟨ou,?_⟩;rintro x H3 ⟨e1,e2⟩;subst e1; subst e2;exact⟨.int _,.refl ab⟩
 ·unfold fe at hl;rw [ah,cK] at hl;exact hl
theorem ju (hg:Gl X "range") (hm:X.mg "range" = none) (ha:fI X a ta) (hs:autoParam (bI [a] X.env=[(false,eval a X.env)]) Ar._auto_1):Ii X tg (.Call (.Name "range" p) [a] [] pos) (sM ta):=by
 intro E pins s σ H τ G R hE I h;have hA:BC X [a] (aJ ta a7):=ax ha aL hs;refine Call_ (qg I.inv hg hm boot_range (q0 (xl hA pos hE I (R:=fun ds G1=>match ds with | [.int n]=>-(2 ^ 62)<=n/\n < 2 ^ 62/\R (fe 0 n.toNat) (fun _=>True) G1 | _=>False) ?_ fun vs H1 ds G1 us s1 I1 m1 r1 je q1=>?_) hs rfl))
 ·show ta E τ G _;have e:(fun (x:D) (G1:Gp)=>match [x] with | [.int n]=>-(2 ^ 62)<=n/\n < 2 ^ 62/\R (fe 0 n.toNat) (fun _=>True) G1 | _=>False)=fun x G1=>match x with | .int n=>-(2 ^ 62)<=n/\n < 2 ^ 62/\R (fe 0 n.toNat) (fun _=>True) G1 | _=>False:=by
   funext x G1; cases x <;> rfl
  exact e ▸ h
 ·split at q1
  ·rename_i n;obtain⟨w,rfl,Gk⟩:=je.one;cases Gk;obtain⟨u,rfl,ru⟩:=r1.one;obtain⟨t,rfl⟩:=ru;obtain⟨q1,q2,q⟩:=q1;exact call_range_1 (IG I1.inv m1 (by lia) (by lia) q1 q2 (by simpa using q))
  ·exact q1.elim
theorem dJ{iter:Expr}{body:List Stmt}{wi:Ih}{g:vw}{t:gx}(hp:PassesOwn (model X.prog X.w) X.A X.env X.xe)(hc:X.calm=true)(hi:Ii X tg iter wi)(hg:CW X tg g)(hb:qr X body t)
  (hs:autoParam (∀ x,jX iter X.env x=pure x) Ai._auto_1):BB X (.For tg iter body [] pos) (fi wi g t):=by
 intro E pins s σ H τ G D hE I h;refine wpAny_For (eI (hi E pins s σ H τ G _ hE I h) fun v s1 h1=>eI h1 fun HS s2 h2=>?_) hs;obtain⟨it,fp,tn,J,H2,G2,ds,ok,e,kF,m2,T,HE,f2,wk,q⟩:=h2;subst e;have Iz:∀ {H':Hp},(∀ b∈fp,H' b=none)->∀ b∈fp,qZ X pins H' b:=fun hn b hb=>⟨hn b hb,(f2 b hb).2⟩;refine codeAny_forLoop_any (fun n s'=>∃ i gi H' lr G',I2 X pins gi H' lr G' s'/\Mv X.K H G H' G'/\Kp H2 H'/\tn i s'.heap/\(∀ b∈fp,H' b=none)/\n=ds.length - i/\i<=ds.length/\nS g t ok (ds.drop i) E D lr G') ?_ ds.length
  ⟨0,σ,H2,τ,G2,I.mv kF m2,m2,.refl _,HE,fun b hb=>(f2 b hb).1,rfl,bJ _,q⟩
 rintro n s3 ⟨i,FZ,H3,Il,G3,I3,m3,k3,L5,P7,rfl,hle,w3⟩;by_cases ou:i < ds.length
 ·rw [cD ou] at w3;obtain⟨KQ,w3⟩:=w3;obtain⟨go,yl⟩:=(wk i H3 G3 k3 I3.ab KQ).1 ds[i] (by simp [ou]);refine gF hp (eI (T.item X rfl rfl rfl hc i pins s3 FZ H3 X.xe I3.inv (Iz P7) L5 go) ?_);rintro r s4 ⟨u,hr,h4⟩;subst hr;refine gF hp (eI h4 ?_);rintro _ s5 ⟨x,H5,I5,r5,y5,M5,Sh⟩;obtain⟨QQ,m5⟩:=yl x H5 y5;have Tt:=I5.pinned (Iz Sh) (T.obj _ _ M5);have J5:I2 X (pins++mz fp s5.heap) FZ H5 Il G3 s5:=⟨Tt,I3.st.mono (m5.kp I3.ab),m5.ab⟩;refine gF hp (eI (hg E _ s5 FZ H5 Il G3 x ds[i] u _ hE J5 r5 QQ w3) ?_);rintro _ s6 ⟨Qp,H6,Qo,G6,I6,m6,q6⟩;refine gF hp (eI (hb E _ s6 Qp H6 Qo G6 _ hE I6 q6) fun f s7 q7=>?_);have again:∀ {CL:L2.St} {H7:Hp} {CK:fk} {G7:Gp},I2 X (pins++mz fp s5.heap) CL H7 CK G7 s7->Mv X.K H6 G6 H7 G7->nS g t ok (ds.drop (i+1)) E D CK G7 ->
    ∃ m,m < ds.length - i/\∃ i gi H' lr G',I2 X pins gi H' lr G' s7/\Mv X.K H G H' G'/\Kp H2 H'/\tn i s7.heap/\(∀ b∈fp,H' b=none)/\m=ds.length - i/\i<=ds.length/\nS g t ok (ds.drop i) E D lr G':=fun {CL H7 CK G7} I7 m7 n7=>by
   have mm:=m5.trans (m6.trans m7);refine⟨ds.length - (i+1),by lia,i+1,CL,H7,CK,G7,⟨I7.inv.oG,I7.st,I7.ab⟩,m3.trans mm,k3.trans (mm.kp I3.ab),T.keep _ _ _ M5 fun b hb o e=>(I7.inv.pin (b,o) (bT _ (bT _ (kT hb e)))).1,fun b hb=>?_,rfl,ou,n7⟩;obtain⟨o,e,d⟩:=T.obj _ _ M5 b hb;exact(I7.inv.pin (b,o) (bT _ (bT _ (kT hb e)))).2.1
  cases f with
  | next=>obtain⟨CL,H7,CK,G7,I7,m7,n7⟩:=q7; exact again I7 m7 n7
  | cont=>obtain⟨CL,H7,CK,G7,I7,m7,n7⟩:=q7; exact again I7 m7 n7
  | brk=>obtain⟨CL,H7,CK,G7,I7,m7,q7⟩:=q7; exact⟨CL,H7,CK,G7,⟨I7.inv.oG,I7.st,I7.ab⟩,m3.trans (m5.trans (m6.trans m7)),q7⟩
  | ret v=>obtain⟨x7,CL,H7,d7,G7,I7,m7,r7,QO,q7⟩:=q7; exact⟨x7,CL,H7,d7,G7,I7.oG,m3.trans (m5.trans (m6.trans m7)),r7,QO,q7⟩
 ·have hn:ds.length<=i:=by lia
  rw [i5 hn] at w3;obtain⟨KQ,qn⟩:=w3;have stop:=(wk i H3 G3 k3 I3.ab KQ).2 hn;refine gF hp (eI (T.done X rfl rfl rfl hc i pins s3 FZ H3 X.xe I3.inv (Iz P7) L5 stop) ?_);rintro r s4 ⟨hr,I4⟩;subst hr;exact rF ⟨FZ,H3,Il,G3,⟨I4,I3.st,I3.ab⟩,m3,qn⟩
theorem BS{c:Expr}{body:List Stmt}{tc:tL}{t:gx}(hp:PassesOwn (model X.prog X.w) X.A X.env X.xe)(hc:Fv X c tc)(hb:qr X body t):BB X (.While c body [] pos) (E7 tc t):=by
 intro E pins s σ H τ G D hE I h;obtain⟨n0,w0⟩:=h;refine wpAny_While (codeAny_whileLoop (fun n s'=>∃ gi H' lr G',I2 X pins gi H' lr G' s'/\Mv X.K H G H' G'/\xi tc t n E D lr G') ?_ n0 ⟨σ,H,τ,G,I,.refl I.ab,w0⟩);rintro n s1 ⟨L0,H1,oF,G1,I1,m1,w1⟩;cases n with
 | zero=>exact w1.elim
 | succ n =>
  refine gF hp (Gg hc hE I1 w1 fun b H2 G2 s2 kF m2 q2=>?_);cases b with
  | true =>
   rw [if_pos rfl] at q2 ⊢;refine gF hp (eI (hb E pins s2 L0 H2 oF G2 _ hE kF q2) fun f s3 q3=>?_);cases f with
   | next=>obtain⟨FZ,H3,Il,G3,I3,m3,n3⟩:=q3; exact⟨n,ot _,FZ,H3,Il,G3,I3,m1.trans (m2.trans m3),n3⟩
   | cont=>obtain⟨FZ,H3,Il,G3,I3,m3,n3⟩:=q3; exact⟨n,ot _,FZ,H3,Il,G3,I3,m1.trans (m2.trans m3),n3⟩
   | brk=>exact q3.trans (m1.trans m2)
   | ret v=>exact q3.trans (m1.trans m2)
  | false =>
   rw [if_neg dn] at q2 ⊢;exact rF ⟨L0,H2,oF,G2,kF,m1.trans m2,q2⟩
end
end K2
end
section
namespace K2
open PySem PySem.Spec PyProof.Rows L2
theorem vL(n d:Nat)(o:Option Int):HT.fY n d o=fY n d o:=by cases o <;> rfl
theorem aX.cut{K:ag}{H:Hp}{vs:List V}{ds:List D}(r:aX K H vs ds)(lo hi:Option Int):aX K H (yn vs lo hi) (K2.cut ds lo hi):=by
 unfold yn K2.cut;rw [vL,vL,r.length];exact(r.drop _).take _
theorem aX.pG{K:ag}{H:Hp}{vs:List V}{ds:List D}{i:Int}{d:D}(r:aX K H vs ds)(h:K2.pG ds i=some d):∃ v,L2.pG vs i=some v/\bF K H v d:=by
 unfold K2.pG at h;cases e:K2.CN ds.length i with
 | none=>rw [e] at h; cases h
 | some j =>
  rw [e] at h;obtain⟨v,h1,h2⟩:=r.get (show ds[j]?=some d from h);refine⟨v,?_,h2⟩;show (L2.CN vs.length i).bind _=_;have e':L2.CN vs.length i=some j:=by rw [r.length]; exact e
  rw [e'];exact h1
section
variable {X:Cx} {a b c e:Expr} {ta tb tc te:e7} {pos p2:Pos}
theorem lj{pins:List (Addr×Obj)}{s:ak}{σ:L2.St}{H:Hp}{G:Gp}{x:V}{d:D}{v:Value}{zs:List D}(I:Inv X pins σ H s)(ab:jJ X.K H G)(rx:RelV x v)(rd:bF X.K H x d)(hi:mG d G=some zs) :
  ∃ l vs its,v=.ref l/\Vals vs its/\aX X.K H vs zs/\s.heap.IsList l its.toArray/\vs.length<=aY:=by
 cases rd with
 | cO hq rs =>
  cases hi;cases rx;obtain⟨its,rv,pl,hz⟩:=I.list hq.sq;exact⟨_,_,its,rfl,rv,rs,pl.isList,hz⟩
 | ref l =>
  unfold mG at hi;dsimp only at hi;cases hg:G l with
  | none=>rw [hg] at hi; cases hi
  | some gg =>
   rw [hg] at hi;cases gg with
   | lst ds =>
    cases hi;cases rx;obtain⟨vs,hv,rs⟩:=ab.lst hg;obtain⟨its,rv,pl,hz⟩:=I.list (.of hv);exact⟨_,_,its,rfl,rv,rs,pl.isList,hz⟩
   | iG _=>cases hi
 | _=>cases hi
theorem jg{pins:List (Addr×Obj)}{s:ak}{σ:L2.St}{H:Hp}(I:Inv X pins σ H s){m:Str->Option Value}(F0:Fr X.base X.env.locals s.heap m){h':Heap}(F:Fr X.base X.env.locals h' m)(N:News X.base X.env.locals h' (lh X.base s.heap X.env.locals)) :
  (∀ b o,b≠X.env.locals->s.heap.get? b=some o->h'.get? b=some o)/\∀ m',s.heap.Ns X.env.locals m'->h'.Ns X.env.locals m':=by
 refine⟨fun b o hb e=>?_,fun m' hm=>?_⟩
 ·cases q:X.base.get? b with
  | some u =>
   have:=I.bk b u q;rw [e] at this; cases this;exact F.keep b _ q
  | none=>exact(N (b,o) (jM hb q e)).1
 ·have e1:=hm.eq_nsMap;have e2:=F0.ns.eq_nsMap;rw [e1,<-e2]; exact F.ns
theorem ko{P:bf}{w:World}{H:Hp}{h:Heap}{a:Addr}:∀ {o:HO},eQ P w H h a o->∃ ob,h.get? a=some ob:=by
 intro o x;cases o with
 | lst _=>obtain⟨_,_,_,_,e⟩:=x; exact⟨_,e⟩
 | tup _=>obtain⟨_,_,_,ob,e,_⟩:=x; exact⟨ob,e⟩
 | dK _=>obtain⟨_,_,_,_,ob,_,_,e,_⟩:=x; exact⟨ob,e⟩
 | dT _=>obtain⟨_,_,_,_,ob,_,_,e,_⟩:=x; exact⟨ob,e⟩
 | set _ _=>obtain⟨ob,_,_,_,e,_⟩:=x; exact⟨ob,e⟩
 | ins _ _ _=>obtain⟨_,_,_,e,_⟩:=x; exact⟨_,e⟩
 | own _=>exact x
 | xd _=>obtain⟨_,⟨ob,_,_,e,_⟩,_⟩:=x; exact⟨ob,e⟩
 | met _ _=>exact⟨_,x⟩
 | L6 _ _=>obtain⟨_,_,_,e⟩:=x; exact⟨_,e⟩
 | jI _ _=>exact⟨_,x.1⟩
 | wY _=>obtain⟨_,e,_⟩:=x; exact⟨_,e⟩
 | ext _=>exact x.2.1
theorem rB{P:bf}{w:World}{H:Hp}{h:Heap}{a:Addr}(ok:ow P w H h)(e:h.get? a=none):H a=none:=by
 cases q:H a with
 | none=>rfl
 | some o =>
  obtain⟨ob,z⟩:=ko (ok a o q);rw [e] at z; cases z
theorem Inv.A4{pins:List (Addr×Obj)}{s:ak}{σ:L2.St}{H:Hp}(I:Inv X pins σ H s){h':Heap}{t':Nat}{a:Addr}{o:HO}(k:∀ b o,b≠X.env.locals->s.heap.get? b=some o->h'.get? b=some o)(ns:∀ m',s.heap.Ns X.env.locals m'->h'.Ns X.env.locals m')
  (hp:s.heap.get? a=none) (new:eQ X.prog X.w (upd H a o) h' a o):Inv X pins σ (upd H a o) { s with heap:=h',toks:=t' }:=by
 have hn:H a=none:=rB I.bY hp;have ne:∀ b u,H b=some u->b≠a:=fun b u e=>bQ e hn;have nL:∀ b u,H b=some u->b≠X.env.locals:=fun b u e=>bQ e I.free;have ht:∀ b u,s.heap.get? b=some u->b≠a:=fun b u e z=>by subst z; rw [hp] at e; cases e
 have Qy:∃ o',h'.get? X.env.locals=some o':=by
  obtain⟨m,hm,_⟩:=I.loc;obtain⟨o',_,_,ho,_⟩:=ns m hm;exact⟨o',ho⟩
 refine I.step (g':=s.gens) (d':=s.drawn) (ch:=[]) (fun b hb=>absurd hb (by simp)) (fun b o hL _ _ e _=>k b o hL e) (fun b o hL _ _ e _=>⟨o.slots,k b o hL e⟩) (fun b o _ e n=>by rw [bw (ht b o e)]; exact n)
  (fun b o _ e=>?_) (fun b xs e=>by rw [bw (ne _ _ e)]; exact e) (fun b o u e=>by rw [bw (ne _ _ e)]; exact e) (fun b ps e=>by rw [bw (ne _ _ e)]; exact e) ns (fun b u e=>?_) I.bare
 ·by_cases hb:b=X.env.locals
  ·rw [hb]; exact Qy
  ·exact⟨o,k b o hb e⟩
 ·by_cases hb:b=a
  ·subst hb; rw [cq] at e; cases e; exact new
  ·rw [bw hb] at e;refine(I.bY b u e).ke (fun c v hc r=>k c v ?_ r) (fun c z=>by rw [bw (ne _ _ z)]; exact z) (fun c xs z=>by rw [bw (ne _ _ z)]; exact z);rcases hc with rfl | hc
   ·exact nL _ _ e
   ·exact nL _ _ hc
theorem ee:ll X (g7 .Add) iR:=by
 intro pins s σ H G x y dx dy v u Q I ab rx ry dX dY q;have lists:qp dx dy G Q->wpAny (model X.prog X.w) X.A (g7 .Add v u) (ny X pins σ H G Q) X.xe s:=by
  intro q;unfold qp at q;split at q
  ·rename_i xs ys e1 e2;obtain⟨hz,q⟩:=q;obtain⟨l,vs,its,rfl,rv,rs,hl,_⟩:=lj I ab rx dX e1;obtain⟨b,ws,qh,rfl,HF,BR,hb,_⟩:=lj I ab ry dY e2;obtain⟨m,F0⟩:=I.fr;have hsz:its.length+qh.length<=aY:=by rw [<-rv.length,<-HF.length,rs.length,BR.length,bM]; exact hz
   refine PyProof.Rows.add_lists F0 si hl hb (fun h' F N=>?_) hsz;obtain⟨kk,ns⟩:=jg I F0 F fun p hp=>N p (aw _ hp);have hp:H s.heap.objs.size=none:=I.bY.fresh (aF _);refine⟨.ref s.heap.objs.size,upd H s.heap.objs.size (.lst (vs++ws)),.ref _,_,Inv.A4 (t':=s.toks) I kk ns (FX (aF _)) ?_,.vX ab hp (rs.append BR),rfl,.ref _,q _ (ab.free hp)⟩;exact⟨by rw [aU,rv.length,HF.length]; exact hsz,its++qh,0,rv.append HF,(N _ a0).1⟩
  ·exact q.elim
 cases dX with
 | int i =>
  cases dY with
  | int j=>exact eI (IX pins s σ H _ _ v u (w7 X.K H G Q) I rx ry ⟨i,j,rfl,rfl,_,_,.refl ab,.int _,q⟩) fun _ _ z=>.of z
  | _=>exact lists q
 | str i =>
  cases dY with
  | str j =>
   obtain⟨hz,q⟩:=q;exact eI (zo pins s σ H _ _ v u (w7 X.K H G Q) I rx ry ⟨i,j,rfl,rfl,by rw [bM]; exact hz,_,_,.refl ab,.str _,q⟩) fun _ _ z=>.of z
  | _=>exact lists q
 | tup h1 r1 =>
  cases dY with
  | tup h2 r2 =>
   obtain⟨hn,hz,q⟩:=q;refine eI (GK pins s σ H _ _ v u (w7 X.K H G Q) I rx ry ⟨_,_,_,_,rfl,rfl,.of h1,.of h2,?_,?_,fun e=>?_,fun e p hp=>?_⟩) fun _ _ z=>.of z
   ·rintro rfl; cases r1; exact hn rfl
   ·rw [r1.length,r2.length,bM]; exact hz
   ·subst e;cases r2;rw [dU] at q;exact⟨_,_,.refl ab,.tup h1 r1,q⟩
   ·exact⟨_,_,.Kb ab hp,.tup cq ((r1.append r2).mono (.new hp)),q⟩
  | _=>exact lists q
 | ref l=>exact lists (by rw [sf] at q; exact q)
 | cO _ _=>exact lists (by rw [se] at q; exact q)
 | _=>exact lists (by cases dY <;> exact q)
theorem GL:ll X (g7 .Sub) IK:=by
 intro pins s σ H G x y dx dy v u Q I ab rx ry dX dY q;cases dX with
 | int i =>
  cases dY with
  | int j=>exact eI (IT pins s σ H _ _ v u (w7 X.K H G Q) I rx ry ⟨i,j,rfl,rfl,_,_,.refl ab,.int _,q⟩) fun _ _ z=>.of z
  | _=>exact bg q
 | _=>exact bg q
theorem mZ:ll X (g7 .Mult) xC:=by
 intro pins s σ H G x y dx dy v u Q I ab rx ry dX dY q;cases dX with
 | int i =>
  cases dY with
  | int j=>exact eI (IU pins s σ H _ _ v u (w7 X.K H G Q) I rx ry ⟨i,j,rfl,rfl,q.1,_,_,.refl ab,.int _,q.2⟩) fun _ _ z=>.of z
  | _=>exact bg q
 | _=>exact bg q
theorem fx:ll X (g7 .Mod) nG:=by
 intro pins s σ H G x y dx dy v u Q I ab rx ry dX dY q;cases dX with
 | int i =>
  cases dY with
  | int j=>exact eI (IV pins s σ H _ _ v u (w7 X.K H G Q) I rx ry ⟨i,j,rfl,rfl,q.1,_,_,.refl ab,.int _,q.2⟩) fun _ _ z=>.of z
  | _=>exact bg q
 | _=>exact bg q
theorem o3:ll X (g7 .FloorDiv) uU:=by
 intro pins s σ H G x y dx dy v u Q I ab rx ry dX dY q;cases dX with
 | int i =>
  cases dY with
  | int j=>exact eI (GJ pins s σ H _ _ v u (w7 X.K H G Q) I rx ry ⟨i,j,rfl,rfl,⟨q.1,q.2.1⟩,_,_,.refl ab,.int _,q.2.2⟩) fun _ _ z=>.of z
  | _=>exact bg q
 | _=>exact bg q
theorem D9(hu:X.A.units < cLine):ll X (cG .Lt) L7:=by
 intro pins s σ H G x y dx dy v u Q I ab rx ry dX dY q;cases dX with
 | int i =>
  cases dY with
  | int j=>exact eI (KO pins s σ H _ _ v u (w7 X.K H G Q) I rx ry ⟨i,j,rfl,rfl,_,_,.refl ab,.bl _,q⟩) fun _ _ z=>.of z
  | _=>exact bg q
 | tup h1 r1 =>
  cases dY with
  | tup h2 r2 =>
   obtain⟨xs,ys,e1,e2,q⟩:=q;subst e1 e2;have z1:=r1.ints;have z2:=r2.ints;subst z1 z2;have el:∀ xs ys:List Int,HT.lexLt xs ys=K2.lexLt xs ys:=by
    intro xs;induction xs with
    | nil=>intro ys; cases ys <;> rfl
    | cons x xs ih=>intro ys; cases ys with
     | nil=>rfl
     | cons y ys=>unfold HT.lexLt K2.lexLt; rw [ih]
   exact eI (IW hu pins s σ H _ _ v u (w7 X.K H G Q) I rx ry ⟨_,_,xs,ys,rfl,rfl,.of h1,.of h2,_,_,.refl ab,.bl _,by rw [el]; exact q⟩) fun _ _ z=>.of z
  | _=>exact bg q
 | _=>exact bg q
mutual
noncomputable def pd:D->PyData
 | .bX=>.none
 | .bl b=>.bool b
 | .int i=>.int i
 | .str x=>.str x
 | .tup ds=>.tuple (iX ds)
 | .cO ds=>.list (iX ds)
 | .iC _=>.none
 | .exc _=>.none
 | .ref _=>.none
noncomputable def iX:List D->List PyData
 | []=>[]
 | d :: r=>pd d :: iX r
end
mutual
theorem oa:∀ (s t:D),nr s=true->nr t=true->lN (pd s) (pd t)=fy s t
 | .bX,t,_,ht=>by cases t <;> first | rfl | (exact bA (show false=true from ht))
 | .bl a,t,_,ht=>by cases t <;> first | rfl | (exact bA (show false=true from ht))
 | .int a,t,_,ht=>by cases t <;> first | rfl | (exact bA (show false=true from ht))
 | .str a,t,_,ht=>by cases t <;> first | rfl | (exact bA (show false=true from ht))
 | .tup a,t,hs,ht=>by
  cases t with
  | tup b=>exact wy a b hs ht
  | ref _=>exact bA (show false=true from ht)
  | exc _=>exact bA (show false=true from ht)
  | iC _=>exact bA (show false=true from ht)
  | _=>rfl
 | .cO a,t,hs,ht=>by
  cases t with
  | cO b=>exact wy a b hs ht
  | ref _=>exact bA (show false=true from ht)
  | exc _=>exact bA (show false=true from ht)
  | iC _=>exact bA (show false=true from ht)
  | _=>rfl
 | .ref _,_,hs,_=>bA (show false=true from hs)
 | .exc _,_,hs,_=>bA (show false=true from hs)
 | .iC _,_,hs,_=>bA (show false=true from hs)
theorem wy:∀ (s t:List D),lA s=true->lA t=true->PyData.eqvAll (iX s) (iX t)=iF s t
 | [],[],_,_=>rfl
 | [],_ :: _,_,_=>rfl
 | _ :: _,[],_,_=>rfl
 | a :: r,b :: t,hs,ht=>by
  have J8:nr a=true/\lA r=true:=(gC).mp hs;have J7:nr b=true/\lA t=true:=(gC).mp ht;show (lN (pd a) (pd b)&&PyData.eqvAll (iX r) (iX t))=(fy a b&&iF r t);rw [oa a b J8.1 J7.1,wy r t J8.2 J7.2]
end
mutual
theorem gR:∀ (s:D),nr s=true->(pd s).canLay0=true
 | .bX,_=>rfl
 | .bl a,_=>rfl
 | .int a,_=>rfl
 | .str a,h=>h
 | .tup a,h=>pj a h
 | .cO a,h=>pj a h
 | .exc _,_=>rfl
 | .ref _,_=>rfl
 | .iC _,_=>rfl
theorem pj:∀ (s:List D),lA s=true->PyData.canLayAll0 (iX s)=true
 | [],_=>rfl
 | a :: r,h=>by
  have h':nr a=true/\lA r=true:=(gC).mp h;show ((pd a).canLay0&&PyData.canLayAll0 (iX r))=true;rw [gR a h'.1,pj r h'.2]; rfl
end
theorem oh{G:Gp}{n:Nat}{d t:D}(h:Sn G n d t):(pd t).depth<=n:=by
 induction h with
 | bX=>exact bJ _
 | bl b=>exact bJ _
 | int i=>exact bJ _
 | str x h=>exact bJ _
 | zd=>exact oq (bJ _)
 | l8 _ _ Ez Ey =>
  exact oq (Nat.max_le.mpr ⟨Ez,oD Ey⟩)
 | DO=>exact oq (bJ _)
 | xA _ _ Ez Ey =>
  exact oq (Nat.max_le.mpr ⟨Ez,oD Ey⟩)
 | ref _ _ ih=>exact ih
theorem dq{pins:List (Addr×Obj)}{σ:L2.St}{H:Hp}{s:ak}{G:Gp}(I:Inv X pins σ H s)(ab:jJ X.K H G){n:Nat}{d t:D}(h:Sn G n d t) :
  (∀ v u,bF X.K H v d->RelV v u->∃ as,Reads s.heap u (pd t) as) /\
  (∀ ds ss,(d=.cO ds/\t=.cO ss)\/(d=.tup ds/\t=.tup ss)->∀ vs us,aX X.K H vs ds->Vals vs us->∃ as,eB s.heap us (iX ss) as):=by
 have HD:∀ {ds ss:List D},(∀ vs us,aX X.K H vs ds->Vals vs us->∃ as,eB s.heap us (iX ss) as)->∀ v u,bF X.K H v (.tup ds)->RelV v u->∃ as,Reads s.heap u (pd (.tup ss)) as:=by
  intro ds ss k v u r ru;cases r with
  | tup hq rs =>
   cases ru;obtain⟨its,rv,⟨o,ho,hc,n,hd⟩,hz⟩:=I.tuple (.of hq);obtain⟨as,ra⟩:=k _ its rs rv;exact⟨as,.tuple ho hc hd (by simpa using ra)⟩
 have HG:∀ {ds ss:List D},(∀ vs us,aX X.K H vs ds->Vals vs us->∃ as,eB s.heap us (iX ss) as)->∀ v u,bF X.K H v (.cO ds)->RelV v u->∃ as,Reads s.heap u (pd (.cO ss)) as:=by
  intro ds ss k v u r ru;cases r with
  | cO hq rs =>
   cases ru;obtain⟨its,rv,pl,hz⟩:=I.list hq.sq;obtain⟨o,ho,hc,n,hd⟩:=pl.isList;obtain⟨as,ra⟩:=k _ its rs rv;exact⟨_,.list ho hc hd (by simpa using ra)⟩
 induction h with
 | bX=>exact⟨fun v u r ru=>by cases r; cases ru; exact⟨_,.none⟩,fun ds ss e=>by rcases e with ⟨e,_⟩ | ⟨e,_⟩ <;> cases e⟩
 | bl b=>exact⟨fun v u r ru=>by cases r; cases ru; exact⟨_,.bool b⟩,fun ds ss e=>by rcases e with ⟨e,_⟩ | ⟨e,_⟩ <;> cases e⟩
 | int i=>exact⟨fun v u r ru=>by cases r; obtain⟨t,rfl⟩:=ru; exact⟨_,.int i t⟩,fun ds ss e=>by rcases e with ⟨e,_⟩ | ⟨e,_⟩ <;> cases e⟩
 | str x hx=>exact⟨fun v u r ru=>by cases r; obtain⟨t,rfl⟩:=ru; exact⟨_,.str x t⟩,fun ds ss e=>by rcases e with ⟨e,_⟩ | ⟨e,_⟩ <;> cases e⟩
 | zd =>
  have k:∀ vs us,aX X.K H vs []->Vals vs us->∃ as,eB s.heap us (iX []) as:=fun vs us r ru=>by
   have e:=r.zero;subst e;cases ru;exact⟨_,.nil⟩
  refine⟨HD k,fun ds ss e=>?_⟩;rcases e with ⟨e,_⟩ | ⟨e,e2⟩
  ·cases e
  ·cases e; cases e2; exact k
 | l8 h1 h2 Ez Ey =>
  have k2:=Ey.2 _ _ (.inr ⟨rfl,rfl⟩);have k:∀ vs us,aX X.K H vs (_ :: _)->Vals vs us->∃ as,eB s.heap us (iX (_ :: _)) as:=fun vs us r ru=>by
   cases r with
   | cons r1 r2 =>
    cases ru with
    | cons u1 u2 =>
     obtain⟨as,ra⟩:=Ez.1 _ _ r1 u1;obtain⟨bs,rb⟩:=k2 _ _ r2 u2;exact⟨_,.cons ra rb⟩
  refine⟨HD k,fun ds ss e=>?_⟩;rcases e with ⟨e,_⟩ | ⟨e,e2⟩
  ·cases e
  ·cases e; cases e2; exact k
 | DO =>
  have k:∀ vs us,aX X.K H vs []->Vals vs us->∃ as,eB s.heap us (iX []) as:=fun vs us r ru=>by
   have e:=r.zero;subst e;cases ru;exact⟨_,.nil⟩
  refine⟨HG k,fun ds ss e=>?_⟩;rcases e with ⟨e,e2⟩ | ⟨e,_⟩
  ·cases e; cases e2; exact k
  ·cases e
 | xA h1 h2 Ez Ey =>
  have k2:=Ey.2 _ _ (.inl ⟨rfl,rfl⟩);have k:∀ vs us,aX X.K H vs (_ :: _)->Vals vs us->∃ as,eB s.heap us (iX (_ :: _)) as:=fun vs us r ru=>by
   cases r with
   | cons r1 r2 =>
    cases ru with
    | cons u1 u2 =>
     obtain⟨as,ra⟩:=Ez.1 _ _ r1 u1;obtain⟨bs,rb⟩:=k2 _ _ r2 u2;exact⟨_,.cons ra rb⟩
  refine⟨HG k,fun ds ss e=>?_⟩;rcases e with ⟨e,e2⟩ | ⟨e,_⟩
  ·cases e; cases e2; exact k
  ·cases e
 | ref hg h1 ih =>
  refine⟨fun v u r ru=>?_,fun ds ss e=>by rcases e with ⟨e,_⟩ | ⟨e,_⟩ <;> cases e⟩;cases r;cases ru;obtain⟨vs,hv,rs⟩:=ab.lst hg;obtain⟨its,rv,pl,hz⟩:=I.list (.of hv);obtain⟨o,ho,hc,n,hd⟩:=pl.isList;obtain⟨as,ra⟩:=ih.2 _ _ (.inl ⟨rfl,rfl⟩) vs its rs rv;exact⟨_,.list ho hc hd (by simpa using ra)⟩
theorem Ea(hu:X.A.units+64 < cLine):ll X (cG .Eq) (KH false):=by
 intro pins s σ H G x y dx dy v u Q I ab rx ry dX dY q;obtain⟨a,b,sa,sb,q⟩:=q;obtain⟨as,ra⟩:=(dq I ab sa).1 x v dX rx;obtain⟨bs,rb⟩:=(dq I ab sb).1 y u dY ry;have d1:=oh sa;refine SeqAt.compareEq_reads ra rb (gR _ sa.nr) (gR _ sb.nr) (by unfold SN at d1; lia) ?_;rw [oa _ _ sa.nr sb.nr];exact⟨.bl _,H,.bl _,G,I,.refl ab,rfl,.bl _,q⟩
theorem D8(hu:X.A.units+64 < cLine):ll X (cG .NotEq) (KH true):=by
 intro pins s σ H G x y dx dy v u Q I ab rx ry dX dY q;obtain⟨a,b,sa,sb,q⟩:=q;obtain⟨as,ra⟩:=(dq I ab sa).1 x v dX rx;obtain⟨bs,rb⟩:=(dq I ab sb).1 y u dY ry;have d1:=oh sa;refine SeqAt.compareNe_reads ra rb (gR _ sa.nr) (gR _ sb.nr) (by unfold SN at d1; lia) ?_;rw [oa _ _ sa.nr sb.nr];exact⟨.bl _,H,.bl _,G,I,.refl ab,rfl,.bl _,q⟩
end
end K2
end
section
namespace K2
open PySem PySem.Spec PyProof.Rows L2
theorem pB(j k:Key):fy (cY j) (cY k)=decide (j=k):=by
 cases j with
 | inl a=>cases k with
  | inl b=>rw [Eo]; rfl
  | inr b=>exact(decide_eq_false (fun z=>nomatch z)).symm
 | inr a=>cases k with
  | inl b=>exact(decide_eq_false (fun z=>nomatch z)).symm
  | inr b=>rw [En]; exact(FF a b)
theorem vg:∀ (js ks:List Key),iF (js.map cY) (ks.map cY)=decide (js=ks)
 | [],[]=>(decide_eq_true rfl).symm
 | [],_ :: _=>(decide_eq_false (fun z=>nomatch z)).symm
 | _ :: _,[]=>(decide_eq_false (fun z=>nomatch z)).symm
 | j :: js,k :: ks=>by
  show (fy (cY j) (cY k)&&iF (js.map cY) (ks.map cY))=_;rw [pB,vg js ks,yi]
theorem pA(js ks:List Key):fy (.tup (js.map cY)) (.tup (ks.map cY))=decide (js=ks):=by
 exact vg js ks
section
variable {K:ag} {H:Hp}
theorem v7{d:D}(h:cC d=true):∃ k:Key,d=cY k:=by
 cases d with
 | int i=>exact⟨.inl i,rfl⟩
 | str x=>exact⟨.inr x,rfl⟩
 | _=>exact absurd h (by simp [cC])
theorem A5:∀ {ds:List D},ds.all cC=true->∃ ks:List Key,ds=ks.map cY
 | [],_=>⟨[],rfl⟩
 | d :: r,h=>by
  rw [tX,aA] at h;obtain⟨k,rfl⟩:=v7 h.1;obtain⟨ks,rfl⟩:=A5 h.2;exact⟨k :: ks,rfl⟩
theorem A6{d:D}(h:n5 d=true):∃ ks:List Key,d=.tup (ks.map cY):=by
 cases d with
 | tup ds=>obtain⟨ks,rfl⟩:=A5 (ds:=ds) h; exact⟨ks,rfl⟩
 | _=>exact absurd h (by simp [n5])
theorem vN{v:V}{k:Key}(r:bF K H v (cY k)):v=kV k:=by
 cases k with
 | inl i=>cases r; rfl
 | inr x=>cases r; rfl
theorem xx:∀ {vs:List V} {ks:List Key},aX K H vs (ks.map cY)->vs=ks.map kV
 | _,[],r=>r.zero
 | _,k :: ks,r=>by
  rw [az] at r;cases r with
  | cons r1 r2=>rw [vN r1,xx r2]; rfl
theorem xy{v:V}{ks:List Key}(r:bF K H v (.tup (ks.map cY))):∃ b,v=.ref b/\H b=some (.tup (ks.map kV)):=by
 cases r with
 | tup h rs=>have e:=xx rs; subst e; exact⟨_,rfl,h⟩
theorem jC.look{kv:List (Key×V)}{aQ:List (D×D)}(r:jC K H kv aQ)(k:Key):(∃ v d,i6 kv k=some v/\K2.look aQ (cY k)=some d/\bF K H v d)\/(i6 kv k=none/\K2.look aQ (cY k)=none):=by
 induction r using jC.ind with
 | nil=>exact .inr ⟨rfl,rfl⟩
 | @cons j v d r t rd rs ih =>
  by_cases e:j=k
  ·left;refine⟨v,d,l0 (p:=(j,v)) e,?_,rd⟩;unfold K2.look;rw [Di (by show fy (cY j) (cY k)=true; rw [pB]; exact decide_eq_true e)]; rfl
  ·have e1:i6 ((j,v) :: r) k=i6 r k:=l5 (p:=(j,v)) e;have e2:K2.look ((cY j,d) :: t) (cY k)=K2.look t (cY k):=by
    unfold K2.look;rw [Dj (by show ¬ fy (cY j) (cY k)=true; rw [pB]; simpa using e)]
   rw [e1,e2];exact ih
theorem lT.look{kv:List (List Key×V)}{aQ:List (D×D)}(r:lT K H kv aQ)(k:List Key):(∃ v d,i6 kv k=some v/\K2.look aQ (.tup (k.map cY))=some d/\bF K H v d)\/(i6 kv k=none/\K2.look aQ (.tup (k.map cY))=none):=by
 induction r using lT.ind with
 | nil=>exact .inr ⟨rfl,rfl⟩
 | @cons j v d r t rd rs ih =>
  by_cases e:j=k
  ·left;refine⟨v,d,l0 (p:=(j,v)) e,?_,rd⟩;unfold K2.look;rw [Di (by show fy (.tup (j.map cY)) (.tup (k.map cY))=true; rw [pA]; exact decide_eq_true e)]; rfl
  ·have e1:i6 ((j,v) :: r) k=i6 r k:=l5 (p:=(j,v)) e;have e2:K2.look ((.tup (j.map cY),d) :: t) (.tup (k.map cY))=K2.look t (.tup (k.map cY)):=by
    unfold K2.look;rw [Dj (by show ¬ fy (.tup (j.map cY)) (.tup (k.map cY))=true; rw [pA]; simpa using e)]
   rw [e1,e2];exact ih
theorem jC.any{kv:List (Key×V)}{aQ:List (D×D)}(r:jC K H kv aQ)(k:Key):(kv.any fun p=>decide (p.1=k))=aQ.any fun p=>fy p.1 (cY k):=by
 induction r using jC.ind with
 | nil=>rfl
 | @cons j v d r t rd rs ih=>simp only [j9]; rw [ih,pB]
theorem lT.any{kv:List (List Key×V)}{aQ:List (D×D)}(r:lT K H kv aQ)(k:List Key):(kv.any fun p=>decide (p.1=k))=aQ.any fun p=>fy p.1 (.tup (k.map cY)):=by
 induction r using lT.ind with
 | nil=>rfl
 | @cons j v d r t rd rs ih=>simp only [j9]; rw [ih,pA]
theorem jC.put{kv:List (Key×V)}{aQ:List (D×D)}(r:jC K H kv aQ)(k:Key){v:V}{d:D}(rd:bF K H v d):jC K H (putK kv k v) (K2.put aQ (cY k) d):=by
 unfold putK K2.put;rw [r.any k];by_cases h:(aQ.any fun p=>fy p.1 (cY k))=true
 ·rw [if_pos h,if_pos h];clear h;induction r using jC.ind with
  | nil=>exact .nil
  | @cons j w e r t re rs ih =>
   simp only [az];rw [pB];by_cases e:j=k
   ·simp only [e,if_true,decide_true]; exact .cons rd ih
   ·simp only [e,if_false,decide_false,aB]; exact .cons re ih
 ·rw [if_neg h,if_neg h];clear h;induction r using jC.ind with
  | nil=>exact .cons rd .nil
  | cons re rs ih=>exact .cons re ih
theorem lT.put{kv:List (List Key×V)}{aQ:List (D×D)}(r:lT K H kv aQ)(k:List Key){v:V}{d:D}(rd:bF K H v d):lT K H (putK kv k v) (K2.put aQ (.tup (k.map cY)) d):=by
 unfold putK K2.put;rw [r.any k];by_cases h:(aQ.any fun p=>fy p.1 (.tup (k.map cY)))=true
 ·rw [if_pos h,if_pos h];clear h;induction r using lT.ind with
  | nil=>exact .nil
  | @cons j w e r t re rs ih =>
   simp only [az];rw [pA];by_cases e:j=k
   ·simp only [e,if_true,decide_true]; exact .cons rd ih
   ·simp only [e,if_false,decide_false,aB]; exact .cons re ih
 ·rw [if_neg h,if_neg h];clear h;induction r using lT.ind with
  | nil=>exact .cons rd .nil
  | cons re rs ih=>exact .cons re ih
end
theorem Kp.putD{H:Hp}{p:Addr}{o o':HO}(hp:H p=some o)(h:(∃ k,o=.dK k)\/∃ k,o=.dT k):Kp H (upd H p o') :=
 ⟨fun a ys e=>by rw [bw (by rintro rfl; rw [hp] at e; rcases h with ⟨_,rfl⟩ | ⟨_,rfl⟩ <;> cases e)]; exact e,fun a ob u e=>by rw [bw (by rintro rfl; rw [hp] at e; rcases h with ⟨_,rfl⟩ | ⟨_,rfl⟩ <;> cases e)]; exact e⟩
section
variable {X:Cx} {pins:List (Addr×Obj)} {σ:L2.St} {H:Hp} {s:ak} {G:Gp} {a:Addr} {aQ:List (D×D)} {k:D} {y:V}
theorem toT(I:Inv X pins σ H s)(e:H a=some (.dK [])):Inv X pins σ (upd H a (.dT [])) s:=by
 obtain⟨z,hd,vs,rel,dd⟩:=ye I.bY e;have hv:vs=[]:=by cases rel; rfl
 subst hv;obtain⟨o,es,ep,ho,hx,x2,PS,hl,nd⟩:=dd;have he:es=#[]:=by
  cases hq:es.toList with
  | nil=>simpa using hq
  | cons _ _=>rw [hq] at hl; cases hl
 subst he;exact I.write (h':=s.heap) (t':=s.toks) (x:=a) (e:=a) (by rw [e]; exact hW) (.inl rfl) (fun b u _ q=>q) ⟨o,ho⟩ ⟨bJ _,hd,[],.nil,o,#[],ep,ho,hx,x2,rfl,cP⟩
theorem toK(I:Inv X pins σ H s)(e:H a=some (.dT [])):Inv X pins σ (upd H a (.dK [])) s:=by
 obtain⟨z,hd,xs,rel,o,es,ep,ho,hx,x2,hl,nd⟩:=I.bY a _ e;have hv:xs=[]:=by cases rel; rfl
 subst hv;have he:es=#[]:=by simpa using hl
 subst he;exact I.write (h':=s.heap) (t':=s.toks) (x:=a) (e:=a) (by rw [e]; exact hW) (.inl rfl) (fun b u _ q=>q) ⟨o,ho⟩ ⟨bJ _,hd,[],.nil,o,#[],ep,ho,hx,x2,(fun _ h=>by simp at h),.nil,cP⟩
theorem A0{o:HO}(ab:jJ X.K H G)(hg:G a=some (.iG aQ))(k:Kp H (upd H a o))(ho:FC X.K (upd H a o) a (.iG aQ)):Mv X.K H G (upd H a o) G:=by
 have m:=Mv.put ab hg k ho;have e:cf G a (.iG aQ)=G:=by
  funext b; unfold cf; split
  ·rename_i z; rw [z,hg]
  ·rfl
 rw [e] at m;exact m
theorem Bn(I:Inv X pins σ H s)(ab:jJ X.K H G)(hg:G a=some (.iG aQ))(hk:fh aQ k=true)(ry:bF X.K H y k) :
  ∃ H',Inv X pins σ H' s/\Mv X.K H G H' G/\((∃ (kv:List (Key×V)) (kk:Key),H' a=some (.dK kv)/\jC X.K H' kv aQ/\k=cY kk/\y=kV kk)\/∃ (kv:List (List Key×V)) (kk:List Key) (b:Addr),H' a=some (.dT kv)/\lT X.K H' kv aQ/\k=.tup (kk.map cY)/\y=.ref b/\H' b=some (.tup (kk.map kV))):=by
 unfold fh at hk;rw [pO,aA,aA] at hk;rcases hk with ⟨h1,h2⟩ | ⟨h1,h2⟩
 ·obtain⟨kk,rfl⟩:=v7 h1;have ey:=vN ry;subst ey;rcases ab a _ hg with ⟨kv,hv,rs⟩ | ⟨kv,hv,rs⟩
  ·exact⟨H,I,.refl ab,.inl ⟨kv,kk,hv,rs,rfl,rfl⟩⟩
  ·cases rs with
   | nil =>
    refine⟨_,toK I hv,A0 ab hg (.putD hv (.inr ⟨_,rfl⟩)) (.inl ⟨[],cq,.nil⟩),.inl ⟨[],kk,cq,.nil,rfl,rfl⟩⟩
   | cons _ _=>simp [cC] at h2
 ·obtain⟨kk,rfl⟩:=A6 h1;obtain⟨b,rfl,hb⟩:=xy ry;rcases ab a _ hg with ⟨kv,hv,rs⟩ | ⟨kv,hv,rs⟩
  ·cases rs with
   | nil =>
    have kp:Kp H (upd H a (.dT [])):=.putD hv (.inl ⟨_,rfl⟩);exact⟨_,toT I hv,A0 ab hg kp (.inr ⟨[],cq,.nil⟩),.inr ⟨[],kk,b,cq,.nil,rfl,rfl,kp.tup _ _ hb⟩⟩
   | @cons j _ _ _ _ _ _=>cases j <;> simp [cY,n5] at h2
  ·exact⟨H,I,.refl ab,.inr ⟨kv,kk,b,hv,rs,rfl,rfl,hb⟩⟩
theorem yf(I:Inv X pins σ H s)(ab:jJ X.K H G)(hg:G a=some (.iG aQ))(hk:fh aQ k=true)(ry:bF X.K H y k) :
  ∃ H' o,Inv X pins σ H' s/\Mv X.K H G H' G/\tR H' a y o/\o.isSome=(look aQ k).isSome/\∀ d,look aQ k=some d->∃ v,o=some v/\bF X.K H' v d:=by
 obtain⟨H',I',m,h⟩:=Bn I ab hg hk ry;rcases h with ⟨kv,kk,hv,rs,rfl,rfl⟩ | ⟨kv,kk,b,hv,rs,rfl,rfl,hb⟩
 ·refine⟨H',i6 kv kk,I',m,.k hv,?_,fun d hd=>?_⟩
  ·rcases rs.look kk with ⟨v,d,e1,e2,_⟩ | ⟨e1,e2⟩ <;> rw [e1,e2] <;> rfl
  ·rcases rs.look kk with ⟨v,d',e1,e2,r⟩ | ⟨e1,e2⟩
   ·rw [e2] at hd; cases hd; exact⟨v,e1,r⟩
   ·rw [e2] at hd; cases hd
 ·refine⟨H',i6 kv kk,I',m,.t hv hb,?_,fun d hd=>?_⟩
  ·rcases rs.look kk with ⟨v,d,e1,e2,_⟩ | ⟨e1,e2⟩ <;> rw [e1,e2] <;> rfl
  ·rcases rs.look kk with ⟨v,d',e1,e2,r⟩ | ⟨e1,e2⟩
   ·rw [e2] at hd; cases hd; exact⟨v,e1,r⟩
   ·rw [e2] at hd; cases hd
theorem vM{x:V}(I:Inv X pins σ H s)(rd:bF X.K H x (.iC aQ))(hk:fh aQ k=true)(ry:bF X.K H y k) :
  ∃ a o,x=.ref a/\(aQ=[]\/tR H a y o)/\o.isSome=(look aQ k).isSome/\∀ d,look aQ k=some d->∃ v,o=some v/\bF X.K H v d:=by
 unfold fh at hk;rw [pO,aA,aA] at hk;cases rd with
 | mh h rs =>
  rename_i a ob kv;rcases hk with ⟨h1,h2⟩ | ⟨h1,h2⟩
  ·obtain⟨kk,rfl⟩:=v7 h1;have ey:=vN ry;subst ey;refine⟨a,i6 kv kk,rfl,.inr (.inl ⟨kv,kk,.inr ⟨_,h⟩,rfl,rfl⟩),?_,fun d hd=>?_⟩
   ·rcases rs.look kk with ⟨v,d,e1,e2,_⟩ | ⟨e1,e2⟩ <;> rw [e1,e2] <;> rfl
   ·rcases rs.look kk with ⟨v,d',e1,e2,r⟩ | ⟨e1,e2⟩
    ·rw [e2] at hd; cases hd; exact⟨v,e1,r⟩
    ·rw [e2] at hd; cases hd
  ·cases rs with
   | nil=>exact⟨a,none,rfl,.inl rfl,rfl,fun d hd=>by cases hd⟩
   | cons _ _ =>
    rename_i kx _ _ _ _ _ _;rw [tX,aA] at h2;cases kx <;> exact absurd h2.1 (by simp [cY,n5])
 | mf h rs =>
  rename_i a ob kv;rcases hk with ⟨h1,h2⟩ | ⟨h1,h2⟩
  ·cases rs with
   | nil=>exact⟨a,none,rfl,.inl rfl,rfl,fun d hd=>by cases hd⟩
   | cons _ _ =>
    rw [tX,aA] at h2;exact absurd h2.1 (by simp [cC])
  ·obtain⟨kk,rfl⟩:=A6 h1;obtain⟨b,rfl,hb⟩:=xy ry;refine⟨a,i6 kv kk,rfl,.inr (.inr ⟨kv,kk,b,.inr ⟨_,h⟩,rfl,hb,rfl⟩),?_,fun d hd=>?_⟩
   ·rcases rs.look kk with ⟨v,d,e1,e2,_⟩ | ⟨e1,e2⟩ <;> rw [e1,e2] <;> rfl
   ·rcases rs.look kk with ⟨v,d',e1,e2,r⟩ | ⟨e1,e2⟩
    ·rw [e2] at hd; cases hd; exact⟨v,e1,r⟩
    ·rw [e2] at hd; cases hd
theorem E5{v:V}{d:D}(I:Inv X pins σ H s)(ab:jJ X.K H G)(hg:G a=some (.iG aQ))(hk:fh aQ k=true)(hz:aQ.length < SZ)(ry:bF X.K H y k)(rv:bF X.K H v d) :
  ∃ H' Qh,Inv X pins σ H' s/\CA H' a y v Qh/\Mv X.K H G Qh (cf G a (.iG (put aQ k d))):=by
 obtain⟨H',I',m,h⟩:=Bn I ab hg hk ry;have Pl:=rv.mono (m.kp ab);have sz:aY=16777216:=bM;rcases h with ⟨kv,kk,hv,rs,rfl,rfl⟩ | ⟨kv,kk,b,hv,rs,rfl,rfl,hb⟩
 ·have kp:Kp H' (upd H' a (.dK (putK kv kk v))):=.putD hv (.inl ⟨_,rfl⟩);exact⟨H',_,I',.k hv (by rw [rs.length,sz]; exact hz),m.trans (.put m.ab hg kp (.inl ⟨_,cq,(rs.put kk Pl).mono kp⟩))⟩
 ·have kp:Kp H' (upd H' a (.dT (putK kv kk v))):=.putD hv (.inr ⟨_,rfl⟩);exact⟨H',_,I',.t hv hb (by rw [rs.length,sz]; exact hz),m.trans (.put m.ab hg kp (.inr ⟨_,cq,(rs.put kk Pl).mono kp⟩))⟩
end
end K2
end
section
namespace K2
open PySem PySem.Spec PyProof.Rows L2
section
variable {X:Cx} {a b c e:Expr} {es:List Expr} {ta tb tc te:e7} {t:yK} {pos p p2 apos iS:Pos} {x:Str}
theorem jv{k:Bool}{j}:fI X (.Constant (.bool k) j pos) (dC (.bl k)):=uX KN fun _ _=>.bl k
theorem fg(hu:X.A.units+64 < cLine)(ha:fI X a ta)(hb:fI X b tb)(hs:Hz b):fI X (.Subscript a b pos) (bh nQ ta tb):=by
 intro E pins s σ H τ G Q hE I h;refine Subscript_ (Fq ha hb hE I h fun v u s2 x y dx dy H2 G2 J m rx ry dX dY q=>?_);have fin:∀ {rb:R2},O8 X rb->rb x y H2 (w7 X.K H2 G2 Q)->wpAny (model X.prog X.w) X.A (subscriptTail a b v u) (ny X pins σ H G Q) X.xe s2:=fun hr hq =>
  eI (hr a b pins s2 σ H2 x y v u _ J.inv rx ry hq (hs _ _)) fun _ _ z=>(ny.of z).trans m
 cases dX with
 | tup hq rs =>
  cases dY with
  | int i =>
   rw [jt] at q;split at q
   ·rename_i d hd;obtain⟨w,hw,nX⟩:=rs.pG hd;exact fin Jj ⟨_,_,i,w,rfl,rfl,.of hq,hw,d,G2,.refl J.ab,nX,q⟩
   ·exact q.elim
  | _=>exact bg q
 | cO hq rs =>
  cases dY with
  | int i =>
   rw [oS] at q;split at q
   ·rename_i d hd;obtain⟨w,hw,nX⟩:=rs.pG hd;exact fin A8 ⟨_,_,i,w,rfl,rfl,hq.sq,hw,d,G2,.refl J.ab,nX,q⟩
   ·exact q.elim
  | _=>exact bg q
 | mh h rs =>
  rw [vR] at q;obtain⟨hk,q⟩:=q;split at q
  ·rename_i d hd;obtain⟨a',o,ea,g,_,hv⟩:=vM J.inv (.mh h rs) hk dY;obtain⟨w,rfl,nX⟩:=hv d hd;cases ea;rcases g with rfl | g
   ·cases hd
   ·cases rx;exact tail_any (mQ J.inv g) PySem.F.slot_dict_getitem.lookup (qm (by lia) J.inv g ry fun w' s3 I4 rv=>⟨w,H2,d,G2,I4,m,rv,nX,q⟩) (hs _ _)
  ·exact q.elim
 | mf h rs =>
  rw [vR] at q;obtain⟨hk,q⟩:=q;split at q
  ·rename_i d hd;obtain⟨a',o,ea,g,_,hv⟩:=vM J.inv (.mf h rs) hk dY;obtain⟨w,rfl,nX⟩:=hv d hd;cases ea;rcases g with rfl | g
   ·cases hd
   ·cases rx;exact tail_any (mQ J.inv g) PySem.F.slot_dict_getitem.lookup (qm (by lia) J.inv g ry fun w' s3 I4 rv=>⟨w,H2,d,G2,I4,m,rv,nX,q⟩) (hs _ _)
  ·exact q.elim
 | ref l =>
  rw [Gv] at q;split at q
  ·rename_i ds hl;obtain⟨vs,hv,rs⟩:=J.ab.lst hl;cases dY with
   | int i =>
    dsimp only at q;split at q
    ·rename_i d hd;obtain⟨w,hw,nX⟩:=rs.pG hd;exact fin A8 ⟨_,_,i,w,rfl,rfl,.of hv,hw,d,G2,.refl J.ab,nX,q⟩
    ·exact q.elim
   | _=>exact bg q
  ·rename_i aQ hl;obtain⟨hk,q⟩:=q;split at q
   ·rename_i d hd;obtain⟨H3,o,I3,m3,g,_,hv⟩:=yf J.inv J.ab hl hk dY;obtain⟨w,rfl,nX⟩:=hv d hd;cases rx;exact tail_any (mQ I3 g) PySem.F.slot_dict_getitem.lookup (qm (by lia) I3 g ry fun w' s3 I4 rv=>⟨w,H3,d,G2,I4,m.trans m3,rv,nX,q⟩) (hs _ _)
   ·exact q.elim
  ·exact q.elim
 | _=>exact bg q
noncomputable def MG(X:Cx)(e:Option Expr)(t:LV):Prop :=
 ∀ (E:jz) (pins:List (Addr×Obj)) (s:ak) (σ:L2.St) (H:Hp) (τ:fk) (G:Gp) (Q:Option Int->Gp->Prop),Lk X E->I2 X pins σ H τ G s->t E τ G Q ->
  wpAny (model X.prog X.w) X.A (evalPart e X.env) (fun u s'=>∃ o H' G',Inv X pins σ H' s'/\Mv X.K H G H' G'/\IsPart u o/\Q o G') X.xe s
theorem fO:MG X none dB:=by
 intro E pins s σ H τ G Q hE I h;rw [evalPart_none];exact aq ⟨none,H,G,I.inv,.refl I.ab,.none,h⟩
theorem eM(h:fI X e te):MG X (some e) (jR te):=by
 intro E pins s σ H τ G Q hE I hw;rw [evalPart_some];refine jZ h hE I hw fun x H1 d G1 u s1 I1 m1 r1 je q1=>?_;cases je with
 | int i =>
  obtain⟨t,rfl⟩:=r1;exact⟨some i,H1,G1,I1.inv,m1,.int i t,q1⟩
 | _=>exact bg q1
theorem et{lo hi:Option Expr}{tl th:LV}(he:fI X a ta)(hl:MG X lo tl)(hu:MG X hi th):fI X (.Subscript a (.Slice lo hi none p2) pos) (vh ta tl th):=by
 intro E pins s σ H τ G Q hE I h;refine Subscript_ (jZ he hE I h fun x H1 d G1 v s1 I1 m1 r1 je q1=>?_);refine wpAny_Slice (eI (hl E pins s1 σ H1 τ G1 _ hE I1 q1) ?_);rintro vl s2 ⟨l,H2,G2,kF,m2,pl,q2⟩;refine eI (hu E pins s2 σ H2 τ G2 _ hE (I1.mv kF m2) q2) ?_;rintro vu s3 ⟨r,H3,G3,I3,m3,pu,q3⟩;rw [evalPart_none];refine aq ?_;have PC:=m2.trans m3;have mm:=m1.trans PC;have I4:Inv X pins σ H3 { s3 with heap:=s3.heap.push { cls:=.type "slice",data:=.fields #[vl,vu,.none] } }:=I3.kept (t':=s3.toks) fun b ob q=>ar _ q;have Ng:=je.mono (PC.kp I1.ab);have Ie:=m3.ab;have key:∀ {rb:V->Option Int->Option Int->Hp->VK->Prop},O5 X rb->rb x l r H3 (w7 X.K H3 G3 Q)->wpAny (model X.prog X.w) X.A (subscriptTail a (.Slice lo hi none p2) v (.ref s3.heap.objs.size)) (ny X pins σ H G Q) X.xe { s3 with heap:=s3.heap.push { cls:=.type "slice",data:=.fields #[vl,vu,.none] } }:=fun hr hq=>by
  obtain⟨T,id,hT,ht,hg⟩:=hr pins { s3 with heap:=s3.heap.push { cls:=.type "slice",data:=.fields #[vl,vu,.none] } } σ H3 x v vl vu l r s3.heap.objs.size _ I4 r1 (Heap.IsSliceOf.new ..) pl pu hq;exact eI (tail_any (ops:=[.ref s3.heap.objs.size,v]) ht hT hg (by with_unfolding_all rfl)) fun _ _ z=>(ny.of z).trans mm
 cases Ng with
 | tup hq rs =>
  obtain⟨hw,q⟩:=q3;refine key IB ⟨_,_,rfl,.of hq,?_,fun p hp=>⟨_,G3,.Kb Ie hp,.tup cq ((rs.cut l r).mono (.new hp)),q⟩⟩;rw [vL,vL,rs.length];exact hw
 | cO hq rs=>exact key AG ⟨_,_,rfl,hq.sq,fun p hp=>⟨_,_,.vX Ie hp (rs.cut l r),.ref _,q3 p (Ie.free hp)⟩⟩
 | ref g =>
  rw [vO] at q3;split at q3
  ·rename_i ds hg;obtain⟨vs,hv,rs⟩:=Ie.lst hg;exact key AG ⟨_,_,rfl,.of hv,fun p hp=>⟨_,_,.vX Ie hp (rs.cut l r),.ref _,q3 p (Ie.free hp)⟩⟩
  ·exact q3.elim
 | _=>exact bg q3
theorem GH(ss:List D)(s:D)(h1:lA ss=true)(h2:nr s=true):((iX ss).any fun y=>lN y (pd s))=ss.any (fy · s):=by
 induction ss with
 | nil=>rfl
 | cons d r ih =>
  have h':nr d=true/\lA r=true:=(gC).mp h1;show (lN (pd d) (pd s)||(iX r).any _)=_;rw [ih h'.2,oa d s h'.1 h2]; rfl
theorem Bo{G:Gp}{n:Nat}{ds ss:List D}(h:Sn G (n+1) (.cO ds) (.cO ss)):bq (iX ss)<=n:=by
 exact oD (oh h)
theorem v9(hu:X.A.units+64 < cLine)(neg:Bool){pins:List (Addr×Obj)}{s:ak}{σ:L2.St}{H:Hp}{G:Gp}{x y:V}{dx t:D}{ds ss:List D}{v u:Value}{Q:DK}(I:Inv X pins σ H s)(ab:jJ X.K H G)(rx:RelV x v)(dX:bF X.K H x dx)
  (hy:(∃ l vs its,u=.ref l/\Vals vs its/\aX X.K H vs ds/\(s.heap.IsList l its.toArray\/s.heap.IsTuple l its.toArray))) (s1:Sn G SN dx t) (s2:Sn G SN (.cO ds) (.cO ss))
  (q:Q (.bl (if neg then !ss.any (fy · t) else ss.any (fy · t))) G):wpAny (model X.prog X.w) X.A (cG (if neg then .NotIn else .In) v u) (ny X pins σ H G Q) X.xe s:=by
 obtain⟨l,vs,its,rfl,rv,rs,hl⟩:=hy;obtain⟨as,ra⟩:=(dq I ab s1).1 x v dX rx;obtain⟨bs,rb⟩:=(dq I ab s2).2 ds ss (.inl ⟨rfl,rfl⟩) vs its rs rv;have d2:=Bo (n:=7) s2;have n2:lA ss=true:=s2.nr;have sF:=pj _ n2;have e:=GH ss t n2 s1.nr;have rq:X.A.units+1+min (bq (iX ss)) (pd t).depth < cLine:=by lia
 have DT:eB s.heap its.toArray.toList (iX ss) bs:=by simpa using rb
 have fin:∀ k:Bool,k=(if neg then !ss.any (fy · t) else ss.any (fy · t))->ny X pins σ H G Q (.bool k) s:=fun k hk=>by subst hk; exact⟨.bl _,H,.bl _,G,I,.refl ab,rfl,.bl _,q⟩
 cases neg with
 | false =>
  rcases hl with hl | hl
  ·exact SeqAt.in_listAt _ hl (jE DT ra sF (gR _ s1.nr) rq) (by rw [lY DT sF,e]; exact fin _ rfl)
  ·exact SeqAt.in_tupleAt _ hl (jE DT ra sF (gR _ s1.nr) rq) (by rw [lY DT sF,e]; exact fin _ rfl)
 | true =>
  rcases hl with hl | hl
  ·exact SeqAt.notIn_listAt _ hl (jE DT ra sF (gR _ s1.nr) rq) (by rw [lY DT sF,e]; exact fin _ rfl)
  ·exact SeqAt.notIn_tupleAt _ hl (jE DT ra sF (gR _ s1.nr) rq) (by rw [lY DT sF,e]; exact fin _ rfl)
theorem Ew(hu:X.A.units+64 < cLine)(neg:Bool){pins:List (Addr×Obj)}{s:ak}{σ:L2.St}{H:Hp}{G:Gp}{x y:V}{dx:D}{aQ:List (D×D)}{v u:Value}{Q:DK}(I:Inv X pins σ H s)(ab:jJ X.K H G)(rx:RelV x v)(ry:RelV y u)(dY:bF X.K H y (.iC aQ))(dX:bF X.K H x dx)
  (q:yJ neg dx (.iC aQ) G Q):wpAny (model X.prog X.w) X.A (cG (if neg then .NotIn else .In) v u) (ny X pins σ H G Q) X.xe s:=by
 obtain⟨kI,hk,q⟩:=q;have go:∀ (a:Addr) (o:Option V),y=.ref a->tR H a x o->o.isSome=(look aQ dx).isSome->wpAny (model X.prog X.w) X.A (cG (if neg then .NotIn else .In) v u) (ny X pins σ H G Q) X.xe s:=by
  intro a o ea g ho;subst ea;cases ry;cases neg with
  | false=>exact LI (by lia) I g rx fun s3 I4=>⟨.bl _,H,.bl _,G,I4,.refl ab,rfl,.bl _,by rw [ho]; exact q⟩
  | true=>exact Br (by lia) I g rx fun s3 I4=>⟨.bl _,H,.bl _,G,I4,.refl ab,rfl,.bl _,by rw [ho]; exact q⟩
 obtain⟨a,o,ea,g,ho,_⟩:=vM I dY hk dX;rcases g with rfl | g
 ·exact absurd rfl kI
 ·exact go a o ea g ho
theorem AY(hu:X.A.units+64 < cLine)(neg:Bool):ll X (cG (if neg then .NotIn else .In)) (yJ neg):=by
 intro pins s σ H G x y dx dy v u Q I ab rx ry dX dY q;cases dY with
 | tup hq rs =>
  obtain⟨t,ss,s1,s2,q⟩:=q;cases ry;obtain⟨its,rv,pl,hz⟩:=I.tuple (.of hq);exact v9 hu neg (y:=x) I ab rx dX ⟨_,_,its,rfl,rv,rs,.inr pl⟩ s1 s2 q
 | cO hq rs =>
  obtain⟨t,ss,s1,s2,q⟩:=q;cases ry;obtain⟨its,rv,pl,hz⟩:=I.list hq.sq;exact v9 hu neg (y:=x) I ab rx dX ⟨_,_,its,rfl,rv,rs,.inl pl.isList⟩ s1 s2 q
 | mh h rs=>exact Ew hu neg I ab rx ry (.mh h rs) dX q
 | mf h rs=>exact Ew hu neg I ab rx ry (.mf h rs) dX q
 | ref l =>
  unfold yJ at q;dsimp only at q;split at q
  ·rename_i aQ hl;obtain⟨hk,q⟩:=q;obtain⟨H3,o,I3,m3,g,ho,_⟩:=yf I ab hl hk dX;cases ry;cases neg with
   | false=>exact LI (by lia) I3 g rx fun s3 I4=>⟨.bl _,H3,.bl _,G,I4,m3,rfl,.bl _,by rw [ho]; exact q⟩
   | true=>exact Br (by lia) I3 g rx fun s3 I4=>⟨.bl _,H3,.bl _,G,I4,m3,rfl,.bl _,by rw [ho]; exact q⟩
  ·rename_i ds hl;obtain⟨t,ss,s1,s2,q⟩:=q;cases ry;obtain⟨vs,hv,rs⟩:=ab.lst hl;obtain⟨its,rv,pl,hz⟩:=I.list (.of hv);exact v9 hu neg (y:=x) I ab rx dX ⟨_,_,its,rfl,rv,rs,.inl pl.isList⟩ s1 s2 q
  ·exact q.elim
 | _=>exact bg q
theorem IY(hu:X.A.units+64 < cLine):ll X (cG .In) (yJ false):=AY hu false
theorem qa(hu:X.A.units+64 < cLine):ll X (cG .NotIn) (yJ true):=AY hu true
end
end K2
end
section
namespace K2
open PySem PySem.Spec PyProof.Rows L2
section
variable {X:Cx} {a b c e o:Expr} {es:List Expr} {ta tb tc te to:e7} {t:yK} {pos p p2 apos iS:Pos} {x name:Str} {id T:String}
theorem dE:lp X (.builtin "len") jy:=by
 intro pins s σ H G xs ds us Q I ab rx rd q;unfold jy at q;split at q
 ·rename_i x;obtain⟨v,rfl,r⟩:=rd.one;have Ge:∀ (n:Nat),LX X.K v H n->Q (.int (n:Int)) G->wpAny (model X.prog X.w) X.A (call (.builtin "len") us) (ny X pins σ H G Q) X.xe s:=fun n hn hq =>
   eI (Ff pins s σ H [v] us (w7 X.K H G Q) I rx ⟨v,n,rfl,hn,_,_,.refl ab,.int _,hq⟩) fun _ _ z=>.of z
  have sz:aY=16777216:=bM;cases r with
  | tup hq rs=>exact Ge _ (.inr ⟨_,.of hq,by rw [rs.length]⟩) q
  | cO hq rs=>exact Ge _ (.inl ⟨_,hq.sq,by rw [rs.length]⟩) q
  | str y =>
   unfold lenOf at q;dsimp only at q;by_cases hz:y.length<=SZ
   ·rw [if_pos hz] at q; exact Ge _ ⟨by rw [sz]; exact hz,rfl⟩ q
   ·rw [if_neg hz] at q; exact q.elim
  | mh h rs =>
   rename_i l o kv aQ;obtain⟨u,rfl,ru⟩:=rx.one;cases ru;unfold lenOf at q;dsimp only at q;by_cases ha:(aQ.all fun p=>cC p.1)=true
   ·rw [if_pos ha] at q;exact Ia I (.inr ⟨_,h⟩) fun t s' I'=>⟨.int kv.length,H,_,G,I',.refl ab,⟨t,rfl⟩,.int _,by rw [rs.length]; exact q⟩
   ·rw [if_neg ha] at q; exact q.elim
  | mf h rs =>
   rename_i l o kv aQ;obtain⟨u,rfl,ru⟩:=rx.one;cases ru;unfold lenOf at q;dsimp only at q;by_cases ha:(aQ.all fun p=>cC p.1)=true
   ·rw [if_pos ha] at q;cases rs with
    | nil =>
     obtain⟨z,hS,xs,rel,ob,es,ep,ho,hx,x2,hl,nd⟩:=(I.bY l _ h).2;have N6:xs=[]:=by cases rel; rfl
     subst N6;have he:es=#[]:=by simpa using hl
     subst he;have dd:s.heap.DictOf (c7 X.prog X.w) l []:=⟨ob,#[],ep,ho,hx,x2,(fun _ h=>by simp at h),.nil,cP⟩;refine call_len_dict hS dd (by simp) ?_;exact⟨.int 0,H,_,G,I.tok _,.refl ab,⟨_,rfl⟩,.int _,q⟩
    | cons _ _=>simp [cC] at ha
   ·rw [if_neg ha] at q; exact q.elim
  | ref l =>
   unfold lenOf at q;dsimp only at q;cases hg:G l with
   | none=>rw [hg] at q; exact q.elim
   | some g =>
    rw [hg] at q;cases g with
    | lst ds =>
     obtain⟨vs,hv,rs⟩:=ab.lst hg;exact Ge _ (.inl ⟨_,.of hv,by rw [rs.length]⟩) q
    | iG aQ =>
     obtain⟨u,rfl,ru⟩:=rx.one;cases ru;dsimp only at q;by_cases ha:(aQ.all fun p=>cC p.1)=true
     ·rw [if_pos ha] at q;rcases ab l _ hg with ⟨kv,hv,rs⟩ | ⟨kv,hv,rs⟩
      ·exact Ia I (.inl hv) fun t s' I'=>⟨.int kv.length,H,_,G,I',.refl ab,⟨t,rfl⟩,.int _,by rw [rs.length]; exact q⟩
      ·cases rs with
       | nil =>
        obtain⟨z,hd,vs,rel,dd⟩:=ye (toK I hv).bY cq;have Rt:vs=[]:=by cases rel; rfl
        subst Rt;refine call_len_dict hd dd (by simp) ?_;exact⟨.int 0,H,_,G,I.tok _,.refl ab,⟨_,rfl⟩,.int _,q⟩
       | cons _ _=>simp [cC] at ha
     ·rw [if_neg ha] at q; exact q.elim
  | _=>exact bg q
 ·exact q.elim
theorem z0:lp X (.type "list") tH:=by
 intro pins s σ H G xs ds us Q I ab rx rd q;unfold tH at q;split at q
 ·rename_i x;obtain⟨v,rfl,r⟩:=rd.one;have MW:∀ (l:Addr) (ys:List V) (zs:List D),v=.ref l->(uF X.K H l ys\/tM X.K H l ys)->aX X.K H ys zs->ja G (.lst zs) Q->wpAny (model X.prog X.w) X.A (call (.type "list") us) (ny X pins σ H G Q) X.xe s:=fun l ys zs e h rs hq=>by
   subst e;exact eI (wH pins s σ H _ us (w7 X.K H G Q) I rx ⟨l,ys,rfl,h,fun p hp=>⟨_,_,.vX ab hp rs,.ref _,hq p (ab.free hp)⟩⟩) fun _ _ z=>.of z
  cases r with
  | tup hq rs=>exact MW _ _ _ rfl (.inr (.of hq)) rs q
  | cO hq rs=>exact MW _ _ _ rfl (.inl hq.sq) rs q
  | ref l =>
   unfold itemsOf at q;dsimp only at q;cases hg:G l with
   | none=>rw [hg] at q; exact q.elim
   | some g =>
    rw [hg] at q;cases g with
    | lst ds =>
     obtain⟨vs,hv,rs⟩:=ab.lst hg;exact MW _ _ _ rfl (.inl (.of hv)) rs q
    | iG aQ=>exact q.elim
  | _=>exact bg q
 ·exact q.elim
theorem zk {r:List D->Gp->DK->Prop} (hc:lp X (.type T) r) (hg:Gl X x) (hm:X.mg x=none) (hv:cF x=some (.type T)) (ha:BC X (e :: es) t) (hn:autoParam (x≠"__name__") Ad._auto_1) (zJ:autoParam ((x == ("__debug__" : Str))=false) Ad._auto_1)
  (he:autoParam (bI (e :: es) X.env=(false,eval e X.env) :: bI es X.env) Ar._auto_1) (CO:autoParam ((kc pos (bI es X.env)).any (·.1)=false) Ar._auto_1):fI X (.Call (.Name x p) (e :: es) [] pos) (lR r t):=by
 intro E pins s σ H τ G Q hE I h;refine gm (qg I.inv hg hm hv ?_ hn zJ);exact q0 (xl ha pos hE I h fun vs H1 ds G1 us s1 I1 m1 r1 je q1=>eI (hc pins s1 σ H1 G1 vs ds us Q I1.inv I1.ab r1 je q1) fun _ _ z=>z.trans m1) he CO
theorem Jg (K:ag):∀ C∈["int","bool","list","tuple","dict","str"],∀ T∈["NoneType","bool","int","str","tuple","list","dict"],PySem.W.kitOne K (.type T) (.type C)=some (T == C||(T == "bool" && C == "int")):=by
 intro C hC T hT;simp only [CF,List.not_mem_nil,or_false] at hC hT;rcases hC with rfl | rfl | rfl | rfl | rfl | rfl <;> rcases hT with rfl | rfl | rfl | rfl | rfl | rfl | rfl <;> kernel_rfl
theorem Er (C:String) (hC:C∈["int","bool","list","tuple","dict","str"]) {pins:List (Addr×Obj)} {s:ak} {σ:L2.St} {H:Hp} {G:Gp} {v:V} {d:D} {u:Value} {k:Bool} {Q:DK} (I:Inv X pins σ H s) (ab:jJ X.K H G) (ru:RelV v u) (r:bF X.K H v d)
  (hk:J4 C d G=some k) (q:Q (.bl k) G):wpAny (model X.prog X.w) X.A (call (.builtin "isinstance") [u,.type C]) (ny X pins σ H G Q) X.xe s:=by
 have fin:∀ tk,ny X pins σ H G Q (.bool k) { s with toks:=tk }:=fun tk=>⟨.bl k,H,.bl k,G,I.tok _,.refl ab,rfl,.bl k,q⟩;have hl:∀ T∈["NoneType","bool","int","str","tuple","list","dict"],k=(T == C||(T == "bool" && C == "int"))->PySem.W.kitOne X.K (.type T) (.type C)=some k:=fun T hT e=>by rw [Jg X.K C hC T hT,e]
 have tl:∀ {l:Addr} {o:Obj},s.heap.get? l=some o->o.cls=.type "list"->k=("list" == C||("list" == "bool" && C == "int"))->v=.ref l->wpAny (model X.prog X.w) X.A (call (.builtin "isinstance") [u,.type C]) (ny X pins σ H G Q) X.xe s:=fun ho hc e ev=>by
  subst ev;cases ru;exact fD PySem.W.kitx_list I.A7 ⟨_,ho,hc⟩ (hl "list" (by decide) e) (fun z=>nomatch z) fin
 have td:∀ {l:Addr} {o:Obj},s.heap.get? l=some o->o.cls=.type "dict"->k=("dict" == C||("dict" == "bool" && C == "int"))->v=.ref l->wpAny (model X.prog X.w) X.A (call (.builtin "isinstance") [u,.type C]) (ny X pins σ H G Q) X.xe s:=fun ho hc e ev=>by
  subst ev;cases ru;exact fD PySem.W.kitx_dict I.A7 ⟨_,ho,hc⟩ (hl "dict" (by decide) e) (fun z=>nomatch z) fin
 have j4:∀ P:String->Prop,(∀ C'∈["int","bool","list","tuple","dict","str"],P C')->P C:=fun P h=>h C hC;cases r with
 | bX =>
  cases ru;have e:k=("NoneType" == C||("NoneType" == "bool" && C == "int")):=by
   have:k=false:=(aW hk).symm;rw [this];exact j4 (fun C=>false=("NoneType" == C||("NoneType" == "bool" && C == "int"))) (by decide)
  exact fD PySem.W.kitx_none I.A7 hW (hl _ (by decide) e) (fun z=>nomatch z) fin
 | bl y =>
  cases ru;have e:k=("bool" == C||("bool" == "bool" && C == "int")):=by
   have:k=(C == "bool" || C == "int"):=(aW hk).symm;rw [this];exact j4 (fun C=>(C == "bool" || C == "int")=("bool" == C||("bool" == "bool" && C == "int"))) (by decide)
  exact fD PySem.W.kitx_bool I.A7 hW (hl _ (by decide) e) (fun z=>nomatch z) fin
 | int y =>
  obtain⟨t,rfl⟩:=ru;have e:k=("int" == C||("int" == "bool" && C == "int")):=by
   have:k=(C == "int"):=(aW hk).symm;rw [this];exact j4 (fun C=>(C == "int")=("int" == C||("int" == "bool" && C == "int"))) (by decide)
  exact fD PySem.W.kitx_int I.A7 hW (hl _ (by decide) e) (fun z=>nomatch z) fin
 | str y =>
  obtain⟨t,rfl⟩:=ru;have e:k=("str" == C||("str" == "bool" && C == "int")):=by
   have:k=(C == "str"):=(aW hk).symm;rw [this];exact j4 (fun C=>(C == "str")=("str" == C||("str" == "bool" && C == "int"))) (by decide)
  exact fD PySem.W.kitx_str I.A7 hW (hl _ (by decide) e) (fun z=>nomatch z) fin
 | tup hq rs =>
  cases ru;have e:k=("tuple" == C||("tuple" == "bool" && C == "int")):=by
   have:k=(C == "tuple"):=(aW hk).symm;rw [this];exact j4 (fun C=>(C == "tuple")=("tuple" == C||("tuple" == "bool" && C == "int"))) (by decide)
  obtain⟨its,rv,⟨o,h1,h2,_⟩,hz⟩:=I.tuple (.of hq);exact fD PySem.W.kitx_tuple I.A7 ⟨o,h1,h2⟩ (hl _ (by decide) e) (fun z=>nomatch z) fin
 | cO hq rs =>
  obtain⟨its,rv,pl,hz⟩:=I.list hq.sq;obtain⟨o,h1,h2,_⟩:=pl.isList;refine tl h1 h2 ?_ rfl;have:k=(C == "list"):=(aW hk).symm;rw [this];exact j4 (fun C=>(C == "list")=("list" == C||("list" == "bool" && C == "int"))) (by decide)
 | mh h rs =>
  have e:k=("dict" == C||("dict" == "bool" && C == "int")):=by
   have:k=(C == "dict"):=(aW hk).symm;rw [this];exact j4 (fun C=>(C == "dict")=("dict" == C||("dict" == "bool" && C == "int"))) (by decide)
  obtain⟨_,_,vs,_,ob,_,_,h1,h2,_⟩:=nT I.bY (.inr ⟨_,h⟩);exact td h1 h2.1 e rfl
 | mf h rs =>
  have e:k=("dict" == C||("dict" == "bool" && C == "int")):=by
   have:k=(C == "dict"):=(aW hk).symm;rw [this];exact j4 (fun C=>(C == "dict")=("dict" == C||("dict" == "bool" && C == "int"))) (by decide)
  obtain⟨_,_,ys,_,ob,_,_,h1,h2,_⟩:=sZ I.bY (.inr ⟨_,h⟩);exact td h1 h2.1 e rfl
 | exc h=>simp [J4] at hk
 | ref l =>
  unfold J4 at hk;dsimp only at hk;cases hg:G l with
  | none=>rw [hg] at hk; cases hk
  | some g =>
   rw [hg] at hk;cases g with
   | lst ds =>
    obtain⟨vs,hv,rs⟩:=ab.lst hg;obtain⟨its,rv,pl,hz⟩:=I.list (.of hv);obtain⟨o,h1,h2,_⟩:=pl.isList;refine tl h1 h2 ?_ rfl;have:k=(C == "list"):=(aW hk).symm;rw [this];exact j4 (fun C=>(C == "list")=("list" == C||("list" == "bool" && C == "int"))) (by decide)
   | iG aQ =>
    have e:k=("dict" == C||("dict" == "bool" && C == "int")):=by
     have:k=(C == "dict"):=(aW hk).symm;rw [this];exact j4 (fun C=>(C == "dict")=("dict" == C||("dict" == "bool" && C == "int"))) (by decide)
    rcases ab l _ hg with ⟨kv,hv,rs⟩ | ⟨kv,hv,rs⟩
    ·obtain⟨_,_,vs,_,ob,_,_,h1,h2,_⟩:=ye I.bY hv;exact td h1 h2.1 e rfl
    ·obtain⟨_,_,ys,_,ob,_,_,h1,h2,_⟩:=H0 I.bY hv;exact td h1 h2.1 e rfl
theorem kQ (C:String) (hC:C∈["int","bool","list","tuple","dict","str"]) {y:Str} {py:Pos} (hg:Gl X "isinstance") (hm:X.mg "isinstance" = none) (RQ:Gl X y) (RE:X.mg y=none) (Ru:cF y=some (.type C)) (ha:fI X a ta) (hn:autoParam (y≠"__name__") Ad._auto_1) (zJ:autoParam ((y == ("__debug__" : Str))=false) Ad._auto_1)
  (he:autoParam (bI [a,.Name y py] X.env=(false,eval a X.env) :: bI [.Name y py] X.env) Ar._auto_1) (CO:autoParam ((kc pos (bI [Expr.Name y py] X.env)).any (·.1)=false) Ar._auto_1) (RT:autoParam (bI [.Name y py] X.env=[(false,eval (.Name y py) X.env)]) Ar._auto_1) :
  fI X (.Call (.Name "isinstance" p) [a,.Name y py] [] pos) (wF C ta):=by
 intro E pins s σ H τ G Q hE I h;refine gm (qg I.inv hg hm PyProof.Rows.boot_isinstance ?_);refine pR ?_ he CO;rw [he];show wpAny _ _ (spliced ((false,eval a X.env) :: kc pos (bI [.Name y py] X.env))) _ _ s;refine rN (jZ ha hE I h fun v H1 d G1 u s1 I1 m1 r1 je q1=>?_);rw [RT];show wpAny _ _ (spliced [(false,eval (.Name y py) X.env)]) _ _ s1;refine rN (qg I1.inv RQ RE Ru (Calls.spliced_nil ?_) hn zJ)
 try dsimp only at q1
 split at q1
 ·rename_i k hk;exact eI (Er C hC I1.inv I1.ab r1 je hk q1) fun _ _ z=>z.trans m1
 ·exact q1.elim
end
end K2
end
section
namespace K2
open PySem PySem.Spec PyProof.Rows L2
section
variable {X:Cx} {a b c e o:Expr} {es:List Expr} {ta tb tc te to:e7} {t:yK} {pos p p2 apos iS:Pos} {x name:Str} {id T:String}
noncomputable def Fy(X:Cx)(id:String)(r:D->List D->Gp->DK->Prop):Prop :=
 ∀ (pins:List (Addr×Obj)) (s:ak) (σ:L2.St) (H:Hp) (G:Gp) (x:V) (d:D) (xs:List V) (ds:List D) (v:Value) (us:List Value) (Q:DK),Inv X pins σ H s->jJ X.K H G->RelV x v->bF X.K H x d->Vals xs us->aX X.K H xs ds->r d ds G Q ->
  wpAny (model X.prog X.w) X.A (call (.builtin id) (v :: us)) (ny X pins σ H G Q) X.xe s
noncomputable def JR(X:Cx)(T:String)(ty:D->Gp->Prop):Prop:=∀ (pins:List (Addr×Obj)) (s:ak) (σ:L2.St) (H:Hp) (G:Gp) (x:V) (d:D) (v:Value),Inv X pins σ H s->jJ X.K H G->RelV x v->bF X.K H x d->ty d G ->
  s.TypeIs v T/\∀ a,v=.ref a->∃ ob,s.heap.get? a=some ob/\ob.dict=none
theorem iA:JR X "list" wX:=by
 intro pins s σ H G x d v I ab r rd h;cases rd with
 | cO hq rs=>exact vG I r (.inl ⟨rfl,_,hq.sq⟩)
 | ref l =>
  unfold wX at h;dsimp only at h;split at h
  ·rename_i ds hg;obtain⟨vs,hv,rs⟩:=ab.lst hg;exact vG I r (.inl ⟨rfl,vs,.of hv⟩)
  ·exact h.elim
 | _=>exact bg h
theorem Dv:JR X "dict" MX:=by
 intro pins s σ H G x d v I ab r rd h;cases rd with
 | mh q rs =>
  cases r;obtain⟨t1,t2,_⟩:=Es I (.inl ⟨_,.inr ⟨_,q⟩⟩);exact⟨t1,t2⟩
 | mf q rs =>
  cases r;obtain⟨t1,t2,_⟩:=Es I (.inr ⟨_,.inr ⟨_,q⟩⟩);exact⟨t1,t2⟩
 | ref l =>
  unfold MX at h;dsimp only at h;split at h
  ·rename_i aQ hg;rcases ab l _ hg with ⟨kv,hv,rs⟩ | ⟨kv,hv,rs⟩
   ·exact vG I r (.inr (.inr (.inl ⟨rfl,.inl ⟨kv,hv⟩⟩)))
   ·exact vG I r (.inr (.inr (.inl ⟨rfl,.inr ⟨kv,hv⟩⟩)))
  ·exact h.elim
 | _=>exact bg h
theorem mC {ty:D->Gp->Prop} {r:D->List D->Gp->DK->Prop} (pa:PlainAttrs T) (slot:Slot T name id) (Rv:typeOf (.builtin id)=pure (.type "method_descriptor")) (ht:JR X T ty) (hm:Fy X id r) (ho:fI X o to) (ha:BC X (e :: es) t)
  (EL:autoParam (xf o name X.env (eval o X.env)=eval o X.env) Ar._auto_1)
  (Oy:autoParam (((kc iS (bI (e :: es) X.env)).all (fun x=>!x.1)&&(backToKw iS (keywordEach [] X.env)).all (fun x=>x.1.isSome)
   && decide ((e :: es).length+([]:List Dk).length+(if ([]:List Dk).isEmpty then 0 else 1) < 30))=true) Ar._auto_1)
  (EH:autoParam ((apos.endLine == iS.line)=true) Ar._auto_1) (hs:autoParam (bI (e :: es) X.env=(false,eval e X.env) :: bI es X.env) Ar._auto_1) (Jq:autoParam ((kc iS (bI es X.env)).any (·.1)=false) Ar._auto_1) :
  fI X (.Call (.Attribute o name apos) (e :: es) [] iS) (w6 ty r to t):=by
 intro E pins s σ H τ G Q hE I h;refine wpAny_Call_method_late EL Oy EH rfl (jZ ho hE I h ?_);rintro x H1 d G1 v s1 I1 m1 r1 je ⟨hy,q1⟩;obtain⟨h1,h2⟩:=ht pins s1 σ H1 G1 x d v I1.inv I1.ab r1 je hy;refine⟨T,id,pa,slot,Rv,h1,h2,?_⟩;have hA:=ha iS E pins s1 σ H1 τ G1 _ hE I1 q1;rw [hs] at hA ⊢;refine CI (by show (false||(kc iS (bI es X.env)).any (·.1))=false; rw [Jq] <;> rfl) (Calls.evalArgs_plain ?_);exact eI hA (by rintro us s2 ⟨vs,H2,ds,G2,kF,m2,r2,AL,q2⟩; exact eI (hm pins s2 σ H2 G2 x d vs ds v us Q kF m2.ab r1 (je.mono (m2.kp I1.ab)) r2 AL q2) fun _ _ z=>z.trans (m1.trans m2))
theorem nY:Fy X "list.append" ng:=by
 intro pins s σ H G x d xs ds v us Q I ab rx rd ID rY q;unfold ng at q;split at q
 ·rename_i l d';cases rd;obtain⟨w,rfl,nX⟩:=rY.one;split at q
  ·rename_i zs hg;obtain⟨hz,q⟩:=q;obtain⟨vs,hv,rs⟩:=ab.lst hg;exact eI (uZ pins s σ H _ _ v us (w7 X.K H G Q) I rx ID ⟨l,vs,w,rfl,rfl,hv,by rw [rs.length,bM]; exact hz,_,_,.putL ab hg hv (rs.append (.cons nX .nil)),.bX,q⟩) fun _ _ z=>.of z
  ·exact q.elim
 ·exact q.elim
theorem zS(l:Addr)(xs:Array Value)(n:Nat)(b:Addr)(ys:Array Value)(n2:Nat)(dd:Option Addr)(sl:Array (Option Value))(HU:¬(!xs.isEmpty&&gh (xs.size+ys.size))=true)(hx:xs.size<=aY)(Rq:xs.size+ys.size<=aY+1) :
  Meets (Builtin.«list.extend» ⟨[.ref l,.ref b],[]⟩) (fun _ R s=>s.heap.get? l=some { cls:=.type "list",dict:=none,data:=.seq xs n,slots:=#[] }/\s.heap.get? b=some { cls:=.type "list",dict:=dd,data:=.seq ys n2,slots:=sl }/\R (.ok (.ret cH)) { s with heap:=s.heap.update l (da fun x=>x++ys),toks:=s.toks }) :=
 .of_wp fun prog w A R s h=>by
  obtain⟨hp,g,d,tk,os⟩:=s;obtain⟨h1,h2,h3⟩:=h;have e1:=AutoSeq1.idx_int;have e2:=lq;have e3:=y0;have e4:=AutoSeq1.sub_tuple_list;have e5:=AutoSeq1.sub_list_tuple;have Rp:(xs++ys).size<=aY+1:=by rw [Array.size_append]; exact Rq
  wp_walk using (gE h1 rfl (hz:=hx) (_hz':=Rp)),bo h1,bo h2
  exact⟨_,rfl,h3⟩
theorem so:Fy X "list.extend" o6:=by
 intro pins s σ H G x d xs ds v us Q I ab rx rd ID rY q;unfold o6 at q;split at q
 ·rename_i l y;cases rd;obtain⟨w,rfl,nX⟩:=rY.one;obtain⟨u,rfl,ru⟩:=ID.one;split at q
  ·rename_i zs ys hg RR;obtain⟨hz,q⟩:=q;obtain⟨vs,hv,rs⟩:=ab.lst hg;obtain⟨b,ws,qh,rfl,HF,BR,hb,_⟩:=lj I ab ru nX RR;cases rx;obtain⟨z,its,n,r,hl,e⟩:=I.Je hv;obtain⟨⟨cl,dd,dt,sl⟩,ho,wd,n2,PW⟩:=hb;simp only at wd PW;subst wd PW;have h1:=HF.length;have h2:=BR.length;have h3:=rs.length;have h4:=r.length;have h5:aY=16777216:=bM;have h6:SZ=16777216:=rfl;have hsz:its.toArray.size+qh.toArray.size<=aY:=by rw [aC,aC]; lia
   have HU:¬ (!its.toArray.isEmpty&&gh (its.toArray.size+qh.toArray.size))=true:=by
    rw [Ec hsz,Aw];exact dn
   refine tT F.slot_list_extend ⟨_,e,rfl⟩ F.entry_list_extend (F.args_list_extend_2 _ _) (zS l its.toArray n b qh.toArray n2 dd sl HU (by rw [aC]; lia) (by lia)) ⟨e,ho,?_⟩;refine⟨.bX,_,.bX,_,I.Jf (its':=its++qh) hv e (by simp) (r.append HF) ?_,.putL ab hg hv (rs.append BR),rfl,.bX,q⟩;rw [aU];lia
  ·exact q.elim
 ·exact q.elim
theorem Jk{its:List Value}{u:Value}{k:Nat}(hk:k<=its.length):(its.toArray.extract 0 k).push u++its.toArray.extract k=(its.take k++u :: its.drop k).toArray:=by
 simp [List.extract_eq_take_drop];rw [Dg (by rw [cU]; lia)]
theorem sk:Fy X "list.insert" o4:=by
 intro pins s σ H G x d xs ds v us Q I ab rx rd ID rY q;unfold o4 at q;split at q
 ·rename_i l i d';cases rd;obtain⟨w,w2,rfl,Gk,M8⟩:=rY.two;cases Gk;split at q
  ·rename_i zs hg;obtain⟨h0,h1,hz,q⟩:=q;obtain⟨vs,hv,rs⟩:=ab.lst hg;obtain⟨u1,u2,rfl,⟨t,rfl⟩,Nb⟩:=vals2 ID;cases rx;obtain⟨z,its,n,r,hl,e⟩:=I.Je hv;have sz:aY=16777216:=bM;have hlen:its.length=zs.length:=by rw [<-hl,rs.length]
   have hs:SZ=16777216:=rfl;have Ox:¬ (!Builtin.List.listFitsIndex i)=true:=by
    rw [fitsIndex_both (by lia) (by lia)];exact dn
   refine tT F.slot_list_insert ⟨_,e,rfl⟩ F.entry_list_insert (F.args_list_insert_3 _ _ _)
    (AutoSeq1.list_insert_list_int_val_1 l its.toArray n i t u2 Ox (by rw [aC]; lia)) ⟨e,?_⟩
   have hi:i.toNat<=its.length:=by lia
   refine⟨.bX,_,.bX,_,I.Jf (its':=its.take i.toNat++u2 :: its.drop i.toNat) (ys:=vs.take i.toNat++w2 :: vs.drop i.toNat) hv e ?_ ((r.take _).append (.cons Nb (r.drop _))) ?_,.putL ab hg hv ((rs.take _).append (.cons M8 (rs.drop _))),rfl,.bX,q⟩
   ·dsimp only;have e1:(if i < 0 then (i+(its.toArray.size:Int)).toNat else min i.toNat its.toArray.size)=i.toNat:=by
     rw [if_neg (by lia),aC]; lia
    rw [e1];exact Jk hi
   ·rw [aU,ao,nW,cU];lia
  ·exact q.elim
 ·exact q.elim
theorem BY (hu : X.A.units + 64 < cLine) : Fy X "list.index" vZ := by
  intro pins s σ H G x d xs ds v us Q I ab rx rd ID rY q;unfold vZ at q;split at q
  · rename_i d'
    obtain⟨hy, zs, sn, ss, hi, s1, s2, q⟩ := q;obtain⟨w, rfl, nX⟩ := rY.one;obtain⟨u, rfl, ru⟩ := ID.one;have lists : ∃ l vs its, v = .ref l ∧ Vals vs its ∧ aX X.K H vs zs ∧ s.heap.IsList l its.toArray ∧ vs.length ≤ aY := by
      cases rd with
      | cO hq rs =>
        cases hi;cases rx;obtain⟨its, rv, pl, hz⟩ := I.list hq.sq;exact⟨_, _, its, rfl, rv, rs, pl.isList, hz⟩
      | ref l =>
        unfold itemsOf at hi;dsimp only at hi;cases hg : G l with
        | none => rw [hg] at hi; cases hi
        | some g =>
          rw [hg] at hi;cases g with
          | lst ds =>
            cases hi;cases rx;obtain⟨vs, hv, rs⟩ := ab.lst hg;obtain⟨its, rv, pl, hz⟩ := I.list (.of hv);exact⟨_, _, its, rfl, rv, rs, pl.isList, hz⟩
          | iG _ => cases hi
      | _ => exact bg hy
    obtain⟨l, vs, its, rfl, rv, rs, hl, hz⟩ := lists;obtain⟨as, ra⟩ := (dq I ab s1).1 w u nX ru;obtain⟨bs, rb⟩ := (dq I ab s2).2 zs ss (.inl ⟨rfl, rfl⟩) vs its rs rv;have d2 := Bo (n := 7) s2;have n2 : lA ss = true := s2.nr;have sF := pj _ n2;have rq : X.A.units + 1 + min (bq (iX ss)) (pd sn).depth < cLine := by lia
    have DT : eB s.heap its.toArray.toList (iX ss) bs := by simpa using rb
    have mp := SeqAt.readsAll_map _ _ _ sF DT;split at q
    · rename_i k hk
      obtain⟨ou, Ou, Lh⟩ := List.findIdx?_eq_some_iff_getElem.mp hk;have QW : ∀ (zz : List D), (iX zz).length = zz.length := by
        intro zz;induction zz with
        | nil => rfl
        | cons a r ih => exact congrArg Nat.succ ih
      have hlen : its.length = ss.length := by
        have := congrArg du mp;rw [ah, QW] at this;simpa using this
      have at_ : ∀ (m : Nat) (h1 : m < its.toArray.size) (h2 : m < ss.length), lN (uL s.heap its.toArray[m]) (pd sn) = fy ss[m] sn := by
        intro m h1 h2;have e1 : (its.toArray.toList.map (uL s.heap))[m]? = (iX ss)[m]? := by rw [mp]
        have QX : ∀ (zz : List D) (m : Nat) (h : m < zz.length), (iX zz)[m]? = some (pd zz[m]) := by
          intro zz;induction zz with
          | nil => intro m h; simp at h
          | cons a r ih => intro m h; cases m with
            | zero => rfl
            | succ m => exact ih m (oC h)
        rw [QX ss m h2] at e1;have Sb : m < its.length := by simpa using h1
        have e2 : uL s.heap its.toArray[m] = pd ss[m] := by
          simpa [Sb] using e1
        rw [e2];have Q9 : nr ss[m] = true := by
          have : ∀ (zz : List D) (m : Nat) (h : m < zz.length), lA zz = true -> nr zz[m] = true := by
            intro zz;induction zz with
            | nil => intro m h; simp at h
            | cons a r ih => intro m h hn; have Mm : nr a = true ∧ lA r = true := (gC).mp hn
                             cases m with
                             | zero => exact Mm.1
                             | succ m => exact ih m (by simpa using h) Mm.2
          exact this ss m h2 n2
        exact oa _ _ Q9 s1.nr
      have sz : aY = 16777216 := bM;have TK : vs.length = its.length := rv.length;obtain⟨⟨cls, dd, data, sl⟩, ho, hc, n, hd⟩ := id hl;simp only at hc hd;subst hc hd;have PU : k < its.toArray.size := by rw [aC]; lia
      refine tT yV ⟨_, ho, rfl⟩ PySem.F.entry_list_index (PySem.F.args_list_index_2 _ _)
        (SeqAt.list_indexAt l its.toArray n dd sl u (fun y => lN (uL s.heap y) (pd sn)) k PU (by lia) ?_ ?_) ⟨ho, jE DT ra sF (gR _ s1.nr) rq, ?_⟩
      · rw [at_ k PU ou]; exact Ou
      · intro m hm RD
        have Lj : m < ss.length := by lia
        rw [at_ m hm Lj];simpa using Lh m RD
      · exact⟨.int k, H, .int k, G, I.tok _, .refl ab, ⟨_, rfl⟩, .int _, q⟩
    · exact q.elim
  · exact q.elim
theorem AX:fI X (.Dict [] [] pos) zY:=by
 intro E pins s σ H τ G Q hE I h;exact eI (D4 pins s σ H (w7 X.K H G Q) I.inv fun p hp=>⟨_,_,.new I.ab hp (.dk cq .nil),.ref _,h p (I.ab.free hp)⟩) fun _ _ z=>.of z
end
end K2
end
section
namespace K2
open PySem PySem.Spec PyProof.Rows L2
noncomputable def dG(env:Env):List (Str×nK)->List (Str×Addr)->List (Str×Addr)
 | [],acc=>acc
 | (n,k) :: r,acc=>if k=.free then dG env r ((n,(env.cells.lookup n).getD 0) :: acc) else dG env r acc
theorem oj(env:Env)(f:Str×nK->List (Str×Addr)->Sem (ForInStep (List (Str×Addr))))(hf:∀ n k c,f (n,k) c=if (k == hU)=true then (cellOf env n >>= fun a=>pure (nF ((n,a) :: c))) else pure (nF c)) :
  ∀ (ns:List (Str×nK)) (acc:List (Str×Addr)),(∀ x∈ns,x.2=.free->∃ c,env.cells.lookup x.1=some c)->forIn ns acc f=(pure (dG env ns acc):Sem (List (Str×Addr)))
 | [],acc,_=>rfl
 | (n,k) :: r,acc,h=>by
  rw [List.forIn_cons,hf];have hr:∀ x∈r,x.2=.free->∃ c,env.cells.lookup x.1=some c:=fun x hx=>h x (aw _ hx);by_cases hk:k=.free
  ·subst hk;obtain⟨c,hc⟩:=h (n,.free) a0 rfl;have ec:cellOf env n=pure c:=by unfold cellOf; rw [hc]
   rw [if_pos (by decide),ec,pure_bind,pure_bind];show forIn r ((n,c) :: acc) f=_;rw [oj env f hf r _ hr];show _=(pure (dG env ((n,.free) :: r) acc):Sem (List (Str×Addr)));rw [dG,if_pos rfl,hc]; rfl
  ·rw [if_neg (by simpa using hk),pure_bind];show forIn r acc f=_;rw [oj env f hf r _ hr];show _=(pure (dG env ((n,k) :: r) acc):Sem (List (Str×Addr)));rw [dG,if_neg hk]
theorem uE{env:Env}{scope:Scope}(h:∀ x∈scope.names,x.2=.free->∃ c,env.cells.lookup x.1=some c):yS scope env=pure (dG env scope.names []):=by
 unfold yS;dsimp only;rw [oj env _ (fun n k c=>?_) scope.names [] h]
 ·rfl
 ·by_cases hk:(k == hU)=true
  ·simp only [hk,if_true]
  ·simp only [hk,if_false,aB]
theorem oH{env:Env}{x:Str}{c:Addr}:∀ {ns:List (Str×nK)} {acc:List (Str×Addr)},(∀ y∈ns,y.2=.free->∃ c,env.cells.lookup y.1=some c)->(∀ y c,acc.lookup y=some c->env.cells.lookup y=some c)->(dG env ns acc).lookup x=some c->env.cells.lookup x=some c
 | [],_,_,ha,e=>ha _ _ e
 | (n,k) :: r,acc,h,ha,e=>by
  have hr:∀ y∈r,y.2=.free->∃ c,env.cells.lookup y.1=some c:=fun y hy=>h y (aw _ hy);unfold dG at e;by_cases hk:k=.free
  ·rw [if_pos hk] at e;refine oH hr (fun y c' q=>?_) e;rw [wR] at q;by_cases hy:(y == n)=true
   ·rw [hy] at q;have e1:y=n:=eq_of_beq hy;subst e1;obtain⟨c0,RY⟩:=h (y,k) a0 hk;rw [RY] at q ⊢;exact q
   ·have N5:(y == n)=false:=by simpa using hy
    rw [N5] at q;exact ha y c' q
  ·rw [if_neg hk] at e;exact oH hr ha e
theorem kK{env:Env}{x:Str}:∀ {ns:List (Str×nK)} {acc:List (Str×Addr)},((x,hU)∈ns\/∃ c,acc.lookup x=some c)->∃ c,(dG env ns acc).lookup x=some c
 | [],_,h=>by rcases h with h | h; exact absurd h (by simp); exact h
 | (n,k) :: r,acc,h=>by
  unfold dG;have grow:∀ a,(∃ c,acc.lookup x=some c)->∃ c,((n,a) :: acc).lookup x=some c:=fun a CP=>by
   obtain⟨c,hc⟩:=CP;rw [wR];by_cases hy:(x == n)=true
   ·rw [hy]; exact⟨_,rfl⟩
   ·have N5:(x == n)=false:=by simpa using hy
    rw [N5]; exact⟨c,hc⟩
  by_cases hk:k=.free
  ·rw [if_pos hk];refine kK ?_;rcases h with h | h
   ·rcases List.mem_cons.mp h with e | h
    ·injection e with e1 e2
     subst e1;exact .inr ⟨(env.cells.lookup x).getD 0,by rw [wR]; simp⟩
    ·exact .inl h
   ·exact .inr (grow _ h)
  ·rw [if_neg hk];refine kK ?_;rcases h with h | h
   ·rcases List.mem_cons.mp h with e | h
    ·injection e with e1 e2
     exact absurd e2.symm hk
    ·exact .inl h
   ·exact .inr h
noncomputable abbrev cz(X:Cx)(N:List Str)(scope:Scope)(C:Addr)(s:ak)(H:Hp)(fp:List Addr):Cx :=
 { X with env:=compEnvC scope (dG X.env scope.names []) C X.env,N:=N,jG:=s,Af:=H,outer:=X.stack,stack:=X.stack,ex:=fp,fn:=fun _=>false,pn:=[],xe:=fun _ _=>False }
theorem oP{scope:Scope}{env:Env}{x:Str}(h:(yQ scope env).names.lookup x=some .cell\/(yQ scope env).names.lookup x=some .free)(iZ:∀ y∈scope.names,y.2≠.cell):(x,hU)∈scope.names:=by
 have go:∀ k,(yQ scope env).names.lookup x=some k->k=.cell\/k=.free->(x,hU)∈scope.names:=by
  intro k hk RK;have hm:=e8 hk;unfold yQ at hm;dsimp only at hm;obtain⟨⟨n,j⟩,hj,e⟩:=List.mem_map.mp hm;dsimp only at e;by_cases hc:(j == hU&&env.scope.kind == .function&&env.kindOf n == some .cell)=true
  ·rw [if_pos hc] at e;rw [aA,aA] at hc;injection e with e1 e2
   have ej:j=.free:=eq_of_beq hc.1.1;rw [ej,e1] at hj;exact hj
  ·rw [if_neg hc] at e;injection e with e1 e2
   subst e1;rcases RK with r | r
   ·exact absurd (e2.trans r) (iZ _ hj)
   ·rw [e2.trans r] at hj; exact hj
 rcases h with h | h
 ·exact go _ h (.inl rfl)
 ·exact go _ h (.inr rfl)
section
variable {X:Cx} {N:List Str} {scope:Scope} {fp:List Addr} {pins:List (Addr×Obj)} {σ:L2.St} {H:Hp} {s:ak} {C:Addr}
theorem JK(I:Inv X pins σ H s)(iZ:∀ y∈scope.names,y.2≠.cell)(va:scope.kind=.function)(lD:∀ y∈scope.names,y.2=.free->X.env.kindOf y.1=some .cell)(hC:s.heap.objs.size<=C)(Lq:∀ b∈fp,qZ X pins H b/\b < s.heap.objs.size):(cz X N scope C s H fp).Ok:=by
 have wd:∀ y∈scope.names,y.2=.free->∃ c,X.env.cells.lookup y.1=some c:=fun y hy hf=>I.ok.has _ (.inl (lD y hy hf));have Iw:∀ x c,(dG X.env scope.names []).lookup x=some c->X.env.cells.lookup x=some c:=fun x c e=>oH wd (fun y c q=>by simp at q) e;refine⟨I.ok.mod,va,I.ok.glob,I.ok.blt,hC,fun x y c h1 h2=>I.ok.inj x y c (Iw x c h1) (Iw y c h2),fun x hx=>?_,fun x c h=>absurd h (by simp),I.ok.hd,I.ok.frames,.inl rfl,fun b hb=>?_,I.bs,bx I.ok.Hx I.sz,fun b o e hb=>?_,fun b hb=>?_,I.stack,I.AD⟩
 ·exact kK (.inl (oP hx iZ))
 ·obtain⟨⟨f0,f1,f2,f3,f4,f5⟩,ou⟩:=Lq b hb;exact⟨ba (a6 ou hC),fun x c e=>f4 x c (Iw x c e)⟩
 ·obtain⟨⟨f0,f1,f2,f3,f4,f5⟩,ou⟩:=Lq b hb;rcases f3 with f3 | f3
  ·exact I.ok.Ed b o e f3
  ·exact absurd (a6 (aH e) (bx I.ok.Hx f3)) (cS _)
 ·obtain⟨⟨f0,f1,f2,f3,f4,f5⟩,ou⟩:=Lq b hb;intro z;rcases List.mem_cons.mp (I.zf b z) with e | e
  ·exact f1 e
  ·exact f2 e
theorem Hq{kY:Heap}{m:Nat}{fr:List Nat}{tk:Nat}(I:Inv X pins σ H s)(ok:(cz X N scope s.heap.objs.size s H fp).Ok)(Jy:∀ y∈scope.names,y.2≠.cell)(lD:∀ y∈scope.names,y.2=.free->X.env.kindOf y.1=some .cell)(hN:N.length=m+fr.length)
  (Ov:∀ j i x,fr[j]?=some i->N[m+j]?=some x->X.N[i]?=some x/\X.env.scope.names.lookup x=some .cell/\(yQ scope X.env).names.lookup x=some .cell) (zI:∃ mm,kY.Ns s.heap.objs.size mm) (hk:∀ b o,s.heap.get? b=some o->kY.get? b=some o) :
  Inv (cz X N scope s.heap.objs.size s H fp) [] (aT m none++fr.map fun i=>(σ[i]?).getD none) H { s with heap:=kY,toks:=tk }:=by
 have wd:∀ y∈scope.names,y.2=.free->∃ c,X.env.cells.lookup y.1=some c:=fun y hy hf=>I.ok.has _ (.inl (lD y hy hf));have Iw:∀ x c,(dG X.env scope.names []).lookup x=some c->X.env.cells.lookup x=some c:=fun x c e=>oH wd (fun y c q=>by simp at q) e;obtain⟨mm,zI⟩:=zI;refine⟨ok,rfl,I.bare,Un.kept hk,⟨mm,zI,fun i x v h1 h2 h3=>?_⟩,fun x c e=>?_,I.bY.fresh (aF _),fun x c e=>?_,fun p hp=>absurd hp (by simp),I.bY.kept hk,?_⟩
 ·by_cases hi:i < m
  ·rw [eC (by simpa using hi),iO] at h2;split at h2 <;> cases h2
  ·obtain⟨j,rfl⟩:∃ j,i=m+j:=⟨i - m,by lia⟩;rw [ed (by simp),dh,nV,bZ] at h2;cases hj:fr[j]? with
   | none=>rw [hj] at h2; cases h2
   | some k =>
    rw [hj] at h2;have EN:(σ[k]?).getD none=some v:=by simpa using h2
    have CQ:σ[k]?=some (some v):=by
     cases q:σ[k]? with
     | none=>rw [q] at EN; cases EN
     | some o=>rw [q] at EN; simp at EN; rw [EN]
    obtain⟨e1,e2,e3⟩:=Ov j k x hj h1;obtain⟨m0,TN,PQ⟩:=I.loc;obtain⟨u,r,l⟩:=PQ k x v e1 CQ (.inr (.inl e2));refine⟨u,r,.inr ⟨.inl e3,?_⟩⟩;rcases l with ⟨l1,_⟩ | ⟨_,c,hc,iZ⟩
    ·have:X.env.scope.names.lookup x=some .local:=l1;rw [e2] at this; cases this
    ·have hx:(x,hU)∈scope.names:=oP (.inl e3) Jy;obtain⟨c',Lw⟩:=kK (env:=X.env) (x:=x) (ns:=scope.names) (acc:=[]) (.inl hx);have:=Iw x c' Lw;rw [hc] at this;have ec:c=c':=aW this;subst ec;obtain⟨oc,J9,hd⟩:=iZ;exact⟨c,Lw,oc,hk _ _ J9,hd⟩
 ·obtain⟨v,oc,J9,hd⟩:=I.cell x c (Iw x c e);exact⟨v,oc,hk _ _ J9,hd⟩
 ·exact I.lE x c (Iw x c e)
 ·rw [aU,dh,ah];exact hN.symm
theorem wG{prog:bf}{w:World}{A:bW}{R:Result->ak->Prop}{s:ak}{elt target iter:Expr}{ifs:List Expr}{sc:Scope}{pos:Pos}{it acc:Value}{env:Env}(J:Nat->ak->Prop)
  (turn:∀ n s,J n s->wpAny (model prog w) A (lV it) (fun r dc=>match r with
   | none=>R (.ok .next) dc
   | some v=>wpAny (model prog w) A (rG target it v) (fun _ Kv=>wpAny (model prog w) A (De target env v) (fun _ iQ =>
     wpAny (model prog w) A (forIn ifs true fun c r=>if r=true then do let ok ← isTrue c env (eval c env); pure (nF ok) else pure (nF r)) (fun k DA =>
      if k=true then wpAny (model prog w) A (eval elt env) (fun x BK=>wpAny (model prog w) A (call (.builtin "list.append") [acc,x]) (fun _ Dz=>∃ m,m < n/\J m Dz) (fun _ _=>False) BK) (fun _ _=>False) DA
      else ∃ m,m < n/\J m DA) (fun _ _=>False) iQ) (fun _ _=>False) Kv) (fun _ _=>False) dc) (fun _ _=>False) s) (n:Nat) (h:J n s) :
  rK (model prog w) A (.compLoop (.ListComp elt [⟨target,iter,ifs,0⟩] sc pos) 0 it acc env) R s:=by
 have no:∀ {α:Type} {t:Sem α} {Q:α->ak->Prop} {E:Value->ak->Prop} {s:ak},wpAny (model prog w) A t Q (fun _ _=>False) s->wpAny (model prog w) A t Q E s:=fun h=>oz h (fun _ _ q=>q) fun _ _ z=>z.elim;refine codeAny_loop rfl J (fun n s hJ=>?_) n h;show wpAny _ A ((compTurn (.ListComp elt [⟨target,iter,ifs,0⟩] sc pos) 0 it acc env).onRaise (fun x=>do noteFrame x env; theTreesLotGoes x)) _ _ s;refine wpAny_noted ?_;rw [compTurn_list];refine ae (wpAny_standAt (ae (eI (no (turn n s hJ)) fun r dc kY=>?_)));cases r with
 | none=>exact aq kY
 | some v =>
  refine ae (eI (no kY) fun _ iQ zH=>ae (eI (no zH) fun _ DA NY=>ae (eI (no NY) fun k BK K8=>?_)));cases k with
  | false=>exact aq ⟨rfl,K8⟩
  | true=>exact ae (ae (eI (no K8) fun x Dz NX=>ae (eI (no NX) fun _ Qz NW=>aq (aq ⟨rfl,NW⟩))))
noncomputable def CompEnd(X:Cx)(pins:List (Addr×Obj))(σ:L2.St)(H:Hp)(G:Gp)(Q:DK)(C Dd:Addr)(s':ak):Prop :=
 ∃ m H' G',Inv X pins σ H' s'/\s'.heap.Ns C m/\qZ X pins H' C/\Mv X.K H G H' G'/\Q (.ref Dd) G'
inductive JV (Xc:Cx):List Expr->Option tL->Prop
 | none:JV Xc [] none
 | some {c:Expr} {t:tL}:Fv Xc c t->JV Xc [c] (some t)
theorem vi{τ:fk}{G G2:Gp}{H2:Hp}{s2:ak}{tg elt iter:Expr}{ifs:List Expr}{pos:Pos}{m:Nat}{fr:List Nat}{E:jz}{g:vw}{c:Option tL}{te:e7}{J:It}{tn:Nat->Heap->Prop}{it:Addr}{ds:List D}{ok:Gp->Prop}{Q:DK}{Rr:Value->Addr->Result->ak->Prop}{E0:Value->ak->Prop}
  (hc:X.calm=true) (iZ:∀ y∈scope.names,y.2≠.cell) (va:scope.kind=.function) (lD:∀ y∈scope.names,y.2=.free->X.env.kindOf y.1=some .cell) (hN:N.length=m+fr.length)
  (Ov:∀ j i x,fr[j]?=some i->N[m+j]?=some x->X.N[i]?=some x/\X.env.scope.names.lookup x=some .cell/\(yQ scope X.env).names.lookup x=some .cell)
  (hg:∀ C s H fp,CW (cz X N scope C s H fp) tg g) (hi:∀ C s H fp,JV (cz X N scope C s H fp) ifs c) (he:∀ C s H fp,fI (cz X N scope C s H fp) elt te)
  (I:I2 X pins σ H2 τ G2 s2) (m2:Mv X.K H G H2 G2) (T:Turn X.prog X.w X.K tg J fp it tn) (HE:tn 0 s2.heap) (f2:∀ b∈fp,qZ X pins H2 b) (wk:Ig X.K J H2 ds ok) (hz:ds.length<=SZ)
  (OM:∀ ex G,¬ E ex G) (q:ie g c te ok ds E (tF m fr τ) G2 [] fun xs G3=>ja G3 (.lst xs) Q)
  (fin:∀ C s',CompEnd X pins σ H G Q C s2.heap.objs.size s'->Rr (.ref s2.heap.objs.size) C (.ok .next) s') :
  wpAny (model X.prog X.w) X.A (newList []) (fun acc DA=>wpAny (model X.prog X.w) X.A (newFunctionEnv scope X.env.globals (dG X.env scope.names []) [] X.env.qual none .none (some X.env)) (fun LM BK =>
   rK (model X.prog X.w) X.A (.compStart (.ListComp elt [⟨tg,iter,ifs,0⟩] scope pos) 0 (.ref it) acc { LM with scope:=yQ scope X.env }) (Rr acc LM.locals) BK) E0 DA) E0 s2:=by
 have sz:aY=16777216:=bM;have qj:H2 s2.heap.objs.size=none:=I.inv.bY.fresh (aF _);have JD:G2 s2.heap.objs.size=none:=I.ab.free qj;refine bR (wpAny_newFunctionEnv iZ (by intro y hy; simp at hy) (fun kY EF EB=>?_) va);dsimp only at EF EB ⊢;have I3:Inv X pins σ (upd H2 s2.heap.objs.size (.lst [])) { s2 with heap:=s2.heap.push { cls:=.type "list",data:=.seq ([]:List Value).toArray },toks:=s2.toks }:=I.inv.NQ (ys:=[]) .nil (bJ _);generalize PK:({ s2 with heap:=s2.heap.push { cls:=.type "list",data:=.seq ([]:List Value).toArray },toks:=s2.toks }:ak)=s3 at I3;generalize Lz:upd H2 s2.heap.objs.size (.lst [])=H3 at I3;have P9:∀ b,b≠s2.heap.objs.size->H3 b=H2 b:=fun b hb=>by rw [<-Lz,bw hb]
 have xZ:s3.heap=s2.heap.push { cls:=.type "list",data:=.seq ([]:List Value).toArray }:=by rw [<-PK]
 have Kz:s3.heap.objs.size=s2.heap.objs.size+1:=by rw [xZ,jl]
 have EJ:∀ b∈fp,b < s2.heap.objs.size:=fun b hb=>by
  obtain⟨o,e,_⟩:=T.obj _ _ HE b hb;exact aH e
 have Lp:∀ b∈fp,qZ X pins H3 b/\b < s3.heap.objs.size:=fun b hb=>by
  have Ms:=EJ b hb;obtain⟨f0,f1⟩:=f2 b hb;exact⟨⟨by rw [P9 b (ba Ms)]; exact f0,f1⟩,a6 Ms (by rw [Kz]; exact rM _)⟩
 have L8:(cz X N scope s3.heap.objs.size s3 H3 fp).Ok:=JK I3 iZ va lD (aF _) Lp;have HX:∀ b o,s3.heap.get? b=some o->kY.get? b=some o:=fun b o e=>by
  have hb:b < s3.heap.objs.size:=aH e;refine EB.extBut b o ?_ (ar _ ?_)
  ·rw [<-xZ]; exact ba hb
  ·rw [<-xZ]; exact e
 have Ol:∃ mm,kY.Ns s3.heap.objs.size mm:=⟨_,by rw [xZ]; exact EF⟩;have I4:=Hq (tk:=s3.toks+([]:List (Str×Value)).length) I3 L8 iZ lD hN Ov Ol HX;have NU:Kp H2 H3:=by rw [<-Lz]; exact .new qj
 have Ie:jJ X.K H3 G2:=by rw [<-Lz]; exact(Mv.Kb I.ab qj).ab
 have Rf:Mv X.K H2 G2 H3 G2:=by rw [<-Lz]; exact .Kb I.ab qj
 have L5:FP X.K H3 (aT m none++fr.map fun i=>(σ[i]?).getD none) (tF m fr τ):=by
  refine⟨by unfold tF; rw [aU,aU,ah,ah,dh,dh],fun i d h2=>?_⟩;unfold tF at h2;by_cases hi:i < m
  ·rw [eC (by simpa using hi),iO] at h2;split at h2 <;> cases h2
  ·obtain⟨j,rfl⟩:∃ j,i=m+j:=⟨i - m,by lia⟩;rw [ed (by simp),dh,nV,bZ] at h2;rw [ed (by simp),dh,nV,bZ];cases hj:fr[j]? with
   | none=>rw [hj] at h2; cases h2
   | some k =>
    rw [hj] at h2;have EN:(τ[k]?).getD none=some d:=by simpa using h2
    have CQ:τ[k]?=some (some d):=by
     cases qq:τ[k]? with
     | none=>rw [qq] at EN; cases EN
     | some o=>rw [qq] at EN; simp at EN; rw [EN]
    obtain⟨v,e1,e2⟩:=I.st.at' k d CQ;exact⟨v,by simp [e1],e2.mono NU⟩
 have R8:H3 s2.heap.objs.size=some (.lst []):=by rw [<-Lz,cq]
 have Kx:tn 0 kY:=T.keep _ _ _ HE fun b hb o e=>HX b o (by rw [xZ]; exact ar _ e);have DC:∀ {Hc:Hp},(∀ b∈fp,Hc b=none)->∀ b∈fp,qZ (cz X N scope s3.heap.objs.size s3 H3 fp) [] Hc b:=fun hn b hb =>
  ⟨hn b hb,(L8.Mz b hb).1,L8.EY b hb,.inl hb,fun x c e=>(L8.Mz b hb).2 x c e,fun p hp=>absurd hp (by simp)⟩
 have Ra:∀ b∈fp,b≠s2.heap.objs.size:=fun b hb=>ba (EJ b hb);have loop:rK (model X.prog X.w) X.A (.compLoop (.ListComp elt [⟨tg,iter,ifs,0⟩] scope pos) 0 (.ref it) (.ref s2.heap.objs.size) (cz X N scope s3.heap.objs.size s3 H3 fp).env) (Rr (.ref s2.heap.objs.size) s3.heap.objs.size)
   { s3 with heap:=kY,toks:=s3.toks+([]:List (Str×Value)).length }:=by
  refine wG (fun n s'=>∃ i FG Hc Dm Gc om pJ,I2 (cz X N scope s3.heap.objs.size s3 H3 fp) [] FG Hc Dm Gc s'/\Gc s2.heap.objs.size=none/\Hc s2.heap.objs.size=some (.lst om)/\aX X.K Hc om pJ/\pJ.length<=i/\Mv X.K H2 G2 Hc Gc/\tn i s'.heap/\(∀ b∈fp,Hc b=none) /\
   n=ds.length - i/\i<=ds.length/\ie g c te ok (ds.drop i) E Dm Gc pJ fun xs G3=>ja G3 (.lst xs) Q) ?_ ds.length
   ⟨0,_,H3,_,G2,[],[],⟨I4,L5,Ie⟩,JD,R8,.nil,aF _,Rf,Kx,fun b hb=>by rw [P9 b (Ra b hb)]; exact(f2 b hb).1,rfl,bJ _,q⟩
  rintro n s4 ⟨i,FG,Hc,Dm,Gc,om,pJ,Ic,gD,hD,rA,hA,mc,Pj,P6,rfl,hle,wq⟩;have PG:Kp H2 Hc:=mc.kp I.ab;by_cases ou:i < ds.length
  ·rw [cD ou] at wq;obtain⟨Nu,wq⟩:=wq;obtain⟨go,yl⟩:=(wk i Hc Gc PG Ic.ab Nu).1 ds[i] (by simp [ou]);refine eI (T.item (cz X N scope s3.heap.objs.size s3 H3 fp) rfl rfl rfl hc i [] s4 FG Hc (fun _ _=>False) Ic.inv (DC P6) Pj go) ?_;rintro r s5 ⟨u,hr,h5⟩;subst hr;refine eI h5 ?_;rintro _ s6 ⟨x,H6,I6,r6,y6,M4,Sg⟩;obtain⟨QP,m6⟩:=yl x H6 y6;have Ts:=I6.pinned (DC Sg) (T.obj _ _ M4);have J6:I2 (cz X N scope s3.heap.objs.size s3 H3 fp) ([]++mz fp s6.heap) FG H6 Dm Gc s6:=⟨Ts,Ic.st.mono (m6.kp Ic.ab),m6.ab⟩;have back:∀ {MU:L2.St} {H9:Hp} {LZ:fk} {G9:Gp} {s9:ak} {aV:List V} {aD:List D},I2 (cz X N scope s3.heap.objs.size s3 H3 fp) ([]++mz fp s6.heap) MU H9 LZ G9 s9->Mv X.K H2 G2 H9 G9->G9 s2.heap.objs.size=none->H9 s2.heap.objs.size=some (.lst aV)->aX X.K H9 aV aD->aD.length<=i+1 ->
     (ie g c te ok (ds.drop (i+1)) E LZ G9 aD fun xs G3=>ja G3 (.lst xs) Q)->∃ mm,mm < ds.length - i/\∃ i FG Hc Dm Gc om pJ,I2 (cz X N scope s3.heap.objs.size s3 H3 fp) [] FG Hc Dm Gc s9/\Gc s2.heap.objs.size=none/\Hc s2.heap.objs.size=some (.lst om)/\aX X.K Hc om pJ/\pJ.length<=i /\
      Mv X.K H2 G2 Hc Gc/\tn i s9.heap/\(∀ b∈fp,Hc b=none)/\mm=ds.length - i/\i<=ds.length/\ie g c te ok (ds.drop i) E Dm Gc pJ fun xs G3=>ja G3 (.lst xs) Q:=fun {MU H9 LZ G9 s9 aV aD} I9 m9 g9 h9 r9 l9 n9=>by
    refine⟨ds.length - (i+1),by lia,i+1,MU,H9,LZ,G9,aV,aD,⟨I9.inv.oG,I9.st,I9.ab⟩,g9,h9,r9,l9,m9,T.keep _ _ _ M4 fun b hb o e=>(I9.inv.pin (b,o) (bT _ (bT _ (kT hb e)))).1,fun b hb=>?_,rfl,ou,n9⟩;obtain⟨o,e,d⟩:=T.obj _ _ M4 b hb;exact(I9.inv.pin (b,o) (bT _ (bT _ (kT hb e)))).2.1
   have Rg:=mc.trans m6;have R7:=m6.keep _ _ hD gD;refine eI (hg _ _ _ _ E _ s6 FG H6 Dm Gc x ds[i] u _ (Lk.none OM) J6 r6 QP wq) ?_;rintro _ s7 ⟨CL,H7,CK,G7,I7,m7,q7⟩;have Mw:=m7.keep _ _ R7.1 gD;have PB:=Rg.trans m7;have Po:=rA.mono ((m6.trans m7).kp Ic.ab);have LG:∀ (H8:Hp) (G8:Gp) (s8:ak),I2 (cz X N scope s3.heap.objs.size s3 H3 fp) ([]++mz fp s6.heap) CL H8 CK G8 s8->Mv X.K H7 G7 H8 G8->(te E CK G8 fun y G9=>ie g c te ok (ds.drop (i+1)) E CK G9 (pJ++[y]) fun xs G3=>ja G3 (.lst xs) Q) ->
     wpAny (model X.prog X.w) X.A (eval elt (cz X N scope s3.heap.objs.size s3 H3 fp).env) (fun y BK=>wpAny (model X.prog X.w) X.A (call (.builtin "list.append") [.ref s2.heap.objs.size,y]) (fun _ Dz=>∃ mm,mm < ds.length - i/\∃ i FG Hc Dm Gc om pJ,I2 (cz X N scope s3.heap.objs.size s3 H3 fp) [] FG Hc Dm Gc Dz/\Gc s2.heap.objs.size=none/\Hc s2.heap.objs.size=some (.lst om)/\aX X.K Hc om pJ/\pJ.length<=i /\
      Mv X.K H2 G2 Hc Gc/\tn i Dz.heap/\(∀ b∈fp,Hc b=none)/\mm=ds.length - i/\i<=ds.length/\ie g c te ok (ds.drop i) E Dm Gc pJ fun xs G3=>ja G3 (.lst xs) Q) (fun _ _=>False) BK) (fun _ _=>False) s8:=fun H8 G8 s8 I8 m8 q8=>by
    refine jZ (he _ _ _ _) (Lk.none OM) I8 q8 fun v H9 d9 G9 u9 s9 I9 m9 r9 QN q9=>?_;have NO:=m8.trans m9;have Mu:=NO.keep _ _ Mw.1 Mw.2;have QU:=Po.mono (NO.kp I7.ab);have PA:=PB.trans NO;refine eI (uZ (X:=cz X N scope s3.heap.objs.size s3 H3 fp) _ s9 CL H9 (.ref s2.heap.objs.size) [v] _ [u9] (fun _ H'=>H'=upd H9 s2.heap.objs.size (.lst (om++[v]))) I9.inv rfl (.cons r9 .nil)
     ⟨_,om,v,rfl,rfl,Mu.1,by rw [rA.length,sz]; have:SZ=16777216:=rfl; lia,rfl⟩) ?_
    rintro _ TB ⟨v10,T1,Tu,_,SH⟩;subst SH;have NT:Kp H9 (upd H9 s2.heap.objs.size (.lst (om++[v]))):=.putL Mu.1;have Qe:jJ X.K (upd H9 s2.heap.objs.size (.lst (om++[v]))) G9:=fun a g' e=>by
     have ne:a≠s2.heap.objs.size:=by rintro rfl; rw [Mu.2] at e; cases e
     exact(I9.ab a g' e).mono NT (bw ne)
    have mA:Mv X.K H2 G2 (upd H9 s2.heap.objs.size (.lst (om++[v]))) G9:=⟨fun a o e n=>by
      have ne:a≠s2.heap.objs.size:=bQ e qj;obtain⟨e1,e2⟩:=PA.keep a o e n;exact⟨by rw [bw ne]; exact e1,e2⟩,fun a n=>by
      by_cases ha:a=s2.heap.objs.size
      ·rw [ha,cq]; simp
      ·rw [bw ha]; exact PA.ke a n,Qe⟩
    exact back ⟨Tu,I9.st.mono NT,Qe⟩ mA Mu.2 cq ((QU.append (.cons QN .nil)).mono NT) (by rw [aU,fS]; lia) q9
   cases hi s3.heap.objs.size s3 H3 fp with
   | none =>
    refine wpAny_tests_nil ?_;rw [if_pos rfl];exact LG H7 G7 s7 I7 (.refl I7.ab) q7
   | some Lv =>
    refine wpAny_tests_one (Gg Lv (Lk.none OM) I7 q7 fun k H8 G8 s8 I8 m8 q8=>?_);cases k with
    | true =>
     rw [if_pos rfl] at q8 ⊢;exact LG H8 G8 s8 I8 m8 q8
    | false =>
     rw [if_neg dn] at q8 ⊢;have P2:=m8.keep _ _ Mw.1 Mw.2;exact back I8 (PB.trans m8) P2.2 P2.1 (Po.mono (m8.kp I7.ab)) (by lia) q8
  ·have hn:ds.length<=i:=by lia
   rw [i5 hn] at wq;obtain⟨Nu,qn⟩:=wq;have stop:=(wk i Hc Gc PG Ic.ab Nu).2 hn;refine eI (T.done (cz X N scope s3.heap.objs.size s3 H3 fp) rfl rfl rfl hc i [] s4 FG Hc (fun _ _=>False) Ic.inv (DC P6) Pj stop) ?_;rintro r s5 ⟨hr,I5⟩;subst hr;refine fin s3.heap.objs.size s5 ?_;obtain⟨mm,Om,_⟩:=I5.loc;have Sa:Hc s3.heap.objs.size=none:=I5.free;have I6:Inv X pins σ Hc s5:=by
    obtain⟨h5,g5,d5,t5,o5⟩:=s5;have eo:o5=s3.os:=I5.os;subst eo;exact I3.call (h':=h5) (g':=g5) (d':=d5) (t':=t5) (ch:=fp) I5.base I5.bY I5.bare fun b hb=>by
     obtain⟨⟨f0,f1,TV,f3,f4,f5⟩,hl⟩:=Lp b hb;exact⟨f3,f1,f4,f5⟩
   have Rc:Mv X.K H2 G2 Hc (cf Gc s2.heap.objs.size (.lst pJ)):=⟨fun a o e n=>by
     have ne:a≠s2.heap.objs.size:=bQ e qj;obtain⟨e1,e2⟩:=mc.keep a o e n;exact⟨e1,by rw [cN ne]; exact e2⟩,mc.ke,fun a g' e=>by
     by_cases ha:a=s2.heap.objs.size
     ·subst ha;rw [aG] at e;cases e;exact⟨om,hD,rA⟩
     ·rw [cN ha] at e;exact Ic.ab a g' e⟩
   exact⟨mm,Hc,_,I6,Om,I3.EV (aF _) Sa,m2.trans Rc,qn _ gD⟩
 have all:rK (model X.prog X.w) X.A (.compStart (.ListComp elt [⟨tg,iter,ifs,0⟩] scope pos) 0 (.ref it) (.ref s2.heap.objs.size) (cz X N scope s3.heap.objs.size s3 H3 fp).env) (Rr (.ref s2.heap.objs.size) s3.heap.objs.size)
   { s3 with heap:=kY,toks:=s3.toks+([]:List (Str×Value)).length }:=codeAny_compStart_list loop (T.self _ 0 _ _ _ Kx loop)
 subst PK;exact all
end
end K2
end
section
namespace K2
open PySem PySem.Spec PyProof.Rows L2
section
variable {X:Cx} {N:List Str} {scope:Scope} {tg elt iter:Expr} {ifs:List Expr} {pos:Pos} {m:Nat} {fr:List Nat} {wi:Ih} {g:vw} {c:Option tL} {te:e7}
structure tS(X:Cx)(N:List Str)(scope:Scope)(m:Nat)(fr:List Nat):Prop where
 cell:∀ y∈scope.names,y.2≠.cell
 kind:scope.kind=.function
 names:∀ y∈scope.names,y.2=.local->scope.names.lookup y.1=some .local
 free:∀ y∈scope.names,y.2=.free->X.env.kindOf y.1=some .cell
 len:N.length=m+fr.length
 at':∀ j i x,fr[j]?=some i->N[m+j]?=some x->X.N[i]?=some x/\X.env.scope.names.lookup x=some .cell/\(yQ scope X.env).names.lookup x=some .cell
theorem tS.closed{X:Cx}{N:List Str}{scope:Scope}{m:Nat}{fr:List Nat}(k:tS X N scope m fr){pins:List (Addr×Obj)}{σ:L2.St}{H:Hp}{s:ak}(I:Inv X pins σ H s):yS scope X.env=pure (dG X.env scope.names []) :=
 uE fun y hy hf=>I.ok.has _ (.inl (k.free y hy hf))
theorem BV(hc:X.calm=true)(k:tS X N scope m fr)(hi:Ii X tg iter wi)(hg:∀ C s H fp,CW (cz X N scope C s H fp) tg g)(Ju:∀ C s H fp,JV (cz X N scope C s H fp) ifs c)(he:∀ C s H fp,fI (cz X N scope C s H fp) elt te)
  (hs:autoParam (∀ x,jX iter X.env x=pure x) Ai._auto_1):fI X (.ListComp elt [⟨tg,iter,ifs,0⟩] scope pos) (dg m fr wi g c te):=by
 intro E pins s σ H τ G Q hE I h;rw [eval_ListComp];refine wpAny_comprehension_free (use:=none) rfl hs (k.closed I.inv) k.kind k.names (eI (hi E pins s σ H τ G _ hE I h) fun xv dc kY=>eI kY fun HS iQ zH=>?_);obtain⟨it,fp,tn,J,H2,G2,ds,ok,e,kF,m2,T,HE,f2,wk,hz,q⟩:=zH;subst e;refine vi (Rr:=fun acc C=>compPost (model X.prog X.w) X.A X.xe none (ny X pins σ H G Q) acc C) hc k.cell k.kind k.free k.len k.at' hg Ju he (I.mv kF m2) m2 T HE f2 wk hz (fun _ _ z=>z) q ?_;rintro C s' ⟨mm,H',G',I',zI,OS,mv,q'⟩;refine⟨mm,zI,fun h' J8=>?_⟩;obtain⟨f0,f1,_,f3,f4,f5⟩:=OS;exact⟨.ref _,H',.ref _,G',I'.turned (t':=s'.toks) (fun b o hb e=>J8.extBut b o hb e) f0 f1 f3 f4 f5,mv,rfl,.ref _,q'⟩
theorem xE{i:Nat}{y:Str}{py DE:Pos}(hN:X.N.Nodup)(N0:X.N[i]?=some y)(hy:X.env.scope.names.lookup y=some .local)(hc:X.calm=true)(k:tS X N scope m fr)(hi:Ii X tg iter wi)(hg:∀ C s H fp,CW (cz X N scope C s H fp) tg g)
  (Ju:∀ C s H fp,JV (cz X N scope C s H fp) ifs c) (he:∀ C s H fp,fI (cz X N scope C s H fp) elt te) (Od:autoParam (C4 (.ListComp elt [⟨tg,iter,ifs,0⟩] scope pos) (some (.Name y py)) DE.line X.env=pure true) Ar._auto_1)
  (hs:autoParam (∀ x,jX iter X.env x=pure x) Ai._auto_1):BB X (.Assign [.Name y py] (.ListComp elt [⟨tg,iter,ifs,0⟩] scope pos) DE) (bV (dg m fr wi g c te) (aM i)):=by
 intro E pins s σ H τ G D hE I h;rw [exec_Assign_Name_used _ _ _ _ Od];refine ae (wpAny_standAt (ae ?_));show wpAny _ X.A (do let _ ← comprehension (.ListComp elt [⟨tg,iter,ifs,0⟩] scope pos) scope X.env _ (newList []) false (eval iter X.env) (some (De (.Name y py) X.env))) _ _ s;refine ae (eI (wpAny_comprehension_free (use:=some (De (.Name y py) X.env)) (Q:=fun _ s'=>JU X pins H G D .next s') rfl hs (k.closed I.inv) k.kind k.names (eI (hi E pins s σ H τ G _ hE I h) fun xv dc kY=>eI kY fun HS iQ zH=>?_)) fun _ s' hq=>aq (aq hq));obtain⟨it,fp,tn,J,H2,G2,ds,ok,e,kF,m2,T,HE,f2,wk,hz,q⟩:=zH;subst e;refine vi (Rr:=fun acc C=>compPost (model X.prog X.w) X.A X.xe (some (De (.Name y py) X.env)) (fun _ s'=>JU X pins H G D .next s') acc C) hc k.cell k.kind k.free k.len k.at' hg Ju he (I.mv kF m2) m2 T HE f2 wk hz (fun _ _ z=>z) q ?_;rintro C s' ⟨mm,H',G',I',zI,OS,mv,q'⟩;show wpAny (model X.prog X.w) X.A (De (.Name y py) X.env (.ref iQ.heap.objs.size)) _ X.xe s';obtain⟨f0,f1,_,f3,f4,f5⟩:=OS;refine wpAny_assign_Name (uP (v:=.ref iQ.heap.objs.size) I' hN N0 (.inl hy) rfl (?_) (.inr hy));rintro s3 I3 ⟨a,Mj,ha⟩;have R9:C≠a:=by
  rcases ha with rfl | ha
  ·exact f1
  ·exact fun e=>f4 y a ha e.symm
 refine⟨mm,zI.sameBut Mj R9,fun h' J8=>?_⟩;exact⟨_,H',_,G',⟨I3.turned (t':=s3.toks) (fun b o hb e=>J8.extBut b o hb e) f0 f1 f3 f4 f5,(I.st.mono (mv.kp I.ab)).set i (.ref _),mv.ab⟩,mv,q'⟩
theorem kz{i:Nat}{u:wL}{n:Nat}(h:∀ E ds τ G Q,u E ds τ G Q->ds.length=n):∀ E ds τ G Q,mK (aM i) u E ds τ G Q->ds.length=n+1 :=
 Cf h (fun _ _ _ _ _ _ q k=>k _ _ q) fun _ _ _ _ q=>q
theorem bE (i:Nat) {x:Str} {pos:Pos} (hN:autoParam (X.N[i]?=some x) Ar._auto_1) (hv:autoParam (MD X.env.scope x) Ao._auto_1) (hd:autoParam ((x == ("__debug__" : Str))=false) Ad._auto_1)
  (w4:autoParam ((x == ("__classdict__" : Str))=false) Ad._auto_1):fI X (.Name x pos) (ay i):=GC hN hv hd w4
theorem range_all(bs:List Bool):(bK bs.length).all (fun i=>bs.getD i true)=bs.all id:=by
 rw [Bool.eq_iff_iff,fm,fm];constructor
 ·intro h b hb;obtain⟨i,hi,e⟩:=dR hb;have:=h i (List.mem_range.mpr hi);rw [aI,ai hi,e] at this;exact this
 ·intro h i hi;have Jv:=List.mem_range.mp hi;rw [aI,ai Jv];exact h _ (bu Jv)
theorem rW{K:ag}{H:Hp}:∀ {vs:List V} {bs:List Bool} {its:List Value},aX K H vs (bs.map D.bl)->Vals vs its->its=bs.map t6
 | _,[],_,r,h=>by rw [a9] at r; rw [r.zero] at h; cases h; rfl
 | _,b :: bs,_,r,h=>by
  rw [az] at r;cases r with
  | cons r1 r2 =>
   cases r1;cases h with
   | cons h1 h2 =>
    cases h1;rw [rW r2 h2]; rfl
theorem sv{pins:List (Addr×Obj)}{s:ak}{σ:L2.St}{H:Hp}{G:Gp}{x:V}{d:D}{v:Value}{zs:List D}(I:Inv X pins σ H s)(ab:jJ X.K H G)(rx:RelV x v)(rd:bF X.K H x d)(hi:itemsOf d G=some zs) :
  ∃ l vs its,v=.ref l/\Vals vs its/\aX X.K H vs zs/\(s.heap.IsList l its.toArray\/s.heap.IsTuple l its.toArray)/\vs.length<=aY:=by
 cases rd with
 | cO hq rs =>
  cases hi;cases rx;obtain⟨its,rv,pl,hz⟩:=I.list hq.sq;exact⟨_,_,its,rfl,rv,rs,.inl pl.isList,hz⟩
 | tup hq rs =>
  cases hi;cases rx;obtain⟨its,rv,pl,hz⟩:=I.tuple (.of hq);exact⟨_,_,its,rfl,rv,rs,.inr pl,hz⟩
 | ref l =>
  unfold itemsOf at hi;dsimp only at hi;cases hg:G l with
  | none=>rw [hg] at hi; cases hi
  | some gg =>
   rw [hg] at hi;cases gg with
   | lst ds =>
    cases hi;cases rx;obtain⟨vs,hv,rs⟩:=ab.lst hg;obtain⟨its,rv,pl,hz⟩:=I.list (.of hv);exact⟨_,_,its,rfl,rv,rs,.inl pl.isList,hz⟩
   | iG _=>cases hi
 | _=>cases hi
theorem vm (hc:X.calm=true):lp X (.builtin "all") Hu:=by
 intro pins s σ H G xs ds us Q I ab rx rd q;unfold Hu at q;split at q
 ·rename_i x;obtain⟨bs,hb,q⟩:=q;obtain⟨v,rfl,r⟩:=rd.one;obtain⟨u,rfl,ru⟩:=rx.one;obtain⟨l,vs,its,rfl,rv,rs,hl,hz⟩:=sv I ab ru r hb;have ei:=rW rs rv;have hlen:its.length=bs.length:=by rw [ei,ah]
  have kI:∀ {o:Obj},s.heap.get? l=some o->l≠s.heap.objs.size:=fun e=>ba (aH e);have tr:TruthOf X.prog X.w X.A.in1 (fun i v=>its.toArray[i]?=some v) (fun i=>bs.getD i true):=fun i v s' Q' E' hv hq=>by
   subst ei;have K9:(bs.map t6)[i]?=some v:=by simpa using hv
   rw [bZ] at K9;cases OE:bs[i]? with
   | none=>rw [OE] at K9; cases K9
   | some b =>
    rw [OE] at K9;cases K9;dsimp only at hq;rw [aI,OE] at hq;exact gZ hq
  have fin:∀ h' tk,(∀ b o,b∉[s.heap.objs.size]->s.heap.get? b=some o->h'.get? b=some o)->ny X pins σ H G Q (.bool ((bK its.toArray.size).all fun i=>bs.getD i true)) { s with heap:=h',toks:=tk }:=fun h' tk hk=>by
   rw [aC,hlen,range_all];exact⟨.bl _,H,.bl _,G,I.kept fun b o e=>hk b o (by simpa using ba (aH e)) e,.refl ab,rfl,.bl _,q⟩
  rcases hl with hl | hl
  ·refine call_all_walk (oy hl ?_);obtain⟨o,ho,wd,n,hd⟩:=id hl;exact⟨s.heap.objs.size,_,_,_,_,_,_,rfl,Am (A:=X.A.in1) (show X.A.in1.handled=none from I.ok.hd hc) _ l (kI ho) its.toArray,⟨⟨_,aR _ rfl,rfl,rfl⟩,⟨o,ar _ ho,wd,n,hd⟩⟩,tr,fun h' tk hk=>fin h' tk fun b o hb e=>hk b o hb (ar _ e)⟩
  ·refine call_all_walk (w8 hl ?_);obtain⟨o,ho,wd,n,hd⟩:=id hl;exact⟨s.heap.objs.size,_,_,_,_,_,_,rfl,Walks.tuple (A:=X.A.in1) (show X.A.in1.handled=none from I.ok.hd hc) _ l (kI ho) its.toArray,⟨⟨_,aR _ rfl,rfl,rfl⟩,⟨o,ar _ ho,wd,n,hd⟩⟩,tr,fun h' tk hk=>fin h' tk fun b o hb e=>hk b o hb (ar _ e)⟩
 ·exact q.elim
theorem DZ{body:List Stmt}{t2:gx}(h:qr X body t2){E:jz}(hE:Lk X E):Kh X body (fun D σ H=>∃ (τ:fk) (G:Gp) (D2:jB),FP X.K H σ τ/\jJ X.K H G/\t2 E D2 τ G /\
  (∀ gi H' lr G',Mv X.K H G H' G'->D2.nx lr G'->D.nx gi H')/\(∀ v H' d G',Mv X.K H G H' G'->bF X.K H' v d->D2.rt d G'->D.rt v H')/\(∀ τ G,¬ D2.bk τ G)/\(∀ τ G,¬ D2.ct τ G)):=by
 rintro pins s σ H D I ⟨τ,G,D2,st,ab,q,k1,k2,k3,k4⟩;refine eI (h E pins s σ H τ G D2 hE ⟨I,st,ab⟩ q) fun f s1 z=>?_;cases f with
 | next=>obtain⟨gi,H',lr,G',J,mv,z⟩:=z; exact⟨gi,H',J.inv,k1 gi H' lr G' mv z⟩
 | brk=>obtain⟨gi,H',lr,G',J,mv,z⟩:=z; exact(k3 _ _ z).elim
 | cont=>obtain⟨gi,H',lr,G',J,mv,z⟩:=z; exact(k4 _ _ z).elim
 | ret u=>obtain⟨v,gi,H',d,G',J,mv,r,rd,z⟩:=z; exact⟨v,gi,H',J,r,k2 v H' d G' mv rd z⟩
theorem xn{K:ag}{H:Hp}{Nn:List Str}{vs:List V}{ds:List D}(r:aX K H vs ds):FP K H (L2.start Nn vs) (bb Nn.length ds):=by
 unfold L2.start bb;refine⟨by simp [r.length],fun i d h=>?_⟩;by_cases hi:i < ds.length
 ·rw [eC (by simpa using hi),bZ] at h;cases hd:ds[i]? with
  | none=>rw [hd] at h; cases h
  | some d' =>
   rw [hd] at h;have e:d'=d:=by simpa using h
   subst e;obtain⟨v,h1,h2⟩:=r.get hd;refine⟨v,?_,h2⟩;rw [eC (by simpa [r.length] using hi),bZ,h1]; rfl
 ·rw [ed (by simpa using hi),iO] at h;split at h <;> cases h
theorem Hk{P:bf}{w:World}{K:ag}{mg:Str->Option Value}{base:Heap}{x qual:Str}{st:Stmt}{f:Addr}{fd:aE}{Nn ps:List Str}{k:Nat}{sp:lS}{rd:gx}(F:nv K x qual st f fd)(S:bL Nn ps (aO st))(len:∀ ds G Q E,sp ds G Q E->ds.length=ps.length)
  (hr:∀ ds G Q,sp ds G Q (fun _ _=>False)->rd (fun _ _=>False) (ends Q) (bb Nn.length ds) G)
  (hb:∀ (i0:Value) (A:bW) (outer:List Env) (s:ak) (H:Hp) (E:XK),gX k (A.deeper (rJ qual (aO st) s.heap.objs.size f i0))->qr (tD fJ P w K mg base Nn qual (aO st) f i0 A outer s H E).FI (fA st) rd):eR P w K mg base fJ (k+1) f fd ps (di K sp):=by
 refine F.ok S ((by rintro vs H Q E ⟨ds,G,Q2,r,ab,q,_⟩; exact by rw [r.length]; exact len _ _ _ _ q)) ?_;rintro i0 A outer s H vs Q E EC ⟨ds,G,Q2,r,ab,q,kk⟩;refine⟨_,DZ (hb i0 A outer s H E EC) (E:=fun _ _=>False) (Lk.none fun _ _ z=>z),?_⟩;exact⟨bb Nn.length ds,G,ends Q2,xn r,ab,hr ds G Q2 q,fun gi H' lr G' mv z=>kk _ _ _ _ z mv .bX,fun v H' d G' mv IJ z=>kk _ _ _ _ z mv IJ,fun _ _ z=>z,fun _ _ z=>z⟩
section
variable {prog:bf} {w:World} {A:bW} {R:Result->ak->Prop} {MH:Addr} {fq wr:List Addr} {n:Nat} {P:Nat->Value->Prop} {Sx:Nat->Heap->Prop}
theorem Ja(W:Walks prog w A.in1 MH fq wr n P Sx)(bt:Nat->Nat->Bool)(T:Heap->Prop)(B:Addr)(hB:B∉fq)(hT:∀ h h',T h->(∀ b o,b∉wr->b≠B->h.get? b=some o->h'.get? b=some o)->T h')
  (cmp:∀ i j x y s (Q:Value->ak->Prop) (E:Value->ak->Prop),T s.heap->P i x->P j y->Q (.bool (bt i j)) s->wpAny (model prog w) A.in1 (jW .Lt x y) Q E s) :
  ∀ (k j:Nat) (s:ak) (best:Value) (cc:Nat),n - (j+1)=k->j+1<=n->Sx (j+1) s.heap->T s.heap->P (lX bt j) best ->
  s.heap.get? B=some { cls:=.type "list",dict:=none,data:=.seq #[best,best] cc,slots:=#[] } ->
  (∀ v h' tk,P (lX bt (n - 1)) v->(∀ b o,b∉wr->b≠B->s.heap.get? b=some o->h'.get? b=some o)->R (.ok (.ret v)) { s with heap:=h',toks:=tk }) ->
  rK (model prog w) A (.builtin "min.loop" ⟨[.ref MH,.none,.ref B],[]⟩) R s:=by
 have P4:B∉wr:=fun z=>hB (W.sub _ z);have nm:(toString "min"++toString ".loop" : String) = "min.loop":=by decide
 intro k;induction k with
 | zero =>
  intro j s best cc hk hj hs ht hp hb hR;have ej:j+1=n:=by lia
  refine e9 yY ?_; rw [cQ fE _];show wpAny _ A.in1 (xc (.ref B) >>= _) _ _ s; refine ae (j6 hb rfl ?_);show wpAny _ A.in1 (tryCatch (lV (.ref MH)) _ >>= _) _ _ s; refine ae (dW (W.done s _ _ (ej ▸ hs) fun h' tk kept=>?_));have zK:=kept B _ P4 hb;show wpAny _ A.in1 (updateSeq B (fun _=>#[]) >>= _) _ _ _; refine ae ?_;refine gE zK rfl (ae (jV (aq ?_)));exact hR best _ tk (by rw [<-ej]; exact hp) fun b o z1 z2 e=>(cb _ _ (j8 z2)).trans (kept b o z1 e)
 | succ k ih =>
  intro j s best cc hk hj hs ht hp hb hR;have lt:j+1 < n:=by lia
  refine e9 yY ?_; rw [cQ fE _];show wpAny _ A.in1 (xc (.ref B) >>= _) _ _ s; refine ae (j6 hb rfl ?_);show wpAny _ A.in1 (tryCatch (lV (.ref MH)) _ >>= _) _ _ s; refine ae (dW (W.item (j+1) s _ _ lt hs fun v h' tk pv ua kept=>?_));have zK:=kept B _ P4 hb;have J7:T h':=hT _ _ ht fun b o z1 _ e=>kept b o z1 e;show wpAny _ A.in1 (tryCatch (yR [v,v] (jW .Lt v best >>= _)) _ >>= _) _ _ _;refine ae (dW (cM (ae (cmp (j+1) (lX bt j) v best _ _ _ J7 pv hp ?_)))); refine ae (cM (gZ ?_)); refine ae (jV (aq ?_));cases PY:bt (j+1) (lX bt j) with
  | true =>
   simp only [if_true]; refine ae ?_;refine gE zK rfl (ae (jV ?_)); rw [nm];refine aq ⟨eG fE _,ih (j+1) _ v _ (by lia) lt (W.frame _ _ _ ua fun b z o e=>?_) (hT _ _ J7 fun b o _ z2 e=>?_) (by simp only [lX,PY,if_true]; exact pv) (fT _ zK rfl) fun v' LB Dx KJ kk=>?_⟩
   ·exact(cb _ _ (fun z':B=b=>hB (by rw [z']; exact z))).trans e
   ·exact(cb _ _ (j8 z2)).trans e
   ·exact hR v' LB Dx KJ fun b o z1 z2 e=>kk b o z1 z2 ((cb _ _ (j8 z2)).trans (kept b o z1 e))
  | false =>
   simp only [aB,if_false]; refine ae (jV ?_); rw [nm];refine aq ⟨eG fE _,ih (j+1) _ best cc (by lia) lt ua J7 (by simp only [lX,PY,aB,if_false]; exact hp) zK fun v' LB Dx KJ kk=>?_⟩;exact hR v' LB Dx KJ fun b o z1 z2 e=>kk b o z1 z2 (kept b o z1 e)
end
theorem xM{prog:bf}{w:World}{A:bW}{E:Value->ak->Prop}{s:ak}{x:Value}{Q:Value->ak->Prop}
  (h:wpAny (model prog w) A.in1 (C6 x) (fun it iQ=>∃ (I:Addr) (fq wr:List Addr) (n:Nat) (P:Nat->Value->Prop) (Sx:Nat->Heap->Prop) (bt:Nat->Nat->Bool) (T:Heap->Prop),it=.ref I/\Walks prog w A.in1 I fq wr n P Sx/\Sx 0 iQ.heap/\(∀ b∈fq,b < iQ.heap.objs.size)/\0 < n/\T iQ.heap/\(∀ (h h':Heap) (B:Addr),iQ.heap.objs.size<=B->T h->(∀ b o,b∉wr->b≠B->h.get? b=some o->h'.get? b=some o)->T h') /\
   (∀ i j x y s (Q:Value->ak->Prop) (E:Value->ak->Prop),T s.heap->P i x->P j y->Q (.bool (bt i j)) s->wpAny (model prog w) A.in1 (jW .Lt x y) Q E s) /\
   ∀ v h' tk,P (lX bt (n - 1)) v->(∀ b o,b∉wr->iQ.heap.get? b=some o->h'.get? b=some o)->Q v { iQ with heap:=h',toks:=tk }) E s) :
  wpAny (model prog w) A (call (.builtin "min") [x]) Q E s:=by
 have nm:(toString "min"++toString ".loop" : String) = "min.loop":=by decide
 refine call_function_tree F.kind_min F.plain_min F.entry_min (F.args_min1 _) ?_;show wpAny _ A.in1 (iP "min" ["key","default"] 0 ⟨[],[]⟩ >>= _) _ _ s; refine ae (C0 (show iP "min" ["key","default"] 0 ⟨[],[]⟩=pure [none,none] from rfl) ?_);refine ae (aq ?_); refine ae (oz h (fun it iQ zH=>?_) fun _ _ e=>e);obtain⟨I,fq,wr,n,P,Sx,bt,T,rfl,W,Oe,Lq,hn,ht,hT,cmp,hQ⟩:=zH;refine ae (bR ?_);have OH:iQ.heap.objs.size∉fq:=fun z=>cS _ (Lq _ z);have R4:iQ.heap.objs.size∉wr:=fun z=>OH (W.sub _ z);rw [nm];generalize hh:iQ.heap.push { cls:=.type "list",data:=.seq ([]:List Value).toArray } = hp;have hb:hp.get? iQ.heap.objs.size=some { cls:=.type "list",dict:=none,data:=.seq #[] 0,slots:=#[] }:=by rw [<-hh]; exact aR _ rfl
 have old:∀ b o,iQ.heap.get? b=some o->hp.get? b=some o:=fun b o e=>by rw [<-hh]; exact ar _ e
 have Pk:Sx 0 hp:=W.frame _ _ _ Oe fun b _ o e=>old b o e;have Rw:T hp:=hT _ _ _ (aF _) ht fun b o _ _ e=>old b o e;refine aq ⟨eG fE _,?_⟩;refine e9 yY ?_; rw [cQ fE _];show wpAny _ A.in1 (xc (.ref iQ.heap.objs.size) >>= _) _ _ _; refine ae (j6 hb rfl ?_);show wpAny _ A.in1 (tryCatch (lV (.ref I)) _ >>= _) _ _ _; refine ae (dW (W.item 0 _ _ _ hn Pk fun v h' tk pv ua kept=>?_));have zK:=kept _ _ R4 hb;show wpAny _ A.in1 (updateSeq iQ.heap.objs.size (fun _=>#[v,v]) >>= _) _ _ _; refine ae ?_;refine gE zK rfl ?_; rw [nm];refine aq ⟨eG fE _,Ja W bt T _ OH (fun h h'=>hT h h' _ (aF _)) cmp _ 0 _ v _ rfl hn (W.frame _ _ _ ua fun b z o e=>?_) (hT _ _ _ (aF _) (hT _ _ _ (aF _) Rw fun b o z1 _ e=>kept b o z1 e) fun b o _ z2 e=>?_) pv (fT _ zK rfl) fun v' LB Dx KJ kk=>?_⟩
 ·exact(cb _ _ (fun z':iQ.heap.objs.size=b=>OH (by rw [z']; exact z))).trans e
 ·exact(cb _ _ (j8 z2)).trans e
 ·refine hQ v' LB Dx KJ fun b o z1 e=>?_;have nb:b≠iQ.heap.objs.size:=ba (aH e);exact kk b o z1 nb ((cb _ _ (j8 nb)).trans (kept b o z1 (old b o e)))
theorem yu{α:Type}(lt:α->α->Bool)(l:List α)(a:α)(f:Nat->α)(hf:∀ i,i < l.length+1->f i=(a :: l).getD i a) :
  f (lX (fun i j=>lt (f i) (f j)) l.length)=l.foldl (fun m x=>if lt x m=true then x else m) a:=by
 have key:∀ k,k<=l.length->f (lX (fun i j=>lt (f i) (f j)) k)=(l.take k).foldl (fun m x=>if lt x m=true then x else m) a:=by
  intro k;induction k with
  | zero=>intro _; rw [lX,hf 0 (by lia)]; rfl
  | succ k ih =>
   intro hk;have Rn:=ih (by lia);rw [List.take_succ_eq_append_getElem (by lia),mX,<-Rn];have e:f (k+1)=l[k]:=by
    rw [hf (k+1) (by lia),aI];simp [show k < l.length by lia]
   show f (if lt (f (k+1)) (f (lX _ k))=true then k+1 else lX _ k)=(if lt l[k] _=true then l[k] else _);rw [<-e];split <;> rfl
 rw [key l.length (aF _),List.take_length]
theorem Ct (hc : X.calm = true) (hu : X.A.units + 64 < cLine) : lp X (.builtin "min") Fh := by
  intro pins s σ H G xs ds us Q I ab rx rd q;unfold Fh at q;split at q
  · rename_i x
    obtain⟨v, rfl, r⟩ := rd.one;obtain⟨u, rfl, ru⟩ := rx.one;have main : ∀ {α : Type} (zs : List α) (a : α) (enc : α -> D) (lt : α -> α -> Bool) (T : Heap -> Prop), itemsOf x G = some ((a :: zs).map enc) -> T s.heap -> (∀ (h h' : Heap) (B : Addr), s.heap.objs.size ≤ B -> T h -> (∀ b o, b < s.heap.objs.size -> b ≠ B -> h.get? b = some o -> h'.get? b = some o) -> T h') ->
        (∀ y z vy vz uy uz (s' : ak) (Q' : Value -> ak -> Prop) (E' : Value -> ak -> Prop), T s'.heap -> bF X.K H vy (enc y) -> RelV vy uy -> bF X.K H vz (enc z) -> RelV vz uz -> Q' (.bool (lt y z)) s' -> wpAny (model X.prog X.w) X.A.in1 (jW .Lt uy uz) Q' E' s') ->
        Q (enc (zs.foldl (fun m x => if lt x m = true then x else m) a)) G -> wpAny (model X.prog X.w) X.A (call (.builtin "min") [u]) (ny X pins σ H G Q) X.xe s := by
      intro α zs a enc lt T hi ht hT cmp hq;obtain⟨l, vs, its, rfl, rv, rs, hl, hz⟩ := sv I ab ru r hi;have hlen : its.length = zs.length + 1 := by rw [<-rv.length, rs.length, ah, ao]
      have kI : ∀ {o : Obj}, s.heap.get? l = some o -> l ≠ s.heap.objs.size := fun e => ba (aH e);have at_ : ∀ i uu, its.toArray[i]? = some uu -> ∃ vv, RelV vv uu ∧ bF X.K H vv (enc ((a :: zs).getD i a)) := fun i uu e => by
        have e' : its[i]? = some uu := by simpa using e
        have Jv : i < its.length := (List.getElem?_eq_some_iff.mp e').1;have hd : ((a :: zs).map enc)[i]? = some (enc ((a :: zs).getD i a)) := by
          rw [bZ, aI];cases h9 : (a :: zs)[i]? with
          | none => rw [List.getElem?_eq_none_iff] at h9; simp at h9; lia
          | some z => rfl
        obtain⟨vv, h1, h2⟩ := rs.get hd;obtain⟨Tx, h3, h4⟩ := rv.get h1;rw [e'] at h3;cases h3;exact⟨vv, h4, h2⟩
      have LL : ∀ i j p9 q9 s' (Q' : Value -> ak -> Prop) (E' : Value -> ak -> Prop), T s'.heap -> its.toArray[i]? = some p9 -> its.toArray[j]? = some q9 -> Q' (.bool (lt ((a :: zs).getD i a) ((a :: zs).getD j a))) s' -> wpAny (model X.prog X.w) X.A.in1 (jW .Lt p9 q9) Q' E' s' := fun i j p9 q9 s' Q' E' t' h1 h2 h3 => by
        obtain⟨v1, r1, d1⟩ := at_ i p9 h1;obtain⟨v2, r2, d2⟩ := at_ j q9 h2;exact cmp _ _ v1 v2 p9 q9 s' Q' E' t' d1 r1 d2 r2 h3
      have fin : ∀ vv h' tk, its.toArray[lX (fun i j => lt ((a :: zs).getD i a) ((a :: zs).getD j a)) (its.toArray.size - 1)]? = some vv -> (∀ b o, b ∉ [s.heap.objs.size] -> s.heap.get? b = some o -> h'.get? b = some o) -> ny X pins σ H G Q vv { s with heap := h', toks := tk } := fun vv h' tk e hk => by
        obtain⟨v1, r1, d1⟩ := at_ _ vv e;have es : its.toArray.size - 1 = zs.length := by rw [aC]; lia
        rw [es, yu lt zs a (fun i => (a :: zs).getD i a) (fun i _ => rfl)] at d1;exact⟨v1, H, _, G, I.kept fun b o e => hk b o (by simpa using ba (aH e)) e, .refl ab, r1, d1, hq⟩
      have Jp : 0 < its.toArray.size := by rw [aC]; lia
      have PZ : ∀ (oo : Obj), T (s.heap.push oo) := fun oo => hT _ _ (s.heap.objs.size + 1) (rM _) ht fun b o hb _ e => ar _ e;have P0 : ∀ (oo : Obj) (h h' : Heap) (B : Addr), (s.heap.push oo).objs.size ≤ B -> T h -> (∀ b o, b ∉ [s.heap.objs.size] -> b ≠ B -> h.get? b = some o -> h'.get? b = some o) -> T h' := fun oo h h' B hB t kk => hT h h' B (by rw [jl] at hB; exact Nat.le_of_succ_le hB) t fun b o hb hn e => kk b o (by simpa using ba hb) hn e;rcases hl with hl | hl
      · refine xM (oy hl ?_)
        obtain⟨o, ho, wd, n, hd⟩ := id hl;exact⟨s.heap.objs.size, _, _, _, _, _, _, T, rfl, Am (A := X.A.in1) (show X.A.in1.handled = none from I.ok.hd hc) _ l (kI ho) its.toArray, ⟨⟨_, aR _ rfl, rfl, rfl⟩, ⟨o, ar _ ho, wd, n, hd⟩⟩,
          fun b hb => by rcases (by simpa using hb : b = s.heap.objs.size ∨ b = l) with rfl | rfl
                         · rw [jl]; exact ot _
                         · rw [jl]; exact nE (aH ho), Jp, PZ _, P0 _, LL, fun vv h' tk e hk => fin vv h' tk e fun b o hb e => hk b o hb (ar _ e)⟩
      · refine xM (w8 hl ?_)
        obtain⟨o, ho, wd, n, hd⟩ := id hl;exact⟨s.heap.objs.size, _, _, _, _, _, _, T, rfl, Walks.tuple (A := X.A.in1) (show X.A.in1.handled = none from I.ok.hd hc) _ l (kI ho) its.toArray, ⟨⟨_, aR _ rfl, rfl, rfl⟩, ⟨o, ar _ ho, wd, n, hd⟩⟩,
          fun b hb => by rcases (by simpa using hb : b = s.heap.objs.size ∨ b = l) with rfl | rfl
                         · rw [jl]; exact ot _
                         · rw [jl]; exact nE (aH ho), Jp, PZ _, P0 _, LL, fun vv h' tk e hk => fin vv h' tk e fun b o hb e => hk b o hb (ar _ e)⟩
    rcases q with ⟨ns, mm, hi, hm, q⟩ | ⟨L9, mm, hi, hm, q⟩
    · cases ns with
      | nil => cases hm
      | cons a zs =>
        cases hm;have e : (fun m x : Int => if x < m then x else m) = fun m x => if decide (x < m) = true then x else m := by funext m x; simp
        rw [e] at q;refine main zs a D.int (fun x y => decide (x < y)) (fun _ => True) hi trivial (fun _ _ _ _ _ _ => trivial) (fun y z vy vz uy uz s' Q' E' _ d1 r1 d2 r2 hq => ?_) q;cases d1;cases d2;obtain⟨t1, rfl⟩ := r1;obtain⟨t2, rfl⟩ := r2;exact HT.r8 X.A.in1 s' y t1 z t2 X.prog X.w E' Q' hq
    · cases L9 with
      | nil => cases hm
      | cons a zs =>
        cases hm;have el : ∀ xs ys : List Int, HT.lexLt xs ys = K2.lexLt xs ys := by
          intro xs;induction xs with
          | nil => intro ys; cases ys <;> rfl
          | cons x xs ih => intro ys; cases ys with
            | nil => rfl
            | cons y ys => unfold HT.lexLt K2.lexLt; rw [ih]
        refine main zs a tI K2.lexLt (fun h => ∀ b o, b < s.heap.objs.size -> s.heap.get? b = some o -> h.get? b = some o) hi (fun b o _ e => e) (fun h h' B hB t kk b o hb e => kk b o hb (ba (a6 hb hB)) (t b o hb e)) (fun y z vy vz uy uz s' Q' E' t' d1 r1 d2 r2 hq => ?_) q;cases d1 with
        | tup h1 QK =>
          cases d2 with
          | tup h2 BR =>
            cases r1;cases r2;have z1 := QK.ints;have z2 := BR.ints;subst z1 z2;obtain⟨K6, QG, ⟨o1, PO, RX, n1, Ls⟩, _⟩ := I.tuple (.of h1);obtain⟨qh, HF, ⟨o2, u7, sN, n2, hd2⟩, _⟩ := I.tuple (.of h2);have p1 : IsTup s'.heap _ K6.toArray := ⟨o1, t' _ _ (aH PO) PO, RX, n1, Ls⟩;have p2 : IsTup s'.heap _ qh.toArray := ⟨o2, t' _ _ (aH u7) u7, sN, n2, hd2⟩;rw [<-el] at hq;have i1 : jk K6.toArray.toList y := intsAre_of QG;have i2 : jk qh.toArray.toList z := intsAre_of HF;exact(HT.sr p1 p2 i1 i2 (show X.A.units + 1 < cLine by lia) hq : wpAny (model X.prog X.w) X.A.in1 (cG .Lt _ _) Q' E' s')
  · exact q.elim
noncomputable def Nf(scope sc:Scope):List (Str×nK):=scope.names.map fun (n,k)=>if (k == .free&&sc.kind == .function&&sc.names.lookup n == some .cell) then (n,.cell) else (n,k)
noncomputable def rC(N:List Str)(scope:Scope)(m:Nat)(fr:List Nat)(sc:Scope)(XN:List Str):Bool :=
 scope.names.all (fun y=>decide (y.2≠.cell))&&decide (scope.kind=.function)&&scope.names.all (fun y=>!decide (y.2=.local)||decide (scope.names.lookup y.1=some .local)) &&
 scope.names.all (fun y=>!decide (y.2=.free)||decide (sc.names.lookup y.1=some .cell))&&decide (N.length=m+fr.length) &&
 (bK fr.length).all (fun j=>match fr[j]?,N[m+j]? with
  | some i,some x=>decide (XN[i]?=some x)&&decide (sc.names.lookup x=some .cell)&&decide ((Nf scope sc).lookup x=some .cell)
  | _,_=>false)
theorem vj{sc:Scope}{XN:List Str}(La:X.env.scope=sc)(Ly:X.N=XN)(hb:rC N scope m fr sc XN=true):tS X N scope m fr:=by
 subst La Ly;unfold rC at hb;simp only [aA] at hb;obtain⟨⟨⟨⟨⟨h1,h2⟩,h3⟩,h4⟩,h5⟩,h6⟩:=hb;refine⟨fun y hy=>of_decide_eq_true (List.all_eq_true.mp h1 y hy),of_decide_eq_true h2,fun y hy hl=>?_,fun y hy hl=>?_,of_decide_eq_true h5,fun j i x e1 e2=>?_⟩
 ·have:=List.all_eq_true.mp h3 y hy;simp only [hl,decide_true,bO,tY] at this;exact of_decide_eq_true this
 ·have:=List.all_eq_true.mp h4 y hy;simp only [hl,decide_true,bO,tY] at this;exact of_decide_eq_true this
 ·have hj:j < fr.length:=(List.getElem?_eq_some_iff.mp e1).1;have:=List.all_eq_true.mp h6 j (List.mem_range.mpr hj);rw [e1,e2] at this;simp only [aA] at this;exact⟨of_decide_eq_true this.1.1,of_decide_eq_true this.1.2,of_decide_eq_true this.2⟩
theorem fP(N:List Str){sc:Scope}{XN:List Str}(hi:Ii X tg iter wi)(hg:∀ C s H fp,CW (cz X N scope C s H fp) tg g)(Ju:∀ C s H fp,JV (cz X N scope C s H fp) ifs c)(he:∀ C s H fp,fI (cz X N scope C s H fp) elt te)
  (La:autoParam (X.env.scope=sc) Ar._auto_1) (Ly:autoParam (X.N=XN) Ar._auto_1) (hb:autoParam (rC N scope m fr sc XN=true) Ak._auto_1) (hc:autoParam (X.calm=true) Ar._auto_1) (hs:autoParam (∀ x,jX iter X.env x=pure x) Ai._auto_1):fI X (.ListComp elt [⟨tg,iter,ifs,0⟩] scope pos) (dg m fr wi g c te) :=
 BV hc (vj La Ly hb) hi hg Ju he hs
theorem oV(N:List Str){sc:Scope}{XN:List Str}{i:Nat}{y:Str}{py DE:Pos}(hN:X.N.Nodup)(N0:X.N[i]?=some y)(hy:X.env.scope.names.lookup y=some .local)(hi:Ii X tg iter wi)(hg:∀ C s H fp,CW (cz X N scope C s H fp) tg g)
  (Ju:∀ C s H fp,JV (cz X N scope C s H fp) ifs c) (he:∀ C s H fp,fI (cz X N scope C s H fp) elt te) (La:autoParam (X.env.scope=sc) Ar._auto_1) (Ly:autoParam (X.N=XN) Ar._auto_1) (hb:autoParam (rC N scope m fr sc XN=true) Ak._auto_1) (hc:autoParam (X.calm=true) Ar._auto_1)
  (Od:autoParam (C4 (.ListComp elt [⟨tg,iter,ifs,0⟩] scope pos) (some (.Name y py)) DE.line X.env=pure true) Ar._auto_1) (hs:autoParam (∀ x,jX iter X.env x=pure x) Ai._auto_1) :
  BB X (.Assign [.Name y py] (.ListComp elt [⟨tg,iter,ifs,0⟩] scope pos) DE) (bV (dg m fr wi g c te) (aM i)) :=
 xE hN N0 hy hc (vj La Ly hb) hi hg Ju he Od hs
end
end K2
end
section
namespace K2
open PySem PySem.Spec PyProof.Rows L2
noncomputable def Fe:HO->Bool
 | .lst _=>true
 | .dK _=>true
 | .dT _=>true
 | _=>false
noncomputable def kB(h:Heap)(S:Addr->Bool)(H:Hp):Hp:=fun a=>match H a with
 | some u=>if (Fe u&&S a)=true then (match h.get? a with
  | some o=>some (.jI o u)
  | none=>some u) else some u
 | none=>none
section
variable {h:Heap} {S:Addr->Bool} {H:Hp} {a:Addr}
theorem zM(n:∀ u,H a=some u->Fe u=false):kB h S H a=H a:=by
 unfold kB;cases e:H a with
 | none=>rfl
 | some u=>simp only [n u e,Av,aB,if_false]
theorem sQ(hs:S a=false):kB h S H a=H a:=by
 unfold kB;cases e:H a with
 | none=>rfl
 | some u=>simp only [hs,Aw,aB,if_false]
theorem rz{u:HO}{o:Obj}(hs:S a=true)(e:H a=some u)(hu:Fe u=true)(ho:h.get? a=some o):kB h S H a=some (.jI o u):=by
 unfold kB;simp only [e,hs,hu,Bool.and_self,if_true,ho]
theorem kA(e:H a=none):kB h S H a=none:=by unfold kB; rw [e]
theorem jP{u:HO}(e:H a=some u)(hu:Fe u=false):kB h S H a=some u:=by rw [zM (fun v z=>by rw [e] at z; cases z; exact hu)]; exact e
theorem pz:Kp H (kB h S H):=⟨fun a xs e=>jP e rfl,fun a o u e=>jP e rfl⟩
end
section
variable {X:Cx} {pins:List (Addr×Obj)} {σ:L2.St} {H:Hp} {s:ak} {G:Gp}
theorem Inv.freeze(I : Inv X pins σ H s)(S : Addr -> Bool) : Inv X pins σ (kB s.heap S H) s where
  ok := I.ok
  os := I.os
  bare := I.bare
  base := { keep := I.base.keep, slot := I.base.slot, there := I.base.there
            free := fun b o q n hx => kA (I.base.free b o q n hx)
            t8 := fun b xs q => jP (I.base.t8 b xs q) rfl
            sP := fun b o u q => jP (I.base.sP b o u q) rfl
            pV := fun b ps q => jP (I.base.pV b ps q) rfl }
  loc := I.loc
  cell := I.cell
  free := kA I.free
  lE := fun x c e => kA (I.lE x c e)
  pin := fun p hp => let ⟨h1, h2, h3⟩ := I.pin p hp; ⟨h1, kA h2, h3⟩
  bY := fun a o q => by
    have st : ∀ u, H a = some u -> eQ X.prog X.w (kB s.heap S H) s.heap a u := fun u e =>
      (I.bY a u e).ke (fun b v _ r => r) (fun b r => jP r rfl) (fun b xs r => jP r rfl)
    cases e : H a with
    | none => rw [kA e] at q; cases q
    | some u =>
      by_cases hc : Fe u = true
      · by_cases hs : S a = true
        · obtain⟨ob, ho⟩ := ko (I.bY a _ e)
          rw [rz hs e hc ho] at q;cases q;exact⟨ho, st _ e⟩
        · rw [sQ (by simpa using hs), e] at q
          cases q;exact st _ e
      · rw [jP e (by simpa using hc)] at q
        cases q;exact st _ e
  len := I.len
noncomputable def lu(R:Nat->Bool)(G:Gp):Addr->Bool:=fun a=>R a&&(G a).isSome
theorem vf(I:Inv X pins σ H s)(ab:jJ X.K H G)(R:Nat->Bool):Mv X.K H G (kB s.heap (lu R G) H) (yh R G) where
 keep:=fun a o e n=>by
  refine⟨by rw [sQ (by simp [lu,n])]; exact e,?_⟩;unfold yh; split
  ·rfl
  ·exact n
 ke:=fun a n=>by
  cases q:G a with
  | none=>exact absurd q n
  | some g =>
   have t:=(ab a g q).tracked;cases e:H a with
   | none=>exact absurd e t
   | some u =>
    unfold kB;rw [e];dsimp only;split
    ·split <;> simp
    ·simp
 ab:=fun a g e=>by
  unfold yh at e;split at e
  ·cases e
  ·rename_i hr;exact(ab a g e).mono pz (sQ (by simp [lu,hr]))
theorem EU(I:Inv X pins σ H s)(ab:jJ X.K H G){R:Nat->Bool}:∀ {d t:D} {v:V},Fz G R d t->bF X.K H v d->bF X.K (kB s.heap (lu R G) H) v t:=by
 intro d t v h;revert v;refine Fz.rec (motive_1:=fun d t _=>∀ {v:V},bF X.K H v d->bF X.K (kB s.heap (lu R G) H) v t)
  (motive_2:=fun ds ts _=>∀ {vs:List V},aX X.K H vs ds->aX X.K (kB s.heap (lu R G) H) vs ts)
  (motive_3:=fun ds ts _=>(∀ {vs:List (Key×V)},jC X.K H vs ds->jC X.K (kB s.heap (lu R G) H) vs ts)/\∀ {vs:List (List Key×V)},lT X.K H vs ds->lT X.K (kB s.heap (lu R G) H) vs ts)
  ?_ ?_ ?_ ?_ ?_ ?_ ?_ ?_ ?_ h
 ·intro d v r; exact r.mono pz
 ·intro ds ss _ ih v r;cases r with
  | tup h rs=>exact .tup (pz.tup _ _ h) (ih rs)
 ·intro ds ss _ ih v r;cases r with
  | cO h rs=>exact .cO (pz.Ky h) (ih rs)
 ·intro a ds ss g hr _ ih v r;cases r;obtain⟨vs,hv,rs⟩:=ab a _ g;obtain⟨ob,ho⟩:=ko (I.bY a _ hv);exact .cO (.inl ⟨_,rz (by simp [lu,hr,g]) hv rfl ho⟩) (ih rs)
 ·intro a ds ss g hr _ ih v r;cases r;rcases ab a _ g with ⟨kv,hv,rs⟩ | ⟨kv,hv,rs⟩
  ·obtain⟨ob,ho⟩:=ko (I.bY a _ hv);exact .mh (rz (by simp [lu,hr,g]) hv rfl ho) (ih.1 rs)
  ·obtain⟨ob,ho⟩:=ko (I.bY a _ hv);exact .mf (rz (by simp [lu,hr,g]) hv rfl ho) (ih.2 rs)
 ·intro vs r; cases r; exact .nil
 ·intro d s ds ss _ _ i1 i2 vs r;cases r with
  | cons r rs=>exact .cons (i1 r) (i2 rs)
 ·exact⟨fun r=>by cases r; exact .nil,fun r=>by cases r; exact .nil⟩
 ·intro k d s ds ss _ _ i1 i2;exact⟨fun r=>by cases r with | cons r rs=>exact .cons (i1 r) (i2.1 rs),fun r=>by cases r with | cons r rs=>exact .cons (i1 r) (i2.2 rs)⟩
variable {e:Expr} {te:e7} {st:Stmt} {t:gx}
theorem bB(he:fI X e te):fI X e (dD te):=by
 intro E pins s σ H τ G Q hE I h;refine eI (he E pins s σ H τ G _ hE I h) ?_;rintro u s1 ⟨v,H1,d,G1,I1,m,r,rd,R,t,hf,q⟩;exact⟨v,_,t,_,Inv.freeze I1 _,m.trans (vf I1 m.ab R),r,EU I1 m.ab hf rd,q⟩
theorem AQ{i:Nat}(h1:BB X st t):BB X st (Fb i t):=by
 intro E pins s σ H τ G D hE I h;refine eI (h1 E pins s σ H τ G _ hE I h) fun f s1 z=>?_;cases f with
 | next =>
  obtain⟨gi,H',lr,G',I',m,q⟩:=z;simp only at q;split at q
  ·rename_i d hd;obtain⟨R,t,hf,q⟩:=q;obtain⟨v,hv,rv⟩:=I'.st.at' i d hd;have a1:=(I'.st.mono (H':=kB s1.heap (lu R G') H') pz).set i (EU I'.inv I'.ab hf rv);have es:gi.set i (some v)=gi:=by
    have hi:i < gi.length:=(List.getElem?_eq_some_iff.mp hv).1;have e2:=(List.getElem?_eq_some_iff.mp hv).2;rw [<-e2]; exact List.set_getElem_self hi
   rw [es] at a1;have m2:=vf I'.inv I'.ab R;exact⟨gi,_,_,_,⟨Inv.freeze I'.inv _,a1,m2.ab⟩,m.trans m2,q⟩
  ·exact q.elim
 | ret v=>exact z
 | brk=>exact z
 | cont=>exact z
end
end K2
end
section
namespace K2
open PySem PySem.Spec PyProof.Rows L2
theorem iT:cF "len" = some (.builtin "len"):=by decide +kernel
theorem JN:cF "min" = some (.builtin "min"):=by decide +kernel
theorem JO:cF "max" = some (.builtin "max"):=by decide +kernel
theorem Fo:cF "all" = some (.builtin "all"):=by decide +kernel
theorem vo:cF "sorted" = some (.builtin "sorted"):=by decide +kernel
theorem wJ:cF "list" = some (.type "list"):=by decide +kernel
theorem yp:cF "tuple" = some (.type "tuple"):=by decide +kernel
theorem Hv:cF "dict" = some (.type "dict"):=by decide +kernel
theorem JP:cF "int" = some (.type "int"):=by decide +kernel
theorem Hw:cF "bool" = some (.type "bool"):=by decide +kernel
section
variable {X:Cx} {a b c e o:Expr} {es:List Expr} {ta tb tc te to:e7} {t:yK} {pos p p2 apos iS:Pos} {x name:Str} {id T:String} {k:Nat} {f:Addr} {fd:aE} {ps:List Str} {sp:lS}
theorem bz(F:eR X.prog X.w X.K X.mg X.base fJ k f fd ps (di X.K sp))(hr:gX k X.A)(hg:Gl X x)(hm:X.mg x=some (.ref f))(hk:gy X.K (.ref f)=true)(hb:Binds X.K fd ps [])
  (ha:BC X (e :: es) t) (zJ:autoParam ((x == ("__debug__" : Str))=false) Ad._auto_1) (he:autoParam (bI (e :: es) X.env=(false,eval e X.env) :: bI es X.env) Ar._auto_1) (CO:autoParam ((kc pos (bI es X.env)).any (·.1)=false) Ar._auto_1) :
  fI X (.Call (.Name x p) (e :: es) [] pos) (bH sp t):=D6 F hr hg hm hk hb ha zJ he CO
end
end K2
end
section
namespace K2
open PySem PySem.Spec PyProof.Rows L2
section
variable {X:Cx} {o i a b:Expr} {to ti ta tb:e7} {pos p:Pos}
theorem AV(hu:X.A.units+64 < cLine)(ho:fI X o to)(hi:fI X i ti)
  (ha:autoParam (∀ v,De (.Subscript o i pos) X.env v=(do
   let ov ← yR [v] (eval o X.env)
   let iv ← yR [v,ov] (eval i X.env)
   standAt pos
   yR [v,ov,iv] (setItem ov iv v)
   release [v,ov,iv] [])) Ai._auto_1):CW X (.Subscript o i pos) (ER to ti):=by
 intro E pins s σ H τ G w d u Q hE I r rd h;rw [ha];refine ae (cM (jZ ho hE I h fun x H1 dx G1 ov s1 I1 m1 r1 je q1=>?_));refine ae (cM (jZ hi hE I1 q1 fun y H2 dy G2 iv s2 kF m2 r2 AL q2=>?_));refine ae (wpAny_standAt (ae (cM ?_)));have Mc:=m1.trans m2;have J0:=rd.mono (Mc.kp I.ab);have ua:=I.st.mono (Mc.kp I.ab);have QF:=je.mono (m2.kp I1.ab);unfold AI at q2;split at q2
 ·rename_i l;cases QF;cases r1;split at q2
  ·rename_i xs hg;obtain⟨vs,hv,rs⟩:=kF.ab.lst hg;split at q2
   ·rename_i k;cases AL;split at q2
    ·rename_i j hj;have m3:Mv X.K H2 G2 (upd H2 l (.lst (vs.set j w))) (cf G2 l (.lst (xs.set j d))):=.putL kF.ab hg hv (rs.set J0 j);refine eI (set_list pins s2 σ H2 (.ref l) (.int k) w _ _ _ (fun H3=>H3=upd H2 l (.lst (vs.set j w))) kF.inv rfl r2 r ⟨l,vs,k,j,rfl,rfl,hv,?_,rfl⟩) ?_
     ·rw [rs.length]; exact hj
     ·rintro _ s3 ⟨H3,I3,e3⟩;subst e3;exact wpAny_release ⟨σ,_,τ,_,⟨I3,ua.mono (m3.kp kF.ab),m3.ab⟩,Mc.trans m3,q2⟩
    ·exact q2.elim
   ·exact q2.elim
  ·rename_i aQ hg;obtain⟨hk,hz,q⟩:=q2;obtain⟨H3,H4,I3,dp,m3⟩:=E5 kF.inv kF.ab hg hk hz AL J0;exact Cq (by lia) I3 dp r2 r fun s4 I4=>wpAny_release ⟨σ,H4,τ,_,⟨I4,ua.mono (m3.kp kF.ab),m3.ab⟩,Mc.trans m3,q⟩
  ·exact q2.elim
 ·exact q2.elim
end
end K2
end
section
namespace L2
open PySem PySem.Spec PyProof.Rows
structure Qf(z TI TO i1 i2 a b:Addr)(i:Nat)(h:Heap):Prop where
 hz:IsZip h z TI TO .none
 hI:IsPair h TI (.ref i1) (.ref i2)
 hO:∃ x y,IsPair h TO x y
 h1:h.IsListIter i1 a i
 h2:h.IsListIter i2 b i
end L2
end
section
namespace K2
open PySem PySem.W PyProof.Rows
noncomputable def eW{α:Type}(lt:Nat->Nat->Bool):KasT α->α
 | .ret a=>a
 | .ask i j k=>eW lt (k (lt i j))
theorem jd{α β:Type}(lt:Nat->Nat->Bool)(f:α->KasT β):∀ t:KasT α,eW lt (t.bind f)=eW lt (f (eW lt t))
 | .ret _=>rfl
 | .ask i j k=>jd lt f (k (lt i j))
noncomputable abbrev gA(p:Array Nat)(k:Nat):Nat:=p.getD k 0
theorem vd(p:Array Nat)(k:Nat):gA p k=(p[k]?).getD 0:=by
 unfold gA; rw [Array.getD_eq_getD_getElem?]
structure BA(lt:Nat->Nat->Bool):Prop where
 asymm:∀ i j,lt i j=true->lt j i=false
 trans:∀ i j k,lt j i=false->lt k j=false->lt k i=false
theorem BA.refl{lt:Nat->Nat->Bool}(w:BA lt)(i:Nat):lt i i=false:=by
 cases h:lt i i with
 | false=>rfl
 | true=>rw [w.asymm _ _ h] at h; cases h
noncomputable def Up(lt:Nat->Nat->Bool)(p:Array Nat)(m:Nat):Prop:=∀ i j,i<=j->j < m->lt (gA p j) (gA p i)=false
noncomputable def Dn(lt:Nat->Nat->Bool)(p:Array Nat)(m:Nat):Prop:=∀ i j,i<=j->j < m->lt (gA p i) (gA p j)=false
section
variable {lt:Nat->Nat->Bool}
theorem Up.more(w:BA lt){p:Array Nat}{n m:Nat}(h1:1<=n)(h:Up lt p n)(hs:∀ k,n<=k->k < m->lt (gA p k) (gA p (k - 1))=false):Up lt p m:=by
 intro i j Bk RL;induction j with
 | zero =>
  have:i=0:=by lia
  subst this; exact w.refl _
 | succ j ih =>
  by_cases hj:j+1 < n
  ·exact h i (j+1) Bk hj
  ·by_cases e:i=j+1
   ·subst e; exact w.refl _
   ·have h1:=ih (by lia) (by lia);have h2:=hs (j+1) (by lia) RL;exact w.trans _ _ _ h1 h2
theorem AJ(p:Array Nat):∀ (f n:Nat),n<=eW lt (lW p f n)/\eW lt (lW p f n)<=n+f/\(∀ k,n<=k->k < eW lt (lW p f n)->lt (gA p k) (gA p (k - 1))=false) /\
  (eW lt (lW p f n) < n+f->lt (gA p (eW lt (lW p f n))) (gA p (eW lt (lW p f n) - 1))=true):=by
 intro f;induction f with
 | zero=>intro n; exact⟨aF _,aF _,fun k h1 h2=>absurd (show k < n from h2) (by lia),fun h=>absurd (show n < n+0 from h) (by lia)⟩
 | succ f ih =>
  intro n;have e:eW lt (lW p (f+1) n)=if lt (gA p n) (gA p (n - 1))=true then n else eW lt (lW p f (n+1)):=by
   show eW lt (if lt (gA p n) (gA p (n - 1))=true then pS n else lW p f (n+1))=_;split <;> rfl
  rw [e];by_cases c:lt (gA p n) (gA p (n - 1))=true
  ·rw [if_pos c];exact⟨aF _,by lia,fun k h1 h2=>absurd h2 (by lia),fun _=>c⟩
  ·rw [if_neg c];obtain⟨h1,h2,h3,h4⟩:=ih (n+1);refine⟨by lia,by lia,fun k k1 k2=>?_,fun h=>h4 (by lia)⟩;by_cases e:k=n
   ·subst e; simpa using c
   ·exact h3 k (by lia) k2
theorem eU{p:Array Nat}{i j:Nat}(hj:j<=p.size)(k:Nat):gA (eg p i j) k=if i<=k/\k < j then gA p (i+j - 1 - k) else gA p k:=by
 rw [vd,eg,getElem?_mirror_all hj];split <;> rw [vd]
theorem jo(p:Array Nat)(i j:Nat):(eg p i j).size=p.size:=mirror_size _ _ _ _
theorem gN(p:Array Nat)(i j:Nat):(eg p i j).Perm p:=mirror_perm _ _ _ _
theorem Dn.rev{p:Array Nat}{a n:Nat}(w:BA lt)(hn:n<=p.size)(h:Dn lt p n)(he:∀ k,a<=k->k < n->lt (gA p (n - 1)) (gA p k)=false):Dn lt (eg p a n) n:=by
 intro i j Bk Ll;rw [eU hn,eU hn];by_cases hi:a<=i
 ·rw [if_pos ⟨hi,by lia⟩,if_pos ⟨by lia,Ll⟩];exact w.trans _ _ _ (he (a+n - 1 - j) (by lia) (by lia)) (h (a+n - 1 - i) (n - 1) (by lia) (by lia))
 ·rw [if_neg (by lia)];by_cases hj:a<=j
  ·rw [if_pos ⟨hj,Ll⟩];exact h i (a+n - 1 - j) (by lia) (by lia)
  ·rw [if_neg (by lia)];exact h i j Bk Ll
noncomputable def Qk(lt:Nat->Nat->Bool)(p:Array Nat)(n q:Nat):Prop:=q+1<=n/\∀ k,n - (q+1)<=k->k < n->lt (gA p (n - 1)) (gA p k)=false
theorem Dn.one(w:BA lt){p:Array Nat}{n:Nat}(h1:1<=n)(h:Dn lt p n)(hc:lt (gA p (n - 1)) (gA p n)=false):Dn lt p (n+1):=by
 intro i j Bk hj;by_cases e:j=n
 ·subst e;by_cases e2:i=j
  ·subst e2; exact w.refl _
  ·exact w.trans _ _ _ hc (h i (j - 1) (by lia) (by lia))
 ·exact h i j Bk (by lia)
theorem DL(w:BA lt):∀ (f:Nat) (p:Array Nat) (n q:Nat),n+f<=p.size->Dn lt p n->Qk lt p n q->∃ p' n' q',eW lt (iK f p n q)=(p',n',q')/\p'.Perm p/\p'.size=p.size/\n<=n'/\n'<=n+f/\Dn lt p' n'/\Qk lt p' n' q':=by
 intro f;induction f with
 | zero=>intro p n q _ hd he; exact⟨p,n,q,rfl,jD _,rfl,aF _,aF _,hd,he⟩
 | succ f ih =>
  intro p n q hs hd he;have h1:1<=n:=by have:=he.1; lia
  have e:eW lt (iK (f+1) p n q)=if lt (gA p n) (gA p (n - 1))=true then (if q > 0 then eW lt (iK f (eg p (n - (q+1)) n) (n+1) 0) else eW lt (iK f p (n+1) 0))
    else if lt (gA p (n - 1)) (gA p n)=true then (p,n,q) else eW lt (iK f p (n+1) (q+1)):=by
   show eW lt (if lt (gA p n) (gA p (n - 1))=true then (if q > 0 then iK f (eg p (n - (q+1)) n) (n+1) 0 else iK f p (n+1) 0) else .ask (gA p (n - 1)) (gA p n) fun d=>if d=true then .ret (p,n,q) else iK f p (n+1) (q+1))=_;split
   ·split <;> rfl
   ·show eW lt (if lt (gA p (n - 1)) (gA p n)=true then pS (p,n,q) else iK f p (n+1) (q+1))=_;split <;> rfl
  rw [e];by_cases c:lt (gA p n) (gA p (n - 1))=true
  ·rw [if_pos c];have ca:=w.asymm _ _ c;by_cases hq:q > 0
   ·rw [if_pos hq];have d1:Dn lt (eg p (n - (q+1)) n) n:=hd.rev w (by lia) he.2;have en:gA (eg p (n - (q+1)) n) n=gA p n:=by rw [eU (by lia),if_neg (by lia)]
    have S1:lt (gA (eg p (n - (q+1)) n) (n - 1)) (gA (eg p (n - (q+1)) n) n)=false:=by
     rw [en,eU (by lia)];split
     ·-- an item of MZ L3 is above p n
      exact w.trans _ _ _ ca (hd _ (n - 1) (by lia) (by lia))
     ·exact ca
    obtain⟨p',n',q',z,h2,h3,h4,h5,h6,h7⟩:=ih (eg p (n - (q+1)) n) (n+1) 0 (by rw [jo]; lia) (d1.one w h1 S1) ⟨by lia,fun k k1 k2=>by
     have:k=n:=by lia
     subst this; exact w.refl _⟩
    exact⟨p',n',q',z,h2.trans (gN _ _ _),h3.trans (jo _ _ _),by lia,by lia,h6,h7⟩
   ·rw [if_neg hq];obtain⟨p',n',q',z,h2,h3,h4,h5,h6,h7⟩:=ih p (n+1) 0 (by lia) (hd.one w h1 ca) ⟨by lia,fun k k1 k2=>by
     have:k=n:=by lia
     subst this; exact w.refl _⟩
    exact⟨p',n',q',z,h2,h3,by lia,by lia,h6,h7⟩
  ·rw [if_neg c];have c':lt (gA p n) (gA p (n - 1))=false:=by simpa using c
   by_cases d:lt (gA p (n - 1)) (gA p n)=true
   ·rw [if_pos d];exact⟨p,n,q,rfl,jD _,rfl,aF _,by lia,hd,he⟩
   ·rw [if_neg d];have d':lt (gA p (n - 1)) (gA p n)=false:=by simpa using d
    obtain⟨p',n',q',z,h2,h3,h4,h5,h6,h7⟩:=ih p (n+1) (q+1) (by lia) (hd.one w h1 d') ⟨by have:=he.1; lia,fun k k1 k2=>by
     rw [Nat.add_sub_cancel];by_cases e:k=n
     ·subst e; exact w.refl _
     ·exact w.trans _ _ _ (he.2 k (by lia) (by lia)) c'⟩
    exact⟨p',n',q',z,h2,h3,by lia,by lia,h6,h7⟩
theorem Dn.up{p:Array Nat}{n:Nat}(hn:n<=p.size)(h:Dn lt p n):Up lt (eg p 0 n) n:=by
 intro i j Bk Ll;rw [eU hn,eU hn,if_pos ⟨by lia,Ll⟩,if_pos ⟨by lia,by lia⟩];exact h _ _ (by lia) (by lia)
theorem xr(w:BA lt){p:Array Nat}{n nrem:Nat}(h1:1<=n)(hn:n<=nrem)(hs:nrem<=p.size)(h:Dn lt p n):∃ p' m,eW lt (C7 n nrem p)=(m,p')/\p'.Perm p/\p'.size=p.size/\n<=m/\m<=nrem/\Up lt p' m:=by
 obtain⟨a1,a2,a3,_⟩:=AJ (lt:=lt) (eg p 0 n) (nrem - n) n;refine⟨eg p 0 n,eW lt (lW (eg p 0 n) (nrem - n) n),by rw [C7,jd]; rfl,gN _ _ _,jo _ _ _,a1,by lia,?_⟩;exact(h.up (by lia)).more w h1 a3
theorem oO(w:BA lt){p:Array Nat}{n nrem:Nat}(h1:1<=n)(hn:n < nrem)(hs:nrem<=p.size)(h:Dn lt p n)(hc:lt (gA p (n - 1)) (gA p n)=false) :
  ∃ p' m,eW lt (rH n nrem p)=(m,p')/\p'.Perm p/\p'.size=p.size/\n<=m/\m<=nrem/\Up lt p' m:=by
 obtain⟨p1,n1,q1,z,z2,z3,z4,z5,z6,z7⟩:=DL w (nrem - (n+1)) p (n+1) 0 (by lia) (h.one w h1 hc) ⟨by lia,fun k k1 k2=>by
  have:k=n:=by lia
  subst this; exact w.refl _⟩
 rw [rH,jd,z];show ∃ p' m,eW lt (if q1 > 0 then C7 n1 nrem (eg p1 (n1 - (q1+1)) n1) else C7 n1 nrem p1)=(m,p')/\_;by_cases hq:q1 > 0
 ·rw [if_pos hq];obtain⟨p',m,y1,y2,y3,y4,y5,y6⟩:=xr (nrem:=nrem) w (p:=eg p1 (n1 - (q1+1)) n1) (by lia) (by lia) (by rw [jo]; lia) (z6.rev w (by lia) z7.2);exact⟨p',m,y1,(y2.trans (gN _ _ _)).trans z2,(y3.trans (jo _ _ _)).trans z3,by lia,y5,y6⟩
 ·rw [if_neg hq];obtain⟨p',m,y1,y2,y3,y4,y5,y6⟩:=xr (nrem:=nrem) w (p:=p1) (by lia) (by lia) (by lia) z6;exact⟨p',m,y1,y2.trans z2,y3.trans z3,by lia,y5,y6⟩
theorem BQ(w:BA lt){p:Array Nat}{nrem:Nat}(h1:1<=nrem)(hs:nrem<=p.size):∃ p' m,eW lt (kas_count nrem p)=(m,p')/\p'.Perm p/\p'.size=p.size/\1<=m/\m<=nrem/\Up lt p' m:=by
 obtain⟨a1,a2,a3,a4⟩:=AJ (lt:=lt) p (nrem - 1) 1;rw [kas_count,jd];generalize eW lt (lW p (nrem - 1) 1)=n at a1 a2 a3 a4;have u1:Up lt p 1:=fun i j Bk hj=>by
  have:i=j:=by lia
  subst this; exact w.refl _
 have up:Up lt p n:=u1.more w (aF _) a3;by_cases e:n=nrem
 ·subst e;rw [if_pos (by simp)];exact⟨p,n,rfl,jD _,rfl,a1,aF _,up⟩
 ·rw [if_neg (by simpa using e)];have hb:=a4 (by lia);by_cases h2:n > 1
  ·rw [if_pos h2];show ∃ p' m,eW lt (if lt (gA p 0) (gA p (n - 1))=true then pS (n,p) else rH n nrem (eg p 0 n))=(m,p')/\_;by_cases c:lt (gA p 0) (gA p (n - 1))=true
   ·rw [if_pos c];exact⟨p,n,rfl,jD _,rfl,a1,by lia,up⟩
   ·rw [if_neg c];have c':lt (gA p 0) (gA p (n - 1))=false:=by simpa using c
    have all:∀ i j,i < n->j < n->lt (gA p i) (gA p j)=false:=fun i j hi hj =>
     w.trans _ _ _ (w.trans _ _ _ (up j (n - 1) (by lia) (by lia)) c') (up 0 i (by lia) hi)
    have d1:Dn lt (eg p 0 n) n:=fun i j Bk hj=>by
     rw [eU (by lia),eU (by lia),if_pos ⟨by lia,by lia⟩,if_pos ⟨by lia,hj⟩];exact all _ _ (by lia) (by lia)
    have hl:lt (gA (eg p 0 n) (n - 1)) (gA (eg p 0 n) n)=false:=by
     rw [eU (by lia),eU (by lia),if_pos ⟨by lia,by lia⟩,if_neg (by lia)];exact w.trans _ _ _ (w.asymm _ _ hb) (all _ _ (by lia) (by lia))
    obtain⟨p',m,y1,y2,y3,y4,y5,y6⟩:=oO (nrem:=nrem) w (p:=eg p 0 n) a1 (by lia) (by rw [jo]; lia) d1 hl;exact⟨p',m,y1,y2.trans (gN _ _ _),y3.trans (jo _ _ _),by lia,y5,y6⟩
  ·rw [if_neg h2];have e1:n=1:=by lia
   subst e1;have d1:Dn lt p 1:=fun i j Bk hj=>by
    have:i=j:=by lia
    subst this; exact w.refl _
   obtain⟨p',m,y1,y2,y3,y4,y5,y6⟩:=oO (nrem:=nrem) w (p:=p) (aF _) (by lia) hs d1 (w.asymm _ _ hb);exact⟨p',m,y1,y2,y3,by lia,y5,y6⟩
theorem BP(w:BA lt){p:Array Nat}{k:Nat}:∀ (f l r:Nat),l<=r->r<=k->r - l<=f->Up lt p k->(∀ i,i < l->lt (gA p k) (gA p i)=false)->(∀ i,r<=i->i < k->lt (gA p k) (gA p i)=true) ->
  ∃ m,eW lt (gG p k f l r)=m/\m<=k/\(∀ i,i < m->lt (gA p k) (gA p i)=false)/\(∀ i,m<=i->i < k->lt (gA p k) (gA p i)=true):=by
 intro f;induction f with
 | zero =>
  intro l r RF Ml hf up h1 h2;have:l=r:=by lia
  subst this;exact⟨l,rfl,Ml,h1,h2⟩
 | succ f ih =>
  intro l r RF Ml hf up h1 h2;have e:eW lt (gG p k (f+1) l r)=if l>=r then l else if lt (gA p k) (gA p ((l+r) / 2))=true then eW lt (gG p k f l ((l+r) / 2)) else eW lt (gG p k f ((l+r) / 2+1) r):=by
   show eW lt (if l>=r then pS l else .ask (gA p k) (gA p ((l+r) / 2)) fun c=>if c=true then gG p k f l ((l+r) / 2) else gG p k f ((l+r) / 2+1) r)=_;split
   ·rfl
   ·show eW lt (if lt (gA p k) (gA p ((l+r) / 2))=true then gG p k f l ((l+r) / 2) else gG p k f ((l+r) / 2+1) r)=_;split <;> rfl
  rw [e];by_cases c:l>=r
  ·rw [if_pos c];have:l=r:=by lia
   subst this;exact⟨l,rfl,Ml,h1,h2⟩
  ·rw [if_neg c];by_cases d:lt (gA p k) (gA p ((l+r) / 2))=true
   ·rw [if_pos d];refine ih l ((l+r) / 2) (by lia) (by lia) (by lia) up h1 fun i i1 i2=>?_;cases q:lt (gA p k) (gA p i) with
    | true=>rfl
    | false=>rw [w.trans _ _ _ (up ((l+r) / 2) i i1 i2) q] at d; cases d
   ·rw [if_neg d];refine ih ((l+r) / 2+1) r (by lia) Ml (by lia) up (fun i hi=>?_) h2;exact w.trans _ _ _ (up i ((l+r) / 2) (by lia) (by lia)) (by simpa using d)
theorem ve{p:Array Nat}{src d:Nat}(hs:src < p.size)(hd:d<=src)(k:Nat):gA (bubble p src d) k=if k=src - d then gA p src else if src - d < k/\k<=src then gA p (k - 1) else gA p k:=by
 rw [vd,getElem?_bubble hs d hd,vd p src,vd p (k - 1),vd p k];by_cases h1:k=src - d
 ·rw [if_pos h1,if_pos h1]
 ·rw [if_neg h1,if_neg h1];by_cases h2:src - d < k/\k<=src
  ·rw [if_pos h2,if_pos h2]
  ·rw [if_neg h2,if_neg h2]
theorem Gm(w:BA lt):∀ (f:Nat) (p:Array Nat) (k:Nat),k+f<=p.size->Up lt p k->∃ p',eW lt (kas_bin f p k)=p'/\p'.Perm p/\p'.size=p.size/\Up lt p' (k+f):=by
 intro f;induction f with
 | zero=>intro p k _ up; exact⟨p,rfl,jD _,rfl,up⟩
 | succ f ih =>
  intro p k hs up;obtain⟨m,e,hm,h1,h2⟩:=BP w k 0 k (bJ _) (aF _) (aF _) up (fun i hi=>absurd hi (by lia)) (fun i i1 i2=>absurd i1 (by lia));have Qs:Up lt (bubble p k (k - m)) (k+1):=by
   intro i j Bk hj;rw [ve (by lia) (by lia),ve (by lia) (by lia)];have ek:k - (k - m)=m:=by lia
   rw [ek];by_cases j1:j=m
   ·rw [if_pos j1];by_cases i1:i=m
    ·rw [if_pos i1]; exact w.refl _
    ·rw [if_neg i1,if_neg (by lia)]; exact h1 i (by lia)
   ·rw [if_neg j1];by_cases j2:m < j/\j<=k
    ·rw [if_pos j2];by_cases i1:i=m
     ·rw [if_pos i1]; exact w.asymm _ _ (h2 (j - 1) (by lia) (by lia))
     ·rw [if_neg i1];by_cases i2:m < i/\i<=k
      ·rw [if_pos i2]; exact up _ _ (by lia) (by lia)
      ·rw [if_neg i2]; exact up _ _ (by lia) (by lia)
    ·rw [if_neg j2,if_neg (by lia),if_neg (by lia)]; exact up _ _ Bk (by lia)
  obtain⟨p',z,z1,z2,z3⟩:=ih (bubble p k (k - m)) (k+1) (by rw [bubble_size]; lia) Qs;refine⟨p',?_,z1.trans (bubble_perm _ _ _),z2.trans (bubble_size _ _ _),by rw [show k+(f+1)=k+1+f by lia]; exact z3⟩;rw [kas_bin,jd,e]; exact z
theorem xt(w:BA lt){n:Nat}(h1:1<=n):∃ p,eW lt (kas_sort n)=p/\p.toList.Perm (bK n)/\p.size=n/\Up lt p n:=by
 obtain⟨p,m,z,z1,z2,z3,z4,z5⟩:=BQ w (p:=(bK n).toArray) h1 (by simp);have zs:p.size=n:=by rw [z2]; simp
 have zp:p.toList.Perm (bK n):=by simpa using z1.toList
 rw [kas_sort,jd,z];show ∃ q,eW lt (if m < n then kas_bin (n - max m 1) p (max m 1) else .ret p)=q/\_;by_cases c:m < n
 ·rw [if_pos c];have em:max m 1=m:=by lia
  rw [em];obtain⟨p',y,y1,y2,y3⟩:=Gm w (n - m) p m (by lia) z5;exact⟨p',y,(by simpa using y1.toList:p'.toList.Perm p.toList).trans zp,y2.trans zs,by rw [show n=m+(n - m) by lia]; exact y3⟩
 ·rw [if_neg c];have:m=n:=by lia
  subst this;exact⟨p,rfl,zp,zs,z5⟩
end
end K2
end
section
namespace K2
open PySem PySem.Spec PyProof.Rows L2
open PySem.AutoSeq1 (wpAny_loadPart')
open PySem.MeetsSeq PySem.MeetsSeq2 PySem.MeetsSeq3 PySem.SeqAt
noncomputable def qY(A:bW)(s:ak)(y x:Value)(b:Bool):Prop :=
 ∀ (prog:bf) (w:World) (E:Value->ak->Prop) (Q:Value->ak->Prop),Q (.bool b) s->wpAny (model prog w) A (jW .Lt y x) Q E s
noncomputable def nI(e l:Nat->Bool)(n m:Nat):Nat->Nat->Bool
 | 0,_=>decide (n < m)
 | f+1,i=>if e i=true then nI e l n m f (i+1) else l i
theorem Ha(l b:Addr)(xs ys:Array Value)(n m:Nat)(dd de:Option Addr)(sl sm:Array (Option Value))(e lt:Nat->Bool)(k:Nat) :
  ∀ i:Nat,i<=min xs.size ys.size->min xs.size ys.size - i=k->Meets (Builtin.«list.__eq__.loop» ⟨[.ref l,.ref b,fM i,fM 0],[]⟩)
   (fun A R s=>s.heap.get? l=some { cls:=.type "list",dict:=dd,data:=.seq xs n,slots:=sl }/\s.heap.get? b=some { cls:=.type "list",dict:=de,data:=.seq ys m,slots:=sm } /\
    (∀ j (h1:j < xs.size) (h2:j < ys.size),EqAt A.in1 s xs[j] ys[j] (e j)/\qY A.in1 s xs[j] ys[j] (lt j)) /\
    R (.ok (.ret (.bool (nI e lt xs.size ys.size k i)))) s):=by
 induction k with
 | zero =>
  intro i hi hk prog w A R s h;obtain⟨hp,g,d,tk,os⟩:=s;obtain⟨hl,hb,he,h⟩:=h
  wp_walk using bo hl,bo hb
  by_cases c:xs.size<=ys.size
  ·have h1:xs[((i:Nat):Int).toNat]?=none:=by simp; lia
   rw [h1]
   wp_walk using bo hl,bo hb
   exact h
  ·have h2:ys[((i:Nat):Int).toNat]?=none:=by simp; lia
   rw [h2];cases q:xs[((i:Nat):Int).toNat]? with
   | none =>
    wp_walk using bo hl,bo hb
    exact h
   | some v =>
    wp_walk using bo hl,bo hb
    exact h
 | succ k ih =>
  intro i hi hk prog w A R s h;obtain⟨hp,g,d,tk,os⟩:=s;obtain⟨hl,hb,he,h⟩:=h
  wp_walk using bo hl,bo hb
  have l1:i < xs.size:=by lia
  have l2:i < ys.size:=by lia
  have h1:xs[((i:Nat):Int).toNat]?=some xs[i]:=by simp [l1]
  have h2:ys[((i:Nat):Int).toNat]?=some ys[i]:=by simp [l2]
  have hc:((i:Int)+1)=((i+1:Nat):Int):=by push_cast; rfl
  rw [h1,h2];refine ae ((he i l1 l2).1 prog w _ _ ?_);cases q:e i with
  | true =>
   rw [nI,q,if_pos rfl] at h
   wp_walk
   rw [hc];exact⟨eG plain_eq_loop _,e9 entry_eq_loop (by
    rw [cQ plain_eq_loop _];exact ih (i+1) (by lia) (by lia) prog w A R _ ⟨hl,hb,he,h⟩)⟩
  | false =>
   rw [nI,q,if_neg (by simp)] at h
   wp_walk using bo hl,bo hb
   rw [h1,h2];have Lb:=(he i l1 l2).2 prog w
   wp_walk using Lb
   exact h
theorem u3(l b:Addr)(xs ys:Array Value)(n m:Nat)(dd de:Option Addr)(sl sm:Array (Option Value))(e lt:Nat->Bool) :
  Meets (Builtin.«list.__lt__» ⟨[.ref l,.ref b],[]⟩)
   (fun A R s=>s.heap.get? l=some { cls:=.type "list",dict:=dd,data:=.seq xs n,slots:=sl }/\s.heap.get? b=some { cls:=.type "list",dict:=de,data:=.seq ys m,slots:=sm } /\
    (∀ j (h1:j < xs.size) (h2:j < ys.size),EqAt A.in1 s xs[j] ys[j] (e j)/\qY A.in1 s xs[j] ys[j] (lt j)) /\
    R (.ok (.ret (.bool (nI e lt xs.size ys.size (min xs.size ys.size) 0)))) s):=by
 intro prog w A R s h;obtain⟨hp,g,d,tk,os⟩:=s;obtain⟨hl,hb,he,h⟩:=h;have f3:=y0
 wp_walk using bo hl,bo hb
 exact⟨eG plain_eq_loop _,e9 entry_eq_loop (by
  rw [cQ plain_eq_loop _];exact Ha l b xs ys n m dd de sl sm e lt _ 0 (bJ _) rfl prog w A R _ ⟨hl,hb,he,h⟩)⟩
theorem rO(l b:Addr)(xs ys:Array Value)(n m:Nat)(dd de:Option Addr)(sl sm:Array (Option Value))(e lt:Nat->Bool) :
  Meets (Builtin.«tuple.__lt__» ⟨[.ref l,.ref b],[]⟩)
   (fun A R s=>s.heap.get? l=some { cls:=.type "tuple",dict:=dd,data:=.seq xs n,slots:=sl }/\s.heap.get? b=some { cls:=.type "tuple",dict:=de,data:=.seq ys m,slots:=sm } /\
    (∀ j (h1:j < xs.size) (h2:j < ys.size),EqAt A.in1 s xs[j] ys[j] (e j)/\qY A.in1 s xs[j] ys[j] (lt j)) /\
    R (.ok (.ret (.bool (nI e lt xs.size ys.size (min xs.size ys.size) 0)))) s) :=
 .of_wp fun prog w A R s h=>by
  obtain⟨hp,g,d,tk,os⟩:=s;obtain⟨hl,hb,he,h⟩:=h;have f2:=lq;have zl:(xs.toList.zip ys.toList).length=min xs.size ys.size:=by simp
  wp_walk using bo hl,bo hb,wpAny_forIn_list _ (fun rest c s'=>c.1=none/\s'=⟨hp,g,d,tk,os⟩/\∃ i,i<=min xs.size ys.size/\rest=(xs.toList.zip ys.toList).drop i /\
   R (.ok (.ret (.bool (nI e lt xs.size ys.size (min xs.size ys.size - i) i)))) ⟨hp,g,d,tk,os⟩) _
  case turn =>
   rintro⟨y,x⟩ rest c s' ⟨hc,rfl,i,hi,hz,hR⟩;have il:i < min xs.size ys.size:=by
    have:=congrArg du hz;rw [cU,zl,ao] at this;lia
   have l1:i < xs.size:=by lia
   have l2:i < ys.size:=by lia
   rw [cD (by rw [zl]; exact il)] at hz;injection hz with NZ ED
   have ey:y=xs[i]/\x=ys[i]:=by simpa using NZ
   obtain⟨rfl,rfl⟩:=ey;obtain⟨k,ek⟩:∃ k,min xs.size ys.size - i=k+1:=⟨min xs.size ys.size - i - 1,by lia⟩;rw [ek,nI] at hR;refine ae ((he i l1 l2).1 prog w _ _ ?_);cases q:e i with
   | true =>
    rw [q,if_pos rfl] at hR
    wp_walk
    exact⟨rfl,rfl,i+1,by lia,ED,by rw [show min xs.size ys.size - (i+1)=k by lia]; exact hR⟩
   | false =>
    rw [q,if_neg (by simp)] at hR;have Lb:=(he i l1 l2).2 prog w
    wp_walk using Lb
    exact⟨_,rfl,by simpa using hR⟩
  case fin =>
   rintro⟨c1,c2⟩ s' ⟨hc,rfl,i,hi,hz,hR⟩;simp only at hc;subst hc;have il:min xs.size ys.size - i=0:=by
    have:=congrArg du hz;rw [cU,zl,av] at this;lia
   rw [il,nI] at hR
   wp_walk
   exact⟨_,rfl,by simpa [oE] using hR⟩
  case h =>
   exact⟨rfl,rfl,0,bJ _,rfl,by simpa using h⟩
theorem B0{A:bW}{s:ak}{l b:Addr}{xs ys:Array Value}{e lt:Nat->Bool}(hl:s.heap.IsList l xs)(hb:s.heap.IsList b ys)(hu:A.units < cLine)
  (he:∀ j (h1:j < xs.size) (h2:j < ys.size),EqAt A.in1 s xs[j] ys[j] (e j)/\qY A.in1 s xs[j] ys[j] (lt j)):qY A s (.ref l) (.ref b) (nI e lt xs.size ys.size (min xs.size ys.size) 0):=by
 intro prog w E Q hq;obtain⟨⟨cls,dd,data,sl⟩,ho,hc,n,hd⟩:=id hl;obtain⟨⟨Fc,w5,data2,AH⟩,u7,sN,n2,hd2⟩:=id hb;simp only at hc hd sN hd2;subst hc hd sN hd2;exact qK (op:=.Lt) ⟨_,ho,rfl⟩ ⟨_,u7,rfl⟩ oB BE (As _ _) (u3 l b xs ys n n2 dd w5 sl AH e lt)
  ⟨ho,u7,he,(fun x=>nomatch x),hq⟩ hu
theorem zy{A:bW}{s:ak}{l b:Addr}{xs ys:Array Value}{e lt:Nat->Bool}(hl:s.heap.IsTuple l xs)(hb:s.heap.IsTuple b ys)(hu:A.units < cLine)
  (he:∀ j (h1:j < xs.size) (h2:j < ys.size),EqAt A.in1 s xs[j] ys[j] (e j)/\qY A.in1 s xs[j] ys[j] (lt j)):qY A s (.ref l) (.ref b) (nI e lt xs.size ys.size (min xs.size ys.size) 0):=by
 intro prog w E Q hq;obtain⟨⟨cls,dd,data,sl⟩,ho,hc,n,hd⟩:=id hl;obtain⟨⟨Fc,w5,data2,AH⟩,u7,sN,n2,hd2⟩:=id hb;simp only at hc hd sN hd2;subst hc hd sN hd2;exact qK (op:=.Lt) ⟨_,ho,rfl⟩ ⟨_,u7,rfl⟩ i4 nB (lZ _ _) (rO l b xs ys n n2 dd w5 sl AH e lt)
  ⟨ho,u7,he,(fun x=>nomatch x),hq⟩ hu
theorem kr(xs ys:List D):∀ (k i:Nat),i<=min xs.length ys.length->min xs.length ys.length - i=k ->
  nI (fun j=>fy (xs.getD j .bX) (ys.getD j .bX)) (fun j=>iY (xs.getD j .bX) (ys.getD j .bX)) xs.length ys.length k i=jH (xs.drop i) (ys.drop i)
 | 0,i,hi,hk=>by
  rw [nI];by_cases c:xs.length<=ys.length
  ·have e1:xs.drop i=[]:=i5 (by lia);rw [e1];cases q:ys.drop i with
   | nil =>
    have:=congrArg du q;rw [cU,av] at this;exact decide_eq_false (by lia)
   | cons y r =>
    have:=congrArg du q;rw [cU,ao] at this;exact decide_eq_true (by lia)
  ·have e1:ys.drop i=[]:=i5 (by lia);rw [e1];cases q:xs.drop i with
   | nil =>
    have:=congrArg du q;rw [cU,av] at this;exact decide_eq_false (by lia)
   | cons y r=>exact decide_eq_false (by lia)
 | k+1,i,hi,hk=>by
  have l1:i < xs.length:=by lia
  have l2:i < ys.length:=by lia
  rw [nI,cD l1,cD l2,kU,kr xs ys k (i+1) (by lia) (by lia)];have g1:xs.getD i .bX=xs[i]:=by rw [aI,ai l1]; rfl
  have g2:ys.getD i .bX=ys[i]:=by rw [aI,ai l2]; rfl
  rw [g1,g2]
theorem gO{h:Heap}:∀ {ds:List D} {vs:List Value} {as:List Addr},eB h vs (iX ds) as->∀ j (hj:j < vs.length),∃ bs,Reads h vs[j] (pd (ds.getD j .bX)) bs
 | [],vs,as,r,j,hj=>by cases r; exact absurd hj (gc _)
 | d :: ds,_,_,.cons (v:=v) (vs:=vs) r1 r2,j,hj=>by
  cases j with
  | zero=>exact⟨_,r1⟩
  | succ j=>exact gO r2 j (by simpa using hj)
theorem readsAll_len{h:Heap}:∀ {ds:List D} {vs:List Value} {as:List Addr},eB h vs (iX ds) as->vs.length=ds.length
 | [],_,_,r=>by cases r; rfl
 | d :: ds,_,_,.cons r1 r2=>by rw [ao,ao,readsAll_len r2]
theorem kR:∀ {ds:List D},lA ds=true->∀ j,nr (ds.getD j .bX)=true
 | [],_,j=>by rw [List.getD_nil]; rfl
 | d :: ds,h,0=>by
  have h:(nr d&&lA ds)=true:=h;rw [aA] at h; simpa using h.1
 | d :: ds,h,j+1=>by
  have h:(nr d&&lA ds)=true:=h;rw [aA] at h; simpa using kR h.2 j
theorem iH:∀ (ds:List D) (j:Nat),(pd (ds.getD j .bX)).depth<=bq (iX ds)
 | [],j=>by rw [List.getD_nil]; exact aF _
 | d :: ds,0=>by
  show (pd d).depth<=bq (pd d :: iX ds);simp only [bq]; lia
 | d :: ds,j+1=>by
  have:=iH ds j;show (pd (ds.getD j .bX)).depth<=bq (pd d :: iX ds);simp only [bq]; lia
theorem mI:∀ {l:List jA} {ds:List D},c9 l ds=true->∀ j,j < ds.length->∃ s∈l,bD s (ds.getD j .bX)=true/\l[j]?=some s
 | [],[],_,j,hj=>absurd hj (gc _)
 | [],_ :: _,h,_,_=>by cases h
 | _ :: _,[],h,_,_=>by cases h
 | s :: l,d :: ds,h,0,_=>by
  have h:(bD s d&&c9 l ds)=true:=h;rw [aA] at h;exact⟨s,by simp,by simpa using h.1,by simp⟩
 | s :: l,d :: ds,h,j+1,hj=>by
  have h:(bD s d&&c9 l ds)=true:=h;rw [aA] at h;obtain⟨s',h1,h2,h3⟩:=mI h.2 j (by simpa using hj);exact⟨s',aw _ h1,by simpa using h2,by simpa using h3⟩
theorem mJ:∀ {s:jA} {ds:List D},eA s ds=true->∀ j,j < ds.length->bD s (ds.getD j .bX)=true
 | s,[],_,j,hj=>absurd hj (gc _)
 | s,d :: ds,h,0,_=>by
  have h:(bD s d&&eA s ds)=true:=h;rw [aA] at h; simpa using h.1
 | s,d :: ds,h,j+1,hj=>by
  have h:(bD s d&&eA s ds)=true:=h;rw [aA] at h; simpa using mJ h.2 j (by simpa using hj)
theorem wz{A:bW}{s:ak}{xs ys:List D}{vs ws:Array Value}{as bs:List Addr}(r1:eB s.heap vs.toList (iX xs) as)(r2:eB s.heap ws.toList (iX ys) bs)(n1:lA xs=true)(n2:lA ys=true)
  (hu:A.units+bq (iX xs) < cLine) (j:Nat) (h1:j < vs.size) (h2:j < ws.size):EqAt A s vs[j] ws[j] (fy (xs.getD j .bX) (ys.getD j .bX)):=by
 obtain⟨LS,q1⟩:=gO r1 j (by simpa using h1);obtain⟨LO,q2⟩:=gO r2 j (by simpa using h2);have m1:=kR n1 j;have m2:=kR n2 j;have dp:=iH xs j;have:=eqAt_reads (pd (xs.getD j .bX)) (pd (ys.getD j .bX)) A s _ _ _ _ q1 q2 (gR _ m1) (gR _ m2) (by lia);rw [oa _ _ m1 m2] at this;simpa using this
theorem kW:∀ (n:Nat) (sh:jA) (a b:D) (A:bW) (s:ak) (u v:Value) (as bs:List Addr),(pd a).depth<=n->bD sh a=true->bD sh b=true->nr a=true->nr b=true->Reads s.heap u (pd a) as->Reads s.heap v (pd b) bs->A.units+n < cLine->qY A s u v (iY a b):=by
 intro n;induction n using Nat.strongRecOn with
 | _ n ih =>
 intro sh a b A s u v as bs hn h1 h2 n1 n2 r1 r2 hu;cases sh with
 | int =>
  first | obtain⟨_,rfl⟩:=ck h1 | obtain⟨_,rfl⟩:=cg h1 | obtain⟨_,rfl⟩:=cj h1
  first | obtain⟨_,rfl⟩:=ck h2 | obtain⟨_,rfl⟩:=cg h2 | obtain⟨_,rfl⟩:=cj h2
  cases r1; cases r2;intro prog w E Q hq;exact HT.r8 A s _ _ _ _ prog w E Q hq
 | tup l =>
  first | obtain⟨_,rfl⟩:=ck h1 | obtain⟨_,rfl⟩:=cg h1 | obtain⟨_,rfl⟩:=cj h1
  first | obtain⟨_,rfl⟩:=ck h2 | obtain⟨_,rfl⟩:=cg h2 | obtain⟨_,rfl⟩:=cj h2
  rename_i xs ys;have n1:lA xs=true:=n1;have n2:lA ys=true:=n2;cases r1 with
  | tuple k1 k2 k3 k4 =>
   cases r2 with
   | tuple m1 m2 m3 m4 =>
    rename_i p o vs c p' o' ws c';have hd:(pd (.tup xs)).depth=bq (iX xs)+1:=rfl;obtain⟨n',rfl⟩:∃ n',n=n'+1:=⟨n - 1,by lia⟩;have z1:=readsAll_len k4;have z2:=readsAll_len m4;have e1:vs.size=xs.length:=by simpa using z1
    have e2:ws.size=ys.length:=by simpa using z2
    have base:=zy (A:=A) (s:=s) (e:=fun j=>fy (xs.getD j .bX) (ys.getD j .bX)) (lt:=fun j=>iY (xs.getD j .bX) (ys.getD j .bX)) ⟨_,k1,k2,_,k3⟩ ⟨_,m1,m2,_,m3⟩ (by lia) (fun j j1 j2=>by
     refine⟨wz k4 m4 n1 n2 (by show A.units+1+_ < _; lia) j j1 j2,?_⟩;obtain⟨LS,q1⟩:=gO k4 j (by simpa using j1);obtain⟨LO,q2⟩:=gO m4 j (by simpa using j2);obtain⟨sj,Rx,g1,g2⟩:=mI (l:=l) (ds:=xs) h1 j (by lia);obtain⟨QC,Of,OR,LD⟩:=mI (l:=l) (ds:=ys) h2 j (by lia);rw [g2] at LD; cases LD;have dp:=iH xs j;have:=ih n' (by lia) sj (xs.getD j .bX) (ys.getD j .bX) A.in1 s _ _ _ _ (by lia) g1 OR (kR n1 j) (kR n2 j) q1 q2 (by show A.units+1+n' < cLine; lia);simpa using this)
    have fin:=kr xs ys (min xs.length ys.length) 0 (bJ _) rfl;rw [e1,e2,fin] at base;exact base
 | lst l =>
  first | obtain⟨_,rfl⟩:=ck h1 | obtain⟨_,rfl⟩:=cg h1 | obtain⟨_,rfl⟩:=cj h1
  first | obtain⟨_,rfl⟩:=ck h2 | obtain⟨_,rfl⟩:=cg h2 | obtain⟨_,rfl⟩:=cj h2
  rename_i xs ys;have n1:lA xs=true:=n1;have n2:lA ys=true:=n2;cases r1 with
  | list k1 k2 k3 k4 =>
   cases r2 with
   | list m1 m2 m3 m4 =>
    rename_i p o vs c p' LS o' ws c' LO;have hd:(pd (.cO xs)).depth=bq (iX xs)+1:=rfl;obtain⟨n',rfl⟩:∃ n',n=n'+1:=⟨n - 1,by lia⟩;have z1:=readsAll_len k4;have z2:=readsAll_len m4;have e1:vs.size=xs.length:=by simpa using z1
    have e2:ws.size=ys.length:=by simpa using z2
    have base:=B0 (A:=A) (s:=s) (e:=fun j=>fy (xs.getD j .bX) (ys.getD j .bX)) (lt:=fun j=>iY (xs.getD j .bX) (ys.getD j .bX)) ⟨_,k1,k2,_,k3⟩ ⟨_,m1,m2,_,m3⟩ (by lia) (fun j j1 j2=>by
     refine⟨wz k4 m4 n1 n2 (by show A.units+1+_ < _; lia) j j1 j2,?_⟩;obtain⟨LS,q1⟩:=gO k4 j (by simpa using j1);obtain⟨LO,q2⟩:=gO m4 j (by simpa using j2);have dp:=iH xs j;have:=ih n' (by lia) l (xs.getD j .bX) (ys.getD j .bX) A.in1 s _ _ _ _ (by lia) (mJ (s:=l) (ds:=xs) h1 j (by lia)) (mJ (s:=l) (ds:=ys) h2 j (by lia)) (kR n1 j) (kR n2 j) q1 q2 (by show A.units+1+n' < cLine; lia);simpa using this)
    have fin:=kr xs ys (min xs.length ys.length) 0 (bJ _) rfl;rw [e1,e2,fin] at base;exact base
end K2
end
section
namespace K2
open PySem PySem.Spec PyProof.Rows L2 PySem.W
section
variable {prog:bf} {w:World} {A:bW} {E:Value->ak->Prop} {s:ak}
theorem xo {at':Addr} {its:List Value} {n:Nat} {P:PySem.Fin->ak->Prop} (FL:s.heap.get? at'=some (ji "list" its.toArray n)) (CT:its.length < 2)
  (done:P (.done (.ret .none)) { s with heap:=sortedHeap s.heap at' its its.toArray }):wpAny (model prog w) A (Builtin.«list.sort» ⟨[.ref at'],[]⟩) P E s:=by
 rw [list_sort_plain];have lt':at' < s.heap.objs.size:=aH FL;refine ae (listItems_at FL rfl (ae (listUpdate_at FL rfl ?_)));obtain⟨c,hc⟩:∃ c,(s.heap.update at' (da fun _=>#[])).get? at'=some (ji "list" #[] c):=⟨_,C9 FL (fun _=>#[])⟩;refine ae (seqEpoch_at hc rfl (ae (wpAny_newTuple (ae (wpAny_newList (cM ?_))))));have h6:(((s.heap.update at' (da fun _=>#[])).push (ji "tuple" its.toArray 0)).push (ji "list" #[] 0)).get? at'=some (ji "list" #[] c):=by
  rw [Heap.get?_push_ne _ _ _ (by rw [size_push',wV]; exact ba (nE lt')),Heap.get?_push_ne _ _ _ (by rw [wV]; exact ba lt')];exact hc
 show wpAny (model prog w) A _ P E { s with heap:=((s.heap.update at' (da fun _=>#[])).push (ji "tuple" its.toArray 0)).push (ji "list" #[] 0) };dsimp only;have Pe:its.toArray.size < 2:=by simpa using CT
 rw [if_pos Pe,if_pos Pe];refine ae (aq ?_);rw [StateT.run_pure];refine ae (aq ?_);dsimp only;have es:(its.toArray.zip its.toArray).map (·.2)=its.toArray:=by
  apply Array.toList_inj.mp;simp [List.map_snd_zip]
 refine ae (seqEpoch_at h6 rfl (ae (listUpdate_at h6 rfl ?_ (hsz2:=by rw [show (arrOf (SortSt.mk' general' (its.toArray.zip its.toArray) #[] 7 none)).map (·.2)=its.toArray from es,bM]; simp; lia))));simp only [bne_self_eq_false,aB,if_false];refine aq ?_;rw [show (arrOf (SortSt.mk' general' (its.toArray.zip its.toArray) #[] 7 none)).map (·.2)=its.toArray from es];exact done
theorem zh{l:Addr}{its:List Value}{Q:Value->ak->Prop}(hl:s.heap.IsList l its.toArray)(CT:its.length < 2)
  (done:Q (.ref (s.heap.objs.size+1)) { s with heap:=sortedAll s.heap its its.toArray }):wpAny (model prog w) A (call (.builtin "sorted") [.ref l]) Q E s:=by
 refine Calls.call_function_entry kind_sorted plain_sorted entry_sorted (args_sorted1 _) ?_;unfold Builtin.«sorted»;refine ae (m:=checkCount "sorted" 1 1 _) (aq (ae (collect_list hl (ae (wpAny_newList ?_)))));have e1:((s.heap.push (ji "list" #[] 0)).update s.heap.objs.size (da (·++its.toArray))).objs.size=s.heap.objs.size+1:=by rw [wV,size_push']
 have e2:(((s.heap.push (ji "list" #[] 0)).update s.heap.objs.size (da (·++its.toArray))).push (ji "list" its.toArray 0)).get? (s.heap.objs.size+1)=some (ji "list" its.toArray 0):=by
  rw [<-e1]; exact aR _ rfl
 show wpAny _ _ _ _ _ { s with heap:=((s.heap.push (ji "list" #[] 0)).update s.heap.objs.size (da (·++its.toArray))).push (ji "list" its.toArray 0) };rw [e1];refine ae (cM (c5 slot_list_sort ⟨_,e2,rfl⟩ entry_list_sort (xo e2 CT ⟨_,rfl,?_⟩) (args_list_sort _)));exact aq ⟨_,rfl,done⟩
end
section
open PySem.SeqAt
noncomputable def Fx(A:bW)(s:ak)(y x:Value)(b:Bool):Prop :=
 ∀ (prog:bf) (w:World) (E:Value->ak->Prop) (Q:Bool->ak->Prop),Q b s->wpAny (model prog w) A (oneLt' true y x) Q E s
theorem zq{A:bW}{s:ak}{l b:Addr}{xs ys:Array Value}{e lt:Nat->Bool}(hl:s.heap.IsList l xs)(hb:s.heap.IsList b ys)(hu:A.units < cLine)
  (he:∀ j (h1:j < xs.size) (h2:j < ys.size),EqAt A.in1 s xs[j] ys[j] (e j)/\qY A.in1 s xs[j] ys[j] (lt j)):Fx A s (.ref l) (.ref b) (nI e lt xs.size ys.size (min xs.size ys.size) 0):=by
 intro prog w E Q hq;obtain⟨⟨cls,dd,data,sl⟩,ho,hc,n,hd⟩:=id hl;obtain⟨⟨Fc,w5,data2,AH⟩,u7,sN,n2,hd2⟩:=id hb;simp only at hc hd sN hd2;subst hc hd sN hd2;rw [oneLt'_eq];simp only [if_true];refine ae (wpAny_cRoomFor hu (ae (Ah (T:="list") ⟨_,ho,rfl⟩ oB ?_)));exact tT oB ⟨_,ho,rfl⟩ BE (As _ _) (u3 l b xs ys n n2 dd w5 sl AH e lt) ⟨ho,u7,he,gZ hq⟩
theorem xH{A:bW}{s:ak}{l b:Addr}{xs ys:Array Value}{e lt:Nat->Bool}(hl:s.heap.IsTuple l xs)(hb:s.heap.IsTuple b ys)(hu:A.units < cLine)
  (he:∀ j (h1:j < xs.size) (h2:j < ys.size),EqAt A.in1 s xs[j] ys[j] (e j)/\qY A.in1 s xs[j] ys[j] (lt j)):Fx A s (.ref l) (.ref b) (nI e lt xs.size ys.size (min xs.size ys.size) 0):=by
 intro prog w E Q hq;obtain⟨⟨cls,dd,data,sl⟩,ho,hc,n,hd⟩:=id hl;obtain⟨⟨Fc,w5,data2,AH⟩,u7,sN,n2,hd2⟩:=id hb;simp only at hc hd sN hd2;subst hc hd sN hd2;rw [oneLt'_eq];simp only [if_true];refine ae (wpAny_cRoomFor hu (ae (Ah (T:="tuple") ⟨_,ho,rfl⟩ i4 ?_)));exact tT i4 ⟨_,ho,rfl⟩ nB (lZ _ _) (rO l b xs ys n n2 dd w5 sl AH e lt) ⟨ho,u7,he,gZ hq⟩
theorem xW{n:Nat}{A:bW}{s:ak}{xs ys:List D}{vs ws:Array Value}{as bs:List Addr}(r1:eB s.heap vs.toList (iX xs) as)(r2:eB s.heap ws.toList (iX ys) bs)(n1:lA xs=true)(n2:lA ys=true)(hd:bq (iX xs)<=n)
  (hu:A.units+n < cLine) (hs:∀ j,j < xs.length->j < ys.length->∃ sh,bD sh (xs.getD j .bX)=true/\bD sh (ys.getD j .bX)=true) (j:Nat) (h1:j < vs.size) (h2:j < ws.size) :
  EqAt A s vs[j] ws[j] (fy (xs.getD j .bX) (ys.getD j .bX))/\qY A s vs[j] ws[j] (iY (xs.getD j .bX) (ys.getD j .bX)):=by
 have z1:=readsAll_len r1;have z2:=readsAll_len r2;have e1:vs.size=xs.length:=by simpa using z1
 have e2:ws.size=ys.length:=by simpa using z2
 refine⟨wz r1 r2 n1 n2 (by lia) j h1 h2,?_⟩;obtain⟨LS,q1⟩:=gO r1 j (by simpa using h1);obtain⟨LO,q2⟩:=gO r2 j (by simpa using h2);obtain⟨sh,g1,g2⟩:=hs j (by lia) (by lia);have dp:=iH xs j;have:=kW n sh (xs.getD j .bX) (ys.getD j .bX) A s _ _ _ _ (by lia) g1 g2 (kR n1 j) (kR n2 j) q1 q2 hu;simpa using this
theorem mD{n:Nat}{sh:jA}{a b:D}{A:bW}{s:ak}{u v:Value}{as bs:List Addr}(hn:(pd a).depth<=n)(h1:bD sh a=true)(h2:bD sh b=true)(n1:nr a=true)(n2:nr b=true)(r1:Reads s.heap u (pd a) as)(r2:Reads s.heap v (pd b) bs)
  (hu:A.units+n < cLine):Fx A s u v (iY a b):=by
 cases sh with
 | int =>
  first | obtain⟨_,rfl⟩:=ck h1 | obtain⟨_,rfl⟩:=cg h1 | obtain⟨_,rfl⟩:=cj h1
  first | obtain⟨_,rfl⟩:=ck h2 | obtain⟨_,rfl⟩:=cg h2 | obtain⟨_,rfl⟩:=cj h2
  cases r1; cases r2;intro prog w E Q hq;exact oneLt_int hq
 | tup l =>
  first | obtain⟨_,rfl⟩:=ck h1 | obtain⟨_,rfl⟩:=cg h1 | obtain⟨_,rfl⟩:=cj h1
  first | obtain⟨_,rfl⟩:=ck h2 | obtain⟨_,rfl⟩:=cg h2 | obtain⟨_,rfl⟩:=cj h2
  rename_i xs ys;have n1:lA xs=true:=n1;have n2:lA ys=true:=n2;cases r1 with
  | tuple k1 k2 k3 k4 =>
   cases r2 with
   | tuple m1 m2 m3 m4 =>
    rename_i p o vs c p' o' ws c';have hd:(pd (.tup xs)).depth=bq (iX xs)+1:=rfl;obtain⟨n',rfl⟩:∃ n',n=n'+1:=⟨n - 1,by lia⟩;have z1:=readsAll_len k4;have z2:=readsAll_len m4;have e1:vs.size=xs.length:=by simpa using z1
    have e2:ws.size=ys.length:=by simpa using z2
    have base:=xH (A:=A) (s:=s) ⟨_,k1,k2,_,k3⟩ ⟨_,m1,m2,_,m3⟩ (by lia) (xW (A:=A.in1) (n:=n') k4 m4 n1 n2 (by lia) (by show A.units+1+n' < cLine; lia) fun j j1 j2=>by
     obtain⟨sj,Rx,g1,g2⟩:=mI (l:=l) (ds:=xs) h1 j j1;obtain⟨QC,Of,OR,LD⟩:=mI (l:=l) (ds:=ys) h2 j j2;rw [g2] at LD; cases LD;exact⟨sj,g1,OR⟩)
    have fin:=kr xs ys (min xs.length ys.length) 0 (bJ _) rfl;rw [e1,e2,fin] at base;exact base
 | lst l =>
  first | obtain⟨_,rfl⟩:=ck h1 | obtain⟨_,rfl⟩:=cg h1 | obtain⟨_,rfl⟩:=cj h1
  first | obtain⟨_,rfl⟩:=ck h2 | obtain⟨_,rfl⟩:=cg h2 | obtain⟨_,rfl⟩:=cj h2
  rename_i xs ys;have n1:lA xs=true:=n1;have n2:lA ys=true:=n2;cases r1 with
  | list k1 k2 k3 k4 =>
   cases r2 with
   | list m1 m2 m3 m4 =>
    rename_i p o vs c p' LS o' ws c' LO;have hd:(pd (.cO xs)).depth=bq (iX xs)+1:=rfl;obtain⟨n',rfl⟩:∃ n',n=n'+1:=⟨n - 1,by lia⟩;have z1:=readsAll_len k4;have z2:=readsAll_len m4;have e1:vs.size=xs.length:=by simpa using z1
    have e2:ws.size=ys.length:=by simpa using z2
    have base:=zq (A:=A) (s:=s) ⟨_,k1,k2,_,k3⟩ ⟨_,m1,m2,_,m3⟩ (by lia) (xW (A:=A.in1) (n:=n') k4 m4 n1 n2 (by lia) (by show A.units+1+n' < cLine; lia) fun j j1 j2=>⟨l,mJ (s:=l) (ds:=xs) h1 j j1,mJ (s:=l) (ds:=ys) h2 j j2⟩);have fin:=kr xs ys (min xs.length ys.length) 0 (bJ _) rfl;rw [e1,e2,fin] at base;exact base
theorem v8{prog:bf}{w:World}{A:bW}{s:ak}{b fin:Bool}{Q:Bool->ak->Prop}{n:Nat}(hu:A.units+n < cLine):∀ (l:List jA) (xs ys:List D) (vs ws:List Value) (as bs:List Addr) (i:Nat),c9 l xs=true->c9 l ys=true->lA xs=true->lA ys=true ->
  eB s.heap vs (iX xs) as->eB s.heap ws (iX ys) bs->bq (iX xs)<=n->fin=false->Q (jH xs ys) s->KatLex prog w A b fin Q (vs.zip ws) i s:=by
 intro l xs;induction xs generalizing l with
 | nil =>
  intro ys vs ws as bs i h1 h2 n1 n2 r1 r2 hd hf hq;cases r1;cases l with
  | nil =>
   cases ys with
   | nil=>cases r2; subst hf; exact hq
   | cons _ _=>cases h2
  | cons _ _=>cases h1
 | cons x xs ih =>
  intro ys vs ws as bs i h1 h2 n1 n2 r1 r2 hd hf hq;cases l with
  | nil=>cases h1
  | cons sh l =>
  cases ys with
  | nil=>cases h2
  | cons y ys =>
  cases r1 with
  | @cons v vs _ _ _ _ a1 a2 =>
  cases r2 with
  | @cons u ws _ _ _ _ b1 b2 =>
  have h1:(bD sh x&&c9 l xs)=true:=h1;have h2:(bD sh y&&c9 l ys)=true:=h2;have n1:(nr x&&lA xs)=true:=n1;have n2:(nr y&&lA ys)=true:=n2;rw [aA] at h1 h2 n1 n2;have Ls:(pd x).depth<=n/\bq (iX xs)<=n:=by
   have hd:bq (pd x :: iX xs)<=n:=hd;simp only [bq] at hd;lia
  show KatLex prog w A b fin Q ((v,u) :: vs.zip ws) i s;have eq:=eqAt_reads (pd x) (pd y) A s _ _ _ _ a1 b1 (gR _ n1.1) (gR _ n2.1) (by lia);rw [oa _ _ n1.1 n2.1] at eq;refine kat_cons (eq prog w _ _ ?_);rw [kU] at hq;cases q:fy x y with
  | true =>
   rw [q,if_pos rfl] at hq;exact kat_yes (ih l ys vs ws _ _ (i+1) h1.2 h2.2 n1.2 n2.2 a2 b2 Ls.2 hf hq)
  | false =>
   rw [q,if_neg (by simp)] at hq;refine kat_no ?_;cases c:(b&&i == 0) with
   | true=>exact mD Ls.1 h1.1 h2.1 n1.1 n2.1 a1 b1 hu prog w _ Q hq
   | false=>exact kat_one v u (kW n sh x y A s _ _ _ _ Ls.1 h1.1 h2.1 n1.1 n2.1 a1 b1 hu prog w _ _ hq)
end
noncomputable def iJ{α:Type}(n:Nat)(P:α->Prop):KasT α->Prop
 | .ret a=>P a
 | .ask i j k=>i < n/\j < n/\∀ b,iJ n P (k b)
theorem iJ.bind{α β:Type}{n:Nat}{P:α->Prop}{P':β->Prop}{f:α->KasT β}:∀ {t:KasT α},iJ n P t->(∀ a,P a->iJ n P' (f a))->iJ n P' (t.bind f)
 | .ret a,q,h=>h a q
 | .ask i j k,⟨q1,q2,q3⟩,h=>⟨q1,q2,fun b=>iJ.bind (q3 b) h⟩
theorem sH{α:Type}{n:Nat}{lt:Nat->Nat->Bool}{cmp:Nat->Nat->(Bool->ak->Prop)->ak->Prop}{s:ak}{Q:α->ak->Prop}(hc:∀ i j,i < n->j < n->∀ C:Bool->ak->Prop,C (lt i j) s->cmp i j C s) :
  ∀ (t:KasT α),iJ n (fun _=>True) t->Q (eW lt t) s->t.kasWp cmp Q s
 | .ret a,_,q=>q
 | .ask i j k,⟨h1,h2,h3⟩,q=>hc i j h1 h2 _ (sH hc (k (lt i j)) (h3 _) q)
noncomputable def Bd(n:Nat)(p:Array Nat):Prop:=0 < n/\∀ x∈p,x < n
theorem Bd.at{n:Nat}{p:Array Nat}(h:Bd n p)(k:Nat):p.getD k 0 < n:=by
 by_cases hk:k < p.size
 ·have:p.getD k 0=p[k]:=by simp [pP,hk]
  rw [this]; exact h.2 _ (Array.getElem_mem hk)
 ·have:p.getD k 0=0:=by simp [pP,hk]
  rw [this]; exact h.1
theorem Bd.perm{n:Nat}{p q:Array Nat}(h:Bd n p)(hp:q.Perm p):Bd n q:=⟨h.1,fun x hx=>h.2 x (hp.mem_iff.mp hx)⟩
theorem wK{n:Nat}{p:Array Nat}(h:Bd n p):∀ (f k:Nat),iJ n (fun _=>True) (lW p f k)
 | 0,k=>trivial
 | f+1,k=>⟨h.at _,h.at _,fun b=>by
  show iJ n _ (if b=true then pS k else lW p f (k+1));split
  ·trivial
  ·exact wK h f (k+1)⟩
theorem pI{n:Nat}:∀ (f:Nat) (p:Array Nat) (k q:Nat),Bd n p->iJ n (fun r=>Bd n r.1) (iK f p k q)
 | 0,p,k,q,h=>h
 | f+1,p,k,q,h=>⟨h.at _,h.at _,fun b=>by
  show iJ n _ (if b=true then (if q > 0 then iK f (eg p (k - (q+1)) k) (k+1) 0 else iK f p (k+1) 0) else .ask (p.getD (k - 1) 0) (p.getD k 0) fun d=>if d=true then .ret (p,k,q) else iK f p (k+1) (q+1));split
  ·split
   ·exact pI f _ _ _ (h.perm (gN _ _ _))
   ·exact pI f _ _ _ h
  ·refine⟨h.at _,h.at _,fun d=>?_⟩;show iJ n _ (if d=true then pS (p,k,q) else iK f p (k+1) (q+1));split
   ·exact h
   ·exact pI f _ _ _ h⟩
theorem yr{n:Nat}{p:Array Nat}(h:Bd n p)(k m:Nat):iJ n (fun r=>Bd n r.2) (C7 k m p) :=
 iJ.bind (wK (h.perm (gN _ _ _)) _ _) fun _ _=>h.perm (gN _ _ _)
theorem pH{n:Nat}{p:Array Nat}(h:Bd n p)(k m:Nat):iJ n (fun r=>Bd n r.2) (rH k m p) :=
 iJ.bind (pI _ _ _ _ h) fun r hr=>by
  split
  ·exact yr (hr.perm (gN _ _ _)) _ _
  ·exact yr hr _ _
theorem Cv{n:Nat}{p:Array Nat}(h:Bd n p)(m:Nat):iJ n (fun r=>Bd n r.2) (kas_count m p) :=
 iJ.bind (wK h _ _) fun k _=>by
  split
  ·exact h
  ·split
   ·refine⟨h.at _,h.at _,fun b=>?_⟩;show iJ n _ (if b=true then pS (k,p) else rH k m (eg p 0 k));split
    ·exact h
    ·exact pH (h.perm (gN _ _ _)) _ _
   ·exact pH h _ _
theorem qo{n:Nat}{p:Array Nat}(h:Bd n p)(k:Nat):∀ (f l r:Nat),iJ n (fun _=>True) (gG p k f l r)
 | 0,l,r=>trivial
 | f+1,l,r=>by
  show iJ n _ (if l>=r then pS l else .ask (p.getD k 0) (p.getD ((l+r) / 2) 0) fun c=>if c=true then gG p k f l ((l+r) / 2) else gG p k f ((l+r) / 2+1) r);split
  ·trivial
  ·refine⟨h.at _,h.at _,fun b=>?_⟩;show iJ n _ (if b=true then gG p k f l ((l+r) / 2) else gG p k f ((l+r) / 2+1) r);split
   ·exact qo h k f _ _
   ·exact qo h k f _ _
theorem Bx{n:Nat}:∀ (f:Nat) (p:Array Nat) (k:Nat),Bd n p->iJ n (fun _=>True) (kas_bin f p k)
 | 0,p,k,h=>trivial
 | f+1,p,k,h=>iJ.bind (qo h k _ _ _) fun l _=>Bx f _ _ (h.perm (bubble_perm _ _ _))
theorem yt{n:Nat}(h:0 < n):iJ n (fun _=>True) (kas_sort n) :=
 iJ.bind (Cv ⟨h,fun x hx=>by simpa using hx⟩ n) fun r hr=>by
  split
  ·exact Bx _ _ _ hr
  ·trivial
end K2
end
section
namespace K2
open PySem PySem.Spec PyProof.Rows L2 PySem.W
mutual
theorem mi{h h':Heap}(hk:∀ b o vs n,o.data=.seq vs n->h.get? b=some o->h'.get? b=some o):∀ (d:D) {v:Value} {as:List Addr},nr d=true->Reads h v (pd d) as->Reads h' v (pd d) as
 | .bX,_,_,_,r=>by cases r; exact .none
 | .bl b,_,_,_,r=>by cases r; exact .bool b
 | .int i,_,_,_,r=>by cases r; exact .int i _
 | .str x,_,_,_,r=>by cases r; exact .str x _
 | .tup ds,_,_,n,r=>by
  cases r with
  | tuple h1 h2 h3 h4=>exact .tuple (hk _ _ _ _ h3 h1) h2 h3 (jq hk ds n h4)
 | .cO ds,_,_,n,r=>by
  cases r with
  | list h1 h2 h3 h4=>exact .list (hk _ _ _ _ h3 h1) h2 h3 (jq hk ds n h4)
 | .iC _,_,_,n,_=>by cases n
 | .ref _,_,_,n,_=>by cases n
 | .exc _,_,_,n,_=>by cases n
theorem jq{h h':Heap}(hk:∀ b o vs n,o.data=.seq vs n->h.get? b=some o->h'.get? b=some o):∀ (ds:List D) {vs:List Value} {as:List Addr},lA ds=true->eB h vs (iX ds) as->eB h' vs (iX ds) as
 | [],_,_,_,r=>by cases r; exact .nil
 | d :: ds,_,_,n,r=>by
  have n:(nr d&&lA ds)=true:=n;rw [aA] at n;cases r with
  | cons r1 r2=>exact .cons (mi hk d n.1 r1) (jq hk ds n.2 r2)
end
mutual
theorem vH(G:Gp):∀ (sh:jA) (d:D) (n:Nat),bD sh d=true->Hm sh<=n->Sn G n d d
 | .int,.int i,n,_,_=>.int i
 | .tup l,.tup ds,n,h,hn=>by
  have hn:E2 l+1<=n:=hn;obtain⟨m,rfl⟩:∃ m,n=m+1:=⟨n - 1,by lia⟩;exact AE G l ds m h (by lia)
 | .lst s,.cO ds,n,h,hn=>by
  have hn:Hm s+1<=n:=hn;obtain⟨m,rfl⟩:∃ m,n=m+1:=⟨n - 1,by lia⟩;exact AF G s ds m h (by lia)
theorem AE(G:Gp):∀ (l:List jA) (ds:List D) (m:Nat),c9 l ds=true->E2 l<=m->Sn G (m+1) (.tup ds) (.tup ds)
 | [],[],m,_,_=>.zd
 | s :: l,d :: ds,m,h,hm=>by
  have h:(bD s d&&c9 l ds)=true:=h;have hm:max (Hm s) (E2 l)<=m:=hm;rw [aA] at h;exact .l8 (vH G s d m h.1 (by lia)) (AE G l ds m h.2 (by lia))
theorem AF(G:Gp):∀ (s:jA) (ds:List D) (m:Nat),eA s ds=true->Hm s<=m->Sn G (m+1) (.cO ds) (.cO ds)
 | s,[],m,_,_=>.DO
 | s,d :: ds,m,h,hm=>by
  have h:(bD s d&&eA s ds)=true:=h;rw [aA] at h;exact .xA (vH G s d m h.1 hm) (AF G s ds m h.2 hm)
end
theorem getD_at{α:Type}(xs:List α)(d:α){i:Nat}(h:i < xs.length):xs.getD i d=xs[i]:=by
 rw [aI,ai h]; rfl
theorem mF{α:Type}(xs:List α)(d:α):(bK xs.length).map (fun i=>xs.getD i d)=xs:=by
 refine List.ext_getElem (by simp) fun i h1 h2=>?_;rw [eh,lK];exact getD_at _ _ h2
theorem qu{h:Heap}{s1:jA}{l:List jA}:∀ (zs:List D) (vs:List Value),(∀ z∈zs,bD (.tup (s1 :: l)) z=true)->(∀ i,i < vs.length->∃ as,Reads h (vs.getD i .none) (pd (zs.getD i .bX)) as)->vs.length=zs.length ->
  ∃ fs,KatTups h vs fs/\fs.length=vs.length/\∀ f∈fs,∃ d as,bD s1 d=true/\Reads h f (pd d) as:=by
 intro zs;induction zs with
 | nil =>
  intro vs _ _ h;have:vs=[]:=List.length_eq_zero_iff.mp h;subst this;exact⟨[],trivial,rfl,fun _ h=>by cases h⟩
 | cons z zs ih =>
 intro vs hs hr hl;cases vs with
 | nil=>cases hl
 | cons v vs =>
  obtain⟨fs,h1,h2,h3⟩:=ih vs (fun z hz=>hs z (aw _ hz)) (fun i hi=>by
   obtain⟨as,r⟩:=hr (i+1) (by simpa using hi);exact⟨as,by simpa using r⟩) (by simpa using hl)
  obtain⟨as,r⟩:=hr 0 (by simp);have hz:=hs z (by simp);simp only [List.getD_cons_zero] at r;cases z <;> first | (cases hz; done) | skip
  rename_i ds;cases ds with
  | nil=>cases hz
  | cons d ds =>
   have hz:(bD s1 d&&c9 l ds)=true:=hz;rw [aA] at hz;cases r with
   | tuple k1 k2 k3 k4 =>
    rename_i p o ws c;have k5:eB h ws.toList (pd d :: iX ds) as:=k4;cases q:ws.toList with
    | nil=>rw [q] at k5; cases k5
    | cons f rest =>
     rw [q] at k5;cases k5 with
     | cons r1 r2 =>
      have hf:ws[0]?=some f:=by
       have:ws.toList[0]?=some f:=by rw [q]; rfl
       simpa using this
      refine⟨f :: fs,.cons k1 k2 k3 hf h1,by simp [h2],fun g hg=>?_⟩;rcases List.mem_cons.mp hg with rfl | hg
      ·exact⟨d,_,hz.1,r1⟩
      ·exact h3 g hg
noncomputable def xk:jA->Value
 | .int=>.type "int"
 | .tup _=>.type "tuple"
 | .lst _=>.type "list"
theorem ni{M:Model}{h:Heap}{sh:jA}{d:D}{v:Value}{as:List Addr}(hs:bD sh d=true)(r:Reads h v (pd d) as):Looks M h (typeOf v) (xk sh):=by
 cases sh with
 | int =>
  cases d <;> first | (cases hs; done) | skip
  cases r;exact .now
 | tup l =>
  cases d <;> first | (cases hs; done) | skip
  cases r with
  | tuple k1 k2 k3 k4 =>
   rename_i p o ws c;have:Looks M h (typeOf (.ref p)) o.cls:=(Looks.ld k1).andThen .now;rw [k2] at this; exact this
 | lst l =>
  cases d <;> first | (cases hs; done) | skip
  cases r with
  | list k1 k2 k3 k4 =>
   rename_i p o ws c as;have:Looks M h (typeOf (.ref p)) o.cls:=(Looks.ld k1).andThen .now;rw [k2] at this; exact this
theorem u4{prog:bf}{w:World}{A:bW}{s:ak}{E:Value->ak->Prop}{Q:Bool->ak->Prop}{n:Nat}{b:Bool}{l:List jA}{a c:D}{u v:Value}{as bs:List Addr}(hn:(pd a).depth<=n+1)(h1:bD (.tup l) a=true)(h2:bD (.tup l) c=true)(n1:nr a=true)(n2:nr c=true)
  (r1:Reads s.heap u (pd a) as) (r2:Reads s.heap v (pd c) bs) (hu:A.units+n < cLine) (hq:Q (iY a c) s):wpAny (model prog w) A (keyLt' (tuples' b) u v) Q E s:=by
 first | obtain⟨_,rfl⟩:=ck h1 | obtain⟨_,rfl⟩:=cg h1 | obtain⟨_,rfl⟩:=cj h1
 first | obtain⟨_,rfl⟩:=ck h2 | obtain⟨_,rfl⟩:=cg h2 | obtain⟨_,rfl⟩:=cj h2
 rename_i xs ys;cases r1 with
 | tuple k1 k2 k3 k4 =>
  cases r2 with
  | tuple m1 m2 m3 m4 =>
   rename_i p o vs c p' o' ws c';have z1:=readsAll_len k4;have z2:=readsAll_len m4;have e1:vs.size=xs.length:=by simpa using z1
   have e2:ws.size=ys.length:=by simpa using z2
   have el:∀ (l:List jA) (xs ys:List D),c9 l xs=true->c9 l ys=true->xs.length=ys.length:=by
    intro l;induction l with
    | nil =>
     intro xs ys h1 h2;cases xs with
     | nil=>cases ys with
      | nil=>rfl
      | cons _ _=>cases h2
     | cons _ _=>cases h1
    | cons s l ih =>
     intro xs ys h1 h2;cases xs with
     | nil=>cases h1
     | cons x xs =>
      cases ys with
      | nil=>cases h2
      | cons y ys =>
       have h1:(bD s x&&c9 l xs)=true:=h1;have h2:(bD s y&&c9 l ys)=true:=h2;rw [aA] at h1 h2;rw [ao,ao,ih xs ys h1.2 h2.2]
   have hd:(pd (.tup xs)).depth=bq (iX xs)+1:=rfl;refine kat_lt k1 k3 m1 m3 (v8 (n:=n) hu l xs ys _ _ _ _ 0 h1 h2 n1 n2 k4 m4 (by lia) (decide_eq_false (by rw [e1,e2,el l xs ys h1 h2]; lia)) hq)
section
variable {X:Cx}
theorem B1{x:D}{G:Gp}{zs:List D}(ty:wX x G)(hi:itemsOf x G=some zs):mG x G=some zs:=by
 cases x <;> first | exact ty.elim | exact hi
theorem wI (hc:X.calm=true) (hu:X.A.units+64 < cLine):lp X (.builtin "sorted") rD:=by
 intro pins s σ H G xs ds us Q I ab rx rd q;unfold rD at q;split at q
 ·rename_i x;obtain⟨sh,zs,ty,hi,EM,bY,ON,q⟩:=q;obtain⟨w1,rfl,Gk⟩:=rd.one;obtain⟨u,rfl,ru⟩:=rx.one;obtain⟨l,vs,its,rfl,rv,rs,hl,_⟩:=lj I ab ru Gk (B1 ty hi);have Mn:=rv.length;have Bj:=rs.length;have hsz:aY=16777216:=bM;have hz:∀ z∈zs,bD sh z=true:=fun z h=>List.all_eq_true.mp EM z h;by_cases CT:its.length < 2
  ·refine zh hl CT ?_;obtain⟨e,he⟩:=sortedAll_at s.heap its its.toArray;have hp:H (s.heap.objs.size+1)=none:=I.bY.fresh (rM _);have es:jn zs=zs:=i9 sh hz (.refl _) (by
    match zs,Bj,CT with
    | [],_,_=>exact .nil
    | [z],_,_=>exact CC _ _
    | _ :: _ :: _,h,f=>exact absurd f (by rw [<-Mn,h]; simp))
   rw [es] at q;refine⟨.ref (s.heap.objs.size+1),upd H (s.heap.objs.size+1) (.lst vs),.ref _,_,I.laid (t':=s.toks) (fun b o e=>sortedAll_old e) (rM _) ?_,.vX ab hp rs,rfl,.ref _,q _ (ab.free hp)⟩;exact⟨by lia,its,e,rv,he⟩
  ·obtain⟨m,F0⟩:=I.fr;have nz:0 < zs.length:=by lia
   have nL:∀ b o vs n,o.data=.seq vs n->s.heap.get? b=some o->b≠X.env.locals:=fun b o vs n e1 e2 z=>by
    obtain⟨o',es,ep,EE,x2,_⟩:=F0.ns;rw [z,EE] at e2; cases e2; rw [x2] at e1; cases e1
   unfold Eb at bY;rw [aA] at bY;have Oz:Hm sh<=7:=of_decide_eq_true bY.1;have sn:∀ z∈zs,Sn G 7 z z:=fun z h=>vH G sh z 7 (hz z h) Oz;refine kat_sorted F0 si hl (by lia) (by lia) fun Dd e1 h' F N ou=>?_;obtain⟨kk,ns⟩:=jg I F0 F fun p hp=>N p (aw _ hp);have rY:∀ i,i < its.length->∃ as,Reads h' (its.getD i .none) (pd (zs.getD i .bX)) as:=fun i hi=>by
    have i1:i < zs.length:=by lia
    have i2:i < vs.length:=by lia
    have g1:zs.getD i .bX=zs[i]:=getD_at _ _ i1;have g2:its.getD i .none=its[i]:=getD_at _ _ hi;obtain⟨v,hv,IJ⟩:=rs.get (ai i1);obtain⟨u,rq,IE⟩:=rv.get hv;rw [ai hi] at rq;cases rq;obtain⟨as,r⟩:=(dq I ab (sn _ (bu i1))).1 v _ IJ IE;rw [g1,g2];exact⟨as,mi (fun b o vs n e1 e2=>kk b o (nL b o vs n e1 e2) e2) _ (sn _ (bu i1)).nr r⟩
   have pY:∀ i,i < zs.length->bD sh (zs.getD i .bX)=true:=fun i hi=>by rw [getD_at _ _ hi]; exact hz _ (bu hi)
   have GV:∀ i,i < zs.length->nr (zs.getD i .bX)=true:=fun i hi=>by rw [getD_at _ _ hi]; exact(sn _ (bu hi)).nr
   have LH:∀ i,i < zs.length->(pd (zs.getD i .bX)).depth<=7:=fun i hi=>by rw [getD_at _ _ hi]; exact oh (sn _ (bu hi))
   let zz:Nat->D:=fun i=>if i < zs.length then zs.getD i .bX else zs.getD 0 .bX
   have Dp:∀ i,bD sh (zz i)=true:=fun i=>by
    show bD sh (if i < zs.length then zs.getD i .bX else zs.getD 0 .bX)=true;split
    ·exact pY i (by assumption)
    ·exact pY 0 nz
   let lt:Nat->Nat->Bool:=fun i j=>iY (zz i) (zz j)
   have M3:BA lt:=⟨fun i j h=>qe sh (Dp i) (Dp j) h,fun i j k h1 h2=>nZ sh (Dp i) (Dp j) (Dp k) h1 h2⟩;have K5:∀ i j,i < zs.length->j < zs.length->lt i j=iY (zs.getD i .bX) (zs.getD j .bX):=fun i j hi hj=>by
    show iY (if i < zs.length then _ else _) (if j < zs.length then _ else _)=_;rw [if_pos hi,if_pos hj]
   obtain⟨p,ep,mH,KL,Oc⟩:=xt M3 (n:=its.length) (by lia);have LA:X.A.in1.in1.units=X.A.units+2:=rfl;have ask:∀ κ:SortKind,(∀ i j,i < its.length->j < its.length->∀ C:Bool->ak->Prop,C (iY (zs.getD i .bX) (zs.getD j .bX)) { s with heap:=h' }->kas_ask X.prog X.w X.A.in1.in1 κ its i j C { s with heap:=h' }) ->
     (kas_sort its.length).kasWp (kas_ask X.prog X.w X.A.in1.in1 κ its) (fun p Gj=>KasFin X.base X.env.locals m Dd e1 (p.toList.map fun i=>its.getD i cH) (fun s3=>ny X pins σ H G Q (.ref Dd) s3) Gj) { s with heap:=h' }:=by
    intro κ hk;refine sH (lt:=lt) (n:=its.length) (fun i j i1 i2 C hC=>hk i j i1 i2 C (by rw [<-K5 i j (by lia) (by lia)]; exact hC)) _ (yt (by lia)) ?_;rw [ep];refine KasFin.intro (g:=fun o=>(Dd,o) :: lh X.base s.heap X.env.locals) F N (.head (fun q hq z=>absurd (ou q hq) (by rw [z]; exact cS _))) fun h2 c F2 N2=>?_;obtain⟨k2,NI⟩:=jg I F0 F2 fun p hp=>N2 p (aw _ hp);have hD:s.heap.get? Dd=none:=by
     have nD:=N _ a0;cases qd:s.heap.get? Dd with
     | none=>rfl
     | some o=>exact absurd (ou _ (jM nD.2.1 nD.2.2 qd)) (cS _)
    have hp:H Dd=none:=rB I.bY hD;have Na:Vals (p.toList.map fun i=>vs.getD i .bX) (p.toList.map fun i=>its.getD i cH):=by
     have:∀ (ps:List Nat),(∀ i∈ps,i < its.length)->Vals (ps.map fun i=>vs.getD i .bX) (ps.map fun i=>its.getD i cH):=by
      intro ps;induction ps with
      | nil=>intro _; exact .nil
      | cons i ps ih =>
       intro hh;have hi:=hh i (by simp);refine .cons ?_ (ih fun j hj=>hh j (aw _ hj));have i2:i < vs.length:=by lia
       obtain⟨u,rq,IE⟩:=rv.get (ai i2);rw [ai hi] at rq;cases rq;show RelV (vs.getD i .bX) (its.getD i .none);rw [getD_at _ _ i2,getD_at _ _ hi]; exact IE
     exact this _ fun i hi=>by simpa using mH.mem_iff.mp hi
    have Nc:aX X.K H (p.toList.map fun i=>vs.getD i .bX) (p.toList.map fun i=>zs.getD i .bX):=by
     have:∀ (ps:List Nat),(∀ i∈ps,i < its.length)->aX X.K H (ps.map fun i=>vs.getD i .bX) (ps.map fun i=>zs.getD i .bX):=by
      intro ps;induction ps with
      | nil=>intro _; exact .nil
      | cons i ps ih =>
       intro hh;have hi:=hh i (by simp);refine .cons ?_ (ih fun j hj=>hh j (aw _ hj));have i2:i < vs.length:=by lia
       have i1:i < zs.length:=by lia
       obtain⟨v,hv,r⟩:=rs.get (ai i1);rw [ai i2] at hv;cases hv;show bF X.K H (vs.getD i .bX) (zs.getD i .bX);rw [getD_at _ _ i2,getD_at _ _ i1]; exact r
     exact this _ fun i hi=>by simpa using mH.mem_iff.mp hi
    have es:jn zs=p.toList.map fun i=>zs.getD i .bX:=by
     refine i9 sh hz ?_ ?_
     ·have h1:(p.toList.map fun i=>zs.getD i .bX).Perm ((bK zs.length).map fun i=>zs.getD i .bX):=by
       have:its.length=zs.length:=by lia
       rw [<-this];exact mH.map _
      rw [mF] at h1;exact h1
     ·rw [uM,Au];intro i j hi hj Bk;have g1:gA p i=p.toList[i]:=by
       have:i < p.size:=by simpa using hi
       simp [gA,pP,this]
      have g2:gA p j=p.toList[j]:=by
       have:j < p.size:=by simpa using hj
       simp [gA,pP,this]
      have bi:p.toList[i] < its.length:=by simpa using mH.mem_iff.mp (bu hi)
      have bj:p.toList[j] < its.length:=by simpa using mH.mem_iff.mp (bu hj)
      have:=Oc i j (by lia) (by have:j < p.toList.length:=hj; rw [dF,KL] at this; exact this);rw [g1,g2,K5 _ _ (by lia) (by lia)] at this;exact this
    rw [es] at q;have ln:(p.toList.map fun i=>vs.getD i .bX).length<=aY:=by rw [ah,dF,KL]; lia
    refine⟨.ref Dd,upd H Dd (.lst (p.toList.map fun i=>vs.getD i .bX)),.ref _,_,Inv.A4 (t':=s.toks) I k2 NI hD ?_,.vX ab hp Nc,rfl,.ref _,q _ (ab.free hp)⟩;exact⟨ln,_,c,Na,(N2 _ a0).1⟩
   have gen:∀ i j,i < its.length->j < its.length->∀ C:Bool->ak->Prop,C (iY (zs.getD i .bX) (zs.getD j .bX)) { s with heap:=h' }->wpAny (model X.prog X.w) X.A.in1.in1 (keyLt' CB (its.getD i cH) (its.getD j cH)) C (fun _ _=>False) { s with heap:=h' }:=by
    intro i j hi hj C hC;obtain⟨as,r1⟩:=rY i hi;obtain⟨bs,r2⟩:=rY j hj;rw [keyLt'_oneType];exact mD (s:={ s with heap:=h' }) (n:=7) (LH i (by lia)) (pY i (by lia)) (pY j (by lia)) (GV i (by lia)) (GV j (by lia)) r1 r2 (by rw [LA]; lia) X.prog X.w _ C hC
   have lk:∀ v∈its,Looks (model X.prog X.w) h' (typeOf v) (xk sh):=fun v hv=>by
    obtain⟨i,hi,rfl⟩:=dR hv;obtain⟨as,r⟩:=rY i hi;rw [getD_at _ _ hi] at r;exact ni (pY i (by lia)) r
   cases sh with
   | int=>exact kas_kind (s:={ s with heap:=h' }) (T:=.type "int") (by lia) lk rfl rfl (ask CB gen)
   | lst ss=>exact kas_kind (s:={ s with heap:=h' }) (T:=.type "list") (by lia) lk rfl rfl (ask CB gen)
   | tup ss =>
    cases ss with
    | nil=>exact absurd bY.2 (by simp)
    | cons s1 ss =>
     obtain⟨fs,t1,t2,t3⟩:=qu (h:=h') zs its hz rY (by lia);refine kat_kind (s:={ s with heap:=h' }) (T:=xk s1) t1 (by lia) (fun f hf=>?_) (by cases s1 <;> rfl) (ask _ fun i j hi hj C hC=>?_)
     ·obtain⟨d,as,h1,h2⟩:=t3 f hf;exact ni h1 h2
     ·obtain⟨as,r1⟩:=rY i hi;obtain⟨bs,r2⟩:=rY j hj;exact u4 (s:={ s with heap:=h' }) (n:=7) (by have:=LH i (by lia); lia) (pY i (by lia)) (pY j (by lia)) (GV i (by lia)) (GV j (by lia)) r1 r2 (by rw [LA]; lia) hC
 ·exact q.elim
end
end K2
end
section
namespace L2
open PySem PySem.Spec PyProof.Rows
section
variable {prog:bf} {w:World} {A:bW} {E:Value->ak->Prop} {s:ak}
theorem zF{d:Addr}{od:Obj}{es:Array kd}{c:Nat}{Q:Value->ak->Prop}(ns:(d == c3)=false)(wZ:s.heap.get? d=some od)(ex:od.ExactDict)(dd:od.data=.dict es c)
  (hQ:Q (.ref s.heap.objs.size) { s with heap:=s.heap.push { cls:=.type "dict_keyiterator",data:=.fields #[.ref d,.int 0 0,.int es.size 0,.int c 0] } }):wpAny (model prog w) A (C6 (.ref d)) Q E s:=by
 have ty:s.TypeIs (.ref d) "dict":=⟨od,wZ,ex.1⟩;refine yP ty F.slot_dict_iter (c5 F.slot_dict_iter ty F.entry_dict_iter ?_ (F.args_dict_iter_1 _));unfold Builtin.«dict.__iter__» Builtin.Dict.dictSlotNone;refine ae (ae (wpAny_notOrdered_dict ty (show wpAny _ _ (pure (fN d)) _ _ s from aq ?_)));show wpAny _ _ (ij d >>= _) _ _ s;unfold ij;rw [if_neg (fun z=>by rw [ns] at z; cases z)];refine ae (aq (ae (g6 wZ dd (ae (jh wZ dd ?_)))));refine ae (bR (aq ⟨_,rfl,"dict_keyiterator",_,⟨_,aR _ rfl,rfl⟩,F.slot_dict_keyiterator_next.lookup,?_⟩));simpa [fM] using hQ
theorem B8{it d:Addr}{od:Obj}{es:Array kd}{i c:Nat}{Q:Option Value->ak->Prop}(ki:s.heap.IsKeyIter it d i es.size c)(wZ:s.heap.get? d=some od)(dd:od.data=.dict es c)(hi:i < es.size)
  (hQ:∀ h',h'.IsKeyIter it d (i+1) es.size c->lL it s.heap h'->Q (some es[i].key) { s with heap:=h' }):wpAny (model prog w) A (lV (.ref it)) Q E s:=by
 obtain⟨o,ho,hc,hf⟩:=id ki;unfold lV;refine ae (w9 (fC (name:=ig "__next__") ki.typeIs fU (c5 fU ki.typeIs yZ ?_ (yG _))));refine ae (aq (ae (ae ?_)))
 first | refine ae (fL ki.typeIs (aq ?_)) | refine ae (iV ki.typeIs (aq ?_))
 refine ae (j7 ho hf ?_);have IS:c4 "dict_keyiterator" = false:=by decide
 rw [IS];show wpAny _ _ (if (fN d == cH)=true then _ else _) _ _ s;rw [if_neg (fun z=>by cases z)];refine ae (aq (ae (g6 wZ dd ?_)));rw [if_neg (by simp)];refine ae (aq (ae (jh wZ dd ?_)));rw [if_neg (by simp)];refine aq ?_;dsimp only;rw [if_neg (show ¬ ((i:Int) < 0) from Int.not_lt.mpr (lP i)),eV,y7 hi];dsimp only;refine ae ?_
 first | refine ae (fL ki.typeIs (aq ?_)) | refine ae (iV ki.typeIs (aq ?_))
 refine ae (wpAny_isOneOf_keyiter ki.typeIs ?_);show wpAny _ _ (setField (.ref it) 1 (fM ((i:Int)+1)) >>= _) _ _ s;refine ae (uJ ho hf (by simp) ?_);have PH:(s.heap.update it (nU (·.setIfInBounds 1 (fM ((i:Int)+1))))).IsKeyIter it d (i+1) es.size c :=
  ⟨_,fT _ ho (FT (lO hf _)),(Obj.cls_mapFields ..).trans hc,by rw [lO hf]; simp [fM]⟩
 refine ae (cM (ae (wpAny_isOneOf_keyiter (s:={ s with heap:=s.heap.update it (nU (·.setIfInBounds 1 (fM ((i:Int)+1)))) }) PH.typeIs ?_)));show wpAny _ _ (pure es[i].key) _ _ _;exact aq (aq ⟨_,rfl,aq (hQ _ PH (dv ..))⟩)
theorem Em{it d:Addr}{od:Obj}{es:Array kd}{i c:Nat}{Q:Option Value->ak->Prop}(calm:A.handled=none)(ki:s.heap.IsKeyIter it d i es.size c)(wZ:s.heap.get? d=some od)(dd:od.data=.dict es c)(hi:es.size<=i)
  (hQ:∀ h',Heap.ExtBut it s.heap h'->Q none { s with heap:=h' }):wpAny (model prog w) A (lV (.ref it)) Q E s:=by
 obtain⟨o,ho,hc,hf⟩:=id ki;unfold lV;refine ae (w9 (fC (name:=ig "__next__") ki.typeIs fU (c5 fU ki.typeIs yZ ?_ (yG _))));refine ae (aq (ae (ae ?_)))
 first | refine ae (fL ki.typeIs (aq ?_)) | refine ae (iV ki.typeIs (aq ?_))
 refine ae (j7 ho hf ?_);have IS:c4 "dict_keyiterator" = false:=by decide
 rw [IS];show wpAny _ _ (if (fN d == cH)=true then _ else _) _ _ s;rw [if_neg (fun z=>by cases z)];refine ae (aq (ae (g6 wZ dd ?_)));rw [if_neg (by simp)];refine ae (aq (ae (jh wZ dd ?_)));rw [if_neg (by simp)];refine aq ?_;dsimp only;rw [if_neg (show ¬ ((i:Int) < 0) from Int.not_lt.mpr (lP i)),eV,CJ hi];dsimp only;refine ae ?_
 first | refine ae (fL ki.typeIs (aq ?_)) | refine ae (iV ki.typeIs (aq ?_))
 show wpAny _ _ (setField (.ref it) 0 .none >>= _) _ _ s;refine ae (uJ ho hf (by simp) ?_);show wpAny _ _ (newExc (.type "StopIteration") [] >>= _) _ _ _;refine ae ?_;simp only [newExc,newTuple];refine ae (bR (ae (m:=uK _ _) (C0 (a:=cH) (by first | rfl | (simp only [uK]; rfl)) (bR ?_ (by size_fits)))) (by size_fits));simp only [raiseNew];refine ae (wpAny_handled ?_);rw [show A.in1.handled=none from calm];refine ae (aq (wpAny_throw ?_));refine ae (wpAny_isInstance (T:="StopIteration") (b:=true) ⟨_,aR _ rfl,rfl⟩ isSubtype_stop (?_));exact aq (hQ _ (((dv ..).extBut.push _).push _))
end
noncomputable def Tq(a:Addr)(o:Obj)(es:Array kd)(ks:List V):It :=
 ⟨fun i H=>(∃ u,H a=some (.jI o u))/\i < es.size,fun i H v H'=>H'=H/\ks[i]?=some v,fun i H=>(∃ u,H a=some (.jI o u))/\es.size<=i⟩
end L2
namespace K2
open PySem PySem.Spec PyProof.Rows L2
section
variable {X:Cx} {tg a:Expr} {ta:e7} {pos p:Pos}
theorem uY{α β:Type}{F:α->β->Prop}:∀ {l:List α} {m:List β},Paired F l m->∀ i (h1:i < l.length) (h2:i < m.length),F l[i] m[i]:=by
 intro l m h;induction h with
 | nil=>intro i h1; exact absurd h1 (gc i)
 | cons h t ih =>
  intro i h1 h2;cases i with
  | zero=>exact h
  | succ i=>exact ih i (oC h1) (oC h2)
theorem Ep{P:bf}{w:World}{k:Key}{u:Value}(h:(c7 P w).is k u=true):RelV (kV k) u:=by
 rcases dm h with ⟨i,t,rfl,rfl⟩ | ⟨x,t,rfl,rfl⟩
 ·exact⟨t,rfl⟩
 ·exact⟨t,rfl⟩
theorem jC.keys{K:ag}{H:Hp}:∀ {kv:List (Key×V)} {aQ:List (D×D)},jC K H kv aQ->aQ.map (·.1)=kv.map fun p=>cY p.1:=fun h =>
 jC.ind (motive:=fun kv aQ _=>aQ.map (·.1)=kv.map fun p=>cY p.1) rfl (fun _ _ ih=>congrArg (_ :: ·) ih) h
theorem DP{K:ag}{H:Hp}(k:Key):bF K H (kV k) (cY k):=by
 cases k with
 | inl i=>exact .int i
 | inr x=>exact .str x
end
end K2
end
section
namespace L2
open PySem PySem.Spec PyProof.Rows PySem.W
section
variable {prog:bf} {w:World}
theorem y8{A:bW}{it d:Addr}{od:Obj}{es:Array kd}{c:Nat}(hh:A.handled=none)(kI:d≠it)(dd:od.data=.dict es c) :
  PySem.Walks prog w A it [it,d] [it] es.size (fun i v=>∃ h:i < es.size,v=es[i].key) (fun i h=>h.IsKeyIter it d i es.size c/\h.get? d=some od) where
 sub:=fun b hb=>by simp at hb; simp [hb]
 frame:=fun i h h' st hk=>⟨st.1.at fun o e=>hk it (by simp) o e,hk d (by simp) od st.2⟩
 item:=fun i s Q E hi st hQ=>B8 st.1 st.2 dd hi fun h' ua sb=>hQ _ h' s.toks ⟨hi,rfl⟩ ⟨ua,(sb.2 d kI).trans st.2⟩ fun b o hb e=>(sb.2 b (by simpa using hb)).trans e
 done:=fun s Q E st hQ=>Em hh st.1 st.2 dd (aF _) fun h' eb=>hQ h' s.toks fun b o hb e=>eb b o (by simpa using hb) e
 self:=fun i s Q E st hQ=>wpAny_pyIter_keyiter st.1 hQ
theorem DD{d:Addr}{od:Obj}{es:Array kd}{c:Nat}(ns:(d == c3)=false)(ex:od.ExactDict)(dd:od.data=.dict es c) :
  KdlSrc prog w "dict" d d es.size (fun i v=>∃ h:i < es.size,v=es[i].key) (fun h=>h.get? d=some od) where
 type:=fun s bY=>⟨od,bY,ex.1⟩
 there:=fun h bY=>⟨aH bY,aH bY⟩
 keep:=fun h h' bY hk=>hk d (.inl rfl) od bY
 notList:=by decide
 notTuple:=by decide
 hint:=fun A E s Q bY hq=>kdl_hint_dict ⟨od,bY,ex.1⟩ hq
 iter:=fun A s hh bY=>⟨_,_,(fun E Q hq=>zF ns bY ex dd hq),y8 hh (ba (aH bY)) dd,⟨⟨_,aR _ rfl,rfl,rfl⟩,ar _ bY⟩⟩
end
end L2
namespace K2
open PySem PySem.Spec PyProof.Rows L2 PySem.W
section
variable {X:Cx}
theorem Ax:∀ (ks:List V) (us:List Value),ks.length=us.length->(∀ i (h1:i < ks.length) (h2:i < us.length),RelV ks[i] us[i])->Vals ks us
 | [],[],_,_=>.nil
 | [],_ :: _,h,_=>by cases h
 | _ :: _,[],h,_=>by cases h
 | k :: ks,u :: us,h,hr=>.cons (hr 0 (by simp) (by simp)) (Ax ks us (by simpa using h) fun i h1 h2=>hr (i+1) (by simpa using h1) (by simpa using h2))
end
end K2
end
section
namespace K2
open PySem PySem.Spec PyProof.Rows L2
section
variable {X:Cx}
theorem wA{pins:List (Addr×Obj)}{σ:L2.St}{H:Hp}{s:ak}{G:Gp}{x:V}{d:D}{aQ:List (D×D)}(I:Inv X pins σ H s)(ab:jJ X.K H G)(rd:bF X.K H x d)(hd:yg d G=some aQ)(h1:ku aQ=true) :
  ∃ a kv vs,x=.ref a/\jC X.K H kv aQ/\kv.length<=aY/\(a == c3)=false/\KV kv vs/\s.heap.DictOf (c7 X.prog X.w) a vs:=by
 have empty:∀ (a:Addr) (kv:List (List Key×V)),eQ X.prog X.w H s.heap a (.dT kv)->lT X.K H kv aQ ->
   ∃ a' kv vs,V.ref a=.ref a'/\jC X.K H kv aQ/\kv.length<=aY/\(a' == c3)=false/\KV kv vs/\s.heap.DictOf (c7 X.prog X.w) a' vs:=by
  intro a kv ok rs;cases rs with
  | nil =>
   obtain⟨z,hm,xs,rel,o,es,ep,ho,hx,x2,hl,nd⟩:=ok;have hv:xs=[]:=by cases rel; rfl
   subst hv;have he:es=#[]:=by simpa using hl
   subst he;exact⟨a,[],[],rfl,.nil,bJ _,hm,.nil,o,#[],ep,ho,hx,x2,(fun _ h=>by simp at h),.nil,cP⟩
  | cons _ _=>simp [ku,cC] at h1
 cases rd with
 | mh hq rs =>
  cases (show some _=some aQ from hd);obtain⟨z,hm,vs,rel,dd⟩:=nT I.bY (.inr ⟨_,hq⟩);exact⟨_,_,vs,rfl,rs,z,hm,rel,dd⟩
 | mf hq rs =>
  cases (show some _=some aQ from hd);exact empty _ _ (I.bY _ _ hq).2 rs
 | ref a =>
  unfold yg at hd;dsimp only at hd;split at hd
  ·rename_i TH hg;cases hd;rcases ab a _ hg with ⟨kv,hv,rs⟩ | ⟨kv,hv,rs⟩
   ·obtain⟨z,hm,vs,rel,dd⟩:=ye I.bY hv;exact⟨a,kv,vs,rfl,rs,z,hm,rel,dd⟩
   ·exact empty a _ (I.bY _ _ hv) rs
  ·cases hd
 | _=>cases hd
end
end K2
end
section
namespace K2
open PySem PySem.Spec PyProof.Rows L2
section
variable {X:Cx}
theorem IF{pins:List (Addr×Obj)}{σ:L2.St}{H:Hp}{s:ak}{x:V}{aQ:List (D×D)}(I:Inv X pins σ H s)(rd:bF X.K H x (.iC aQ))(h1:ku aQ=true) :
  ∃ a ob u kv vs ep,x=.ref a/\H a=some (.jI ob u)/\jC X.K H kv aQ/\(a == c3)=false/\KV kv vs/\∀ h:Heap,h.get? a=some ob->h.DictAt (c7 X.prog X.w) a vs ep:=by
 cases rd with
 | mh hq rs =>
  rename_i a o kv;obtain⟨z,hm,vs,rel,ob,es,ep,ho,r⟩:=(I.bY a _ hq).2;have eo:ob=o:=by have:=(I.bY a _ hq).1; rw [ho] at this; exact aW this
  subst eo;exact⟨a,ob,_,kv,vs,ep,rfl,hq,rs,hm,rel,fun h e=>⟨ob,es,e,r⟩⟩
 | mf hq rs =>
  rename_i a o kv;cases rs with
  | nil =>
   obtain⟨z,hm,xs,rel,ob,es,ep,ho,hx,x2,hl,nd⟩:=(I.bY a _ hq).2;have eo:ob=o:=by have:=(I.bY a _ hq).1; rw [ho] at this; exact aW this
   subst eo;have hv:xs=[]:=by cases rel; rfl
   subst hv;have he:es=#[]:=by simpa using hl
   subst he;exact⟨a,ob,_,[],[],ep,rfl,hq,.nil,hm,.nil,fun h e=>⟨ob,#[],e,hx,x2,(fun _ h=>by simp at h),.nil,cP⟩⟩
  | cons _ _=>simp [ku,cC] at h1
variable {elts:List Expr} {kk:Nat} {Qv apos iS:Pos} {o:Expr} {to:e7}
end
end K2
end
section
namespace K2
open PySem PySem.Spec PyProof.Rows L2
section
variable {X:Cx}
theorem mP{K:ag}{H:Hp}:∀ {kv:List (Key×V)} {l:List (Int×Int)},jC K H kv (bG l)->kv=l.map fun p=>((.inl p.1:Key),V.int p.2)
 | _,[],h=>by cases h; rfl
 | _,p :: l,h=>by
  have h:jC K H _ ((D.int p.1,D.int p.2) :: bG l):=h;generalize e:(D.int p.1,D.int p.2) :: bG l=t at h;cases h with
  | nil=>cases e
  | cons r rs =>
   rename_i k v d r' t';injection e with e1 e2
   injection e1 with e3 e4
   subst e2 e4;cases r;rw [mP rs];cases k with
   | inl i=>cases e3; rfl
   | inr x=>cases e3
theorem pk:∀ {l:List (Int×Int)} {vs:List (Key×Value)},KV (l.map fun p=>((.inl p.1:Key),V.int p.2)) vs->∃ ts:List Tok,ts.length=l.length/\vs=(l.zip ts).map fun q=>((.inl q.1.1:Key),cW q.1.2 q.2)
 | [],_,.nil=>⟨[],rfl,rfl⟩
 | p :: l,_,.cons h r=>by
  obtain⟨ts,h1,h2⟩:=pk r;rename_i q vs;obtain⟨k,v⟩:=q;obtain⟨e1,t,e2⟩:=h;cases e1;cases e2;exact⟨t :: ts,by simp [h1],by rw [h2]; rfl⟩
theorem vF{l:List (Int×Int)}{ts:List Tok}(h:ts.length=l.length)(k:Int):(eP l k=none/\jY ((l.zip ts).map fun q=>((.inl q.1.1:Key),cW q.1.2 q.2)) (.inl k)=none)\/∃ v t,eP l k=some v/\jY ((l.zip ts).map fun q=>((.inl q.1.1:Key),cW q.1.2 q.2)) (.inl k)=some (.int v t):=by
 induction l generalizing ts with
 | nil=>exact .inl ⟨rfl,rfl⟩
 | cons p l ih =>
  cases ts with
  | nil=>cases h
  | cons t ts =>
   have ih:=ih (ts:=ts) (by simpa using h);by_cases e:p.1=k
   ·refine .inr ⟨p.2,t,?_,?_⟩
    ·unfold eP; simp [e]
    ·unfold jY; simp [e]
   ·have e':¬ ((.inl p.1:Key)=.inl k):=fun z=>e (by injection z);have a1:eP (p :: l) k=eP l k:=by unfold eP; simp [e]
    have a2:jY (((p :: l).zip (t :: ts)).map fun q=>((.inl q.1.1:Key),cW q.1.2 q.2)) (.inl k)=jY ((l.zip ts).map fun q=>((.inl q.1.1:Key),cW q.1.2 q.2)) (.inl k):=by
     unfold jY; simp [e']
    rw [a1,a2]; exact ih
theorem qi{A:bW}{s:ak}{m:List (Int×Int)}{us:List Tok}(hm:us.length=m.length):∀ {l:List (Int×Int)} {ts:List Tok},ts.length=l.length ->
  PySem.W.KeqHits A s ((m.zip us).map fun q=>((.inl q.1.1:Key),cW q.1.2 q.2)) ((l.zip ts).map fun q=>((.inl q.1.1:Key),cW q.1.2 q.2)) (l.all fun p=>eP m p.1 == some p.2)
 | [],_,_=>.nil
 | p :: l,[],h=>by cases h
 | p :: l,t :: ts,h=>by
  have ih:=qi (A:=A) (s:=s) hm (l:=l) (ts:=ts) (by simpa using h);rcases vF hm p.1 with ⟨e1,e2⟩ | ⟨v,t',e1,e2⟩
  ·have:((p :: l).all fun p=>eP m p.1 == some p.2)=false:=by simp [e1]
   rw [this];exact .miss e2
  ·have eq:SeqAt.EqAt A s (cW p.2 t) (cW v t') (decide (p.2=v)):=by
    have:=PySem.W.keq_flat (A:=A) (s:=s) (v:=cW p.2 t) (y:=cW v t') (d:=.int p.2) (e:=.int v) (.int _ _) (.int _ _);have e2:SeqAt.EqAt A s (cW p.2 t) (cW v t') (p.2 == v):=by simpa [lN] using this
    exact e2
   have:((p :: l).all fun p=>eP m p.1 == some p.2)=(decide (p.2=v)&&l.all fun p=>eP m p.1 == some p.2):=by
    rw [tX,e1];congr 1;by_cases z:p.2=v
    ·simp [z]
    ·have:¬ v=p.2:=fun y=>z y.symm;simp [z,this]
   rw [this];exact .hit e2 eq ih
theorem GR(hu:X.A.units+64 < cLine):ll X (cG .Eq) (IL false):=by
 intro pins s σ H G x y dx dy v u Q I ab rx ry dX dY q;obtain⟨l,m,e1,e2,q⟩:=q;obtain⟨a,kv,vs,rfl,rs,z,hm,rel,dd⟩:=wA I ab dX e1 (nj l);obtain⟨b,kw,ws,rfl,BR,z2,Lj,DR,w5⟩:=wA I ab dY e2 (nj m);cases rx;cases ry;rw [mP rs] at rel;rw [mP BR] at DR;obtain⟨ts,t1,rfl⟩:=pk rel;obtain⟨us,t2,rfl⟩:=pk DR;refine PySem.W.keq_eq hm Lj dd w5 (by lia) (fun _=>qi t2 t1) ?_;refine⟨.bl _,H,.bl _,G,I,.refl ab,rfl,.bl _,?_⟩;have:((((l.zip ts).map fun q=>((.inl q.1.1:Key),cW q.1.2 q.2)).length == ((m.zip us).map fun q=>((.inl q.1.1:Key),cW q.1.2 q.2)).length)&&l.all fun p=>eP m p.1 == some p.2)=qT l m:=by
  unfold qT; simp [t1,t2]
 rw [this]; exact q
theorem GN(hu:X.A.units+64 < cLine):ll X (cG .NotEq) (IL true):=by
 intro pins s σ H G x y dx dy v u Q I ab rx ry dX dY q;obtain⟨l,m,e1,e2,q⟩:=q;obtain⟨a,kv,vs,rfl,rs,z,hm,rel,dd⟩:=wA I ab dX e1 (nj l);obtain⟨b,kw,ws,rfl,BR,z2,Lj,DR,w5⟩:=wA I ab dY e2 (nj m);cases rx;cases ry;rw [mP rs] at rel;rw [mP BR] at DR;obtain⟨ts,t1,rfl⟩:=pk rel;obtain⟨us,t2,rfl⟩:=pk DR;refine PySem.W.keq_ne hm Lj dd w5 (by lia) (fun _=>qi t2 t1) ?_;refine⟨.bl _,H,.bl _,G,I,.refl ab,rfl,.bl _,?_⟩;have:((((l.zip ts).map fun q=>((.inl q.1.1:Key),cW q.1.2 q.2)).length == ((m.zip us).map fun q=>((.inl q.1.1:Key),cW q.1.2 q.2)).length)&&l.all fun p=>eP m p.1 == some p.2)=qT l m:=by
  unfold qT; simp [t1,t2]
 rw [this]; exact q
theorem GQ(hu:X.A.units+64 < cLine):ll X (cG .Eq) (qN false):=by
 intro pins s σ H G x y dx dy v u Q I ab rx ry dX dY q;rcases q with q | q
 ·exact Ea hu pins s σ H G x y dx dy v u Q I ab rx ry dX dY q
 ·exact GR hu pins s σ H G x y dx dy v u Q I ab rx ry dX dY q
theorem oZ(hu:X.A.units+64 < cLine):ll X (cG .NotEq) (qN true):=by
 intro pins s σ H G x y dx dy v u Q I ab rx ry dX dY q;rcases q with q | q
 ·exact D8 hu pins s σ H G x y dx dy v u Q I ab rx ry dX dY q
 ·exact GN hu pins s σ H G x y dx dy v u Q I ab rx ry dX dY q
variable {k v:Expr} {tk tv:e7} {pos:Pos}
end
end K2
end
section
namespace K2
open PySem PySem.Spec PyProof.Rows L2 PySem.W
section
variable {X:Cx}
variable {es:List Expr} {t:Te} {e v1 v2:Expr} {te:e7} {pos:Pos} {c:Str} {k:Nat}
variable {a:Expr} {ta:e7} {p p2 QV:Pos}
theorem zg{pins:List (Addr×Obj)}{σ:L2.St}{H:Hp}{G:Gp}{s:ak}{Q:DK}{T:String}{r d:Addr}{n:Nat}{P:Nat->Value->Prop}{OK:Heap->Prop}(hc:X.calm=true)(hu:X.A.units+64 < cLine)(I:Inv X pins σ H s)(ab:jJ X.K H G)
  (K:PySem.W.KdlSrc X.prog X.w T r d n P OK) (Oi:OK s.heap) {vs:List V} {zs:List D} (hlen:vs.length=n) (hP:∀ i u (h:i < vs.length),P i u->RelV vs[i] u) (rs:aX X.K H vs zs) (sh:jA) (hz:∀ z∈zs,bD sh z=true) (bY:Eb sh=true) (ON:zs.length < 64)
  (q:ja G (.lst (jn zs)) Q):wpAny (model X.prog X.w) X.A (call (.builtin "sorted") [.ref r]) (ny X pins σ H G Q) X.xe s:=by
 have Bj:=rs.length;have hsz:aY=16777216:=bM;obtain⟨m,F0⟩:=I.fr;have nL:∀ b o vs n,o.data=.seq vs n->s.heap.get? b=some o->b≠X.env.locals:=fun b o vs n e1 e2 z=>by
  obtain⟨o',es,ep,EE,x2,_⟩:=F0.ns;rw [z,EE] at e2; cases e2; rw [x2] at e1; cases e1
 unfold Eb at bY;rw [aA] at bY;have Oz:Hm sh<=7:=of_decide_eq_true bY.1;have sn:∀ z∈zs,Sn G 7 z z:=fun z h=>vH G sh z 7 (hz z h) Oz;refine kdu_sorted K (I.ok.hd hc) F0 si Oi (by lia) fun Dd h0 tk its F1 N1 ou PQ R5=>?_;have Mn:vs.length=its.length:=by lia
 have rv:Vals vs its:=Ax vs its Mn fun i h1 h2=>hP i its[i] h1 (R5 i its[i] (ai h2));by_cases CT:its.length < 2
 ·have e2:h0.get? Dd=some (ji "list" its.toArray 0):=(N1 _ a0).1;refine c5 slot_list_sort ⟨_,e2,rfl⟩ entry_list_sort (xo (s:={ s with heap:=h0,toks:=tk }) e2 CT ⟨_,rfl,?_⟩) (args_list_sort _);obtain⟨kk,ns⟩:=jg I F0 F1 fun p hp=>N1 p (aw _ hp);have hD:s.heap.get? Dd=none:=by
   have nD:=N1 _ a0;cases qd:s.heap.get? Dd with
   | none=>rfl
   | some o=>exact absurd (ou _ (jM nD.2.1 nD.2.2 qd)) (cS _)
  have hp:H Dd=none:=rB I.bY hD;have R6:Dd≠X.env.locals:=(N1 _ a0).2.1;obtain⟨e3,h3⟩:=sortedHeap_at (out:=its.toArray) e2;have es:jn zs=zs:=i9 sh hz (.refl _) (by
   match zs,Bj,CT with
   | [],_,_=>exact .nil
   | [z],_,_=>exact CC _ _
   | _ :: _ :: _,h,f=>exact absurd f (by rw [<-Mn,h]; simp))
  rw [es] at q;refine⟨.ref Dd,upd H Dd (.lst vs),.ref _,_,Inv.A4 (t':=tk) I (fun b o hb e=>?_) (fun m' hm=>?_) hD ⟨by lia,its,e3,rv,h3⟩,.vX ab hp rs,rfl,.ref _,q _ (ab.free hp)⟩
  ·have Ms:b≠Dd:=fun z=>by rw [z,hD] at e; cases e
   have e4:=kk b o hb e;rw [sortedHeap_old Ms (aH e4)]; exact e4
  ·obtain⟨o,es,ep,ho,r⟩:=ns m' hm;exact⟨o,es,ep,by rw [sortedHeap_old (j8 R6) (aH ho)]; exact ho,r⟩
 have nz:0 < zs.length:=by lia
 refine kat_lsort (vs:=its) F1 N1 (.head fun q hq z=>absurd (ou q hq) (by rw [z]; exact cS _)) (by simp) (by lia) (by lia) fun e1 h' F N=>?_;obtain⟨kk,ns⟩:=jg I F0 F fun p hp=>N p (aw _ hp);have rY:∀ i,i < its.length->∃ as,Reads h' (its.getD i .none) (pd (zs.getD i .bX)) as:=fun i hi=>by
  have i1:i < zs.length:=by lia
  have i2:i < vs.length:=by lia
  have g1:zs.getD i .bX=zs[i]:=getD_at _ _ i1;have g2:its.getD i .none=its[i]:=getD_at _ _ hi;obtain⟨v,hv,IJ⟩:=rs.get (ai i1);obtain⟨u,rq,IE⟩:=rv.get hv;rw [ai hi] at rq;cases rq;obtain⟨as,r⟩:=(dq I ab (sn _ (bu i1))).1 v _ IJ IE;rw [g1,g2];exact⟨as,mi (fun b o vs n e1 e2=>kk b o (nL b o vs n e1 e2) e2) _ (sn _ (bu i1)).nr r⟩
 have pY:∀ i,i < zs.length->bD sh (zs.getD i .bX)=true:=fun i hi=>by rw [getD_at _ _ hi]; exact hz _ (bu hi)
 have GV:∀ i,i < zs.length->nr (zs.getD i .bX)=true:=fun i hi=>by rw [getD_at _ _ hi]; exact(sn _ (bu hi)).nr
 have LH:∀ i,i < zs.length->(pd (zs.getD i .bX)).depth<=7:=fun i hi=>by rw [getD_at _ _ hi]; exact oh (sn _ (bu hi))
 let zz:Nat->D:=fun i=>if i < zs.length then zs.getD i .bX else zs.getD 0 .bX
 have Dp:∀ i,bD sh (zz i)=true:=fun i=>by
  show bD sh (if i < zs.length then zs.getD i .bX else zs.getD 0 .bX)=true;split
  ·exact pY i (by assumption)
  ·exact pY 0 nz
 let lt:Nat->Nat->Bool:=fun i j=>iY (zz i) (zz j)
 have M3:BA lt:=⟨fun i j h=>qe sh (Dp i) (Dp j) h,fun i j k h1 h2=>nZ sh (Dp i) (Dp j) (Dp k) h1 h2⟩;have K5:∀ i j,i < zs.length->j < zs.length->lt i j=iY (zs.getD i .bX) (zs.getD j .bX):=fun i j hi hj=>by
  show iY (if i < zs.length then _ else _) (if j < zs.length then _ else _)=_;rw [if_pos hi,if_pos hj]
 obtain⟨p,ep,mH,KL,Oc⟩:=xt M3 (n:=its.length) (by lia);have LA:X.A.in1.in1.units=X.A.units+2:=rfl;have ask:∀ κ:SortKind,(∀ i j,i < its.length->j < its.length->∀ C:Bool->ak->Prop,C (iY (zs.getD i .bX) (zs.getD j .bX)) { s with heap:=h',toks:=tk }->kas_ask X.prog X.w X.A.in1.in1 κ its i j C { s with heap:=h',toks:=tk }) ->
   (kas_sort its.length).kasWp (kas_ask X.prog X.w X.A.in1.in1 κ its) (fun p Gj=>KasFin X.base X.env.locals m Dd e1 (p.toList.map fun i=>its.getD i cH) (fun s3=>ny X pins σ H G Q (.ref Dd) s3) Gj) { s with heap:=h',toks:=tk }:=by
  intro κ hk;refine sH (lt:=lt) (n:=its.length) (fun i j i1 i2 C hC=>hk i j i1 i2 C (by rw [<-K5 i j (by lia) (by lia)]; exact hC)) _ (yt (by lia)) ?_;rw [ep];refine KasFin.intro (g:=fun o=>(Dd,o) :: lh X.base s.heap X.env.locals) F N (.head (fun q hq z=>absurd (ou q hq) (by rw [z]; exact cS _))) fun h2 c F2 N2=>?_;obtain⟨k2,NI⟩:=jg I F0 F2 fun p hp=>N2 p (aw _ hp);have hD:s.heap.get? Dd=none:=by
   have nD:=N _ a0;cases qd:s.heap.get? Dd with
   | none=>rfl
   | some o=>exact absurd (ou _ (jM nD.2.1 nD.2.2 qd)) (cS _)
  have hp:H Dd=none:=rB I.bY hD;have Na:Vals (p.toList.map fun i=>vs.getD i .bX) (p.toList.map fun i=>its.getD i cH):=by
   have:∀ (ps:List Nat),(∀ i∈ps,i < its.length)->Vals (ps.map fun i=>vs.getD i .bX) (ps.map fun i=>its.getD i cH):=by
    intro ps;induction ps with
    | nil=>intro _; exact .nil
    | cons i ps ih =>
     intro hh;have hi:=hh i (by simp);refine .cons ?_ (ih fun j hj=>hh j (aw _ hj));have i2:i < vs.length:=by lia
     obtain⟨u,rq,IE⟩:=rv.get (ai i2);rw [ai hi] at rq;cases rq;show RelV (vs.getD i .bX) (its.getD i .none);rw [getD_at _ _ i2,getD_at _ _ hi]; exact IE
   exact this _ fun i hi=>by simpa using mH.mem_iff.mp hi
  have Nc:aX X.K H (p.toList.map fun i=>vs.getD i .bX) (p.toList.map fun i=>zs.getD i .bX):=by
   have:∀ (ps:List Nat),(∀ i∈ps,i < its.length)->aX X.K H (ps.map fun i=>vs.getD i .bX) (ps.map fun i=>zs.getD i .bX):=by
    intro ps;induction ps with
    | nil=>intro _; exact .nil
    | cons i ps ih =>
     intro hh;have hi:=hh i (by simp);refine .cons ?_ (ih fun j hj=>hh j (aw _ hj));have i2:i < vs.length:=by lia
     have i1:i < zs.length:=by lia
     obtain⟨v,hv,r⟩:=rs.get (ai i1);rw [ai i2] at hv;cases hv;show bF X.K H (vs.getD i .bX) (zs.getD i .bX);rw [getD_at _ _ i2,getD_at _ _ i1]; exact r
   exact this _ fun i hi=>by simpa using mH.mem_iff.mp hi
  have es:jn zs=p.toList.map fun i=>zs.getD i .bX:=by
   refine i9 sh hz ?_ ?_
   ·have h1:(p.toList.map fun i=>zs.getD i .bX).Perm ((bK zs.length).map fun i=>zs.getD i .bX):=by
     have:its.length=zs.length:=by lia
     rw [<-this];exact mH.map _
    rw [mF] at h1;exact h1
   ·rw [uM,Au];intro i j hi hj Bk;have g1:gA p i=p.toList[i]:=by
     have:i < p.size:=by simpa using hi
     simp [gA,pP,this]
    have g2:gA p j=p.toList[j]:=by
     have:j < p.size:=by simpa using hj
     simp [gA,pP,this]
    have bi:p.toList[i] < its.length:=by simpa using mH.mem_iff.mp (bu hi)
    have bj:p.toList[j] < its.length:=by simpa using mH.mem_iff.mp (bu hj)
    have:=Oc i j (by lia) (by have:j < p.toList.length:=hj; rw [dF,KL] at this; exact this);rw [g1,g2,K5 _ _ (by lia) (by lia)] at this;exact this
  rw [es] at q;have ln:(p.toList.map fun i=>vs.getD i .bX).length<=aY:=by rw [ah,dF,KL]; lia
  refine⟨.ref Dd,upd H Dd (.lst (p.toList.map fun i=>vs.getD i .bX)),.ref _,_,Inv.A4 (t':=tk) I k2 NI hD ?_,.vX ab hp Nc,rfl,.ref _,q _ (ab.free hp)⟩;exact⟨ln,_,c,Na,(N2 _ a0).1⟩
 have gen:∀ i j,i < its.length->j < its.length->∀ C:Bool->ak->Prop,C (iY (zs.getD i .bX) (zs.getD j .bX)) { s with heap:=h',toks:=tk }->wpAny (model X.prog X.w) X.A.in1.in1 (keyLt' CB (its.getD i cH) (its.getD j cH)) C (fun _ _=>False) { s with heap:=h',toks:=tk }:=by
  intro i j hi hj C hC;obtain⟨as,r1⟩:=rY i hi;obtain⟨bs,r2⟩:=rY j hj;rw [keyLt'_oneType];exact mD (s:={ s with heap:=h',toks:=tk }) (n:=7) (LH i (by lia)) (pY i (by lia)) (pY j (by lia)) (GV i (by lia)) (GV j (by lia)) r1 r2 (by rw [LA]; lia) X.prog X.w _ C hC
 have lk:∀ v∈its,Looks (model X.prog X.w) h' (typeOf v) (xk sh):=fun v hv=>by
  obtain⟨i,hi,rfl⟩:=dR hv;obtain⟨as,r⟩:=rY i hi;rw [getD_at _ _ hi] at r;exact ni (pY i (by lia)) r
 cases sh with
 | int=>exact kas_kind (s:={ s with heap:=h',toks:=tk }) (T:=.type "int") (by lia) lk rfl rfl (ask CB gen)
 | lst ss=>exact kas_kind (s:={ s with heap:=h',toks:=tk }) (T:=.type "list") (by lia) lk rfl rfl (ask CB gen)
 | tup ss =>
  cases ss with
  | nil=>exact absurd bY.2 (by simp)
  | cons s1 ss =>
   obtain⟨fs,t1,t2,t3⟩:=qu (h:=h') zs its hz rY (by lia);refine kat_kind (s:={ s with heap:=h',toks:=tk }) (T:=xk s1) t1 (by lia) (fun f hf=>?_) (by cases s1 <;> rfl) (ask _ fun i j hi hj C hC=>?_)
   ·obtain⟨d,as,h1,h2⟩:=t3 f hf;exact ni h1 h2
   ·obtain⟨as,r1⟩:=rY i hi;obtain⟨bs,r2⟩:=rY j hj;exact u4 (s:={ s with heap:=h',toks:=tk }) (n:=7) (by have:=LH i (by lia); lia) (pY i (by lia)) (pY j (by lia)) (GV i (by lia)) (GV j (by lia)) r1 r2 (by rw [LA]; lia) hC
end
end K2
end
section
namespace K2
open PySem PySem.Spec PyProof.Rows L2
section
variable {K:ag} {h:Heap} {C:Addr} {LP:List Value} {newId:String}
inductive JX (h:Heap) (C:Addr) (LP:List Value) (newId:String):Prop
 | mk (bm N nm qn bs OB sn sub ab col dd k0 k1 k2 k3 k5 mN) (o:h.get? C=some (excClassObj nm qn C N bs bm OB sn sub ab col dd k0 k1 k2 k3 k5 newId)) (n:h.Ns N mN) (i:mN "__init__" = none) (t:OwnTail h LP bm):JX h C LP newId
end
end K2
end
section
namespace K2
open PySem PySem.Spec PyProof.Rows L2
noncomputable def Rj:HO->Bool
 | .tup _=>true
 | .jI _ (.lst _)=>true
 | .jI _ (.dK _)=>true
 | .jI _ (.dT _)=>true
 | .jI _ (.ext _)=>true
 | _=>false
noncomputable def hr(H:Hp):Hp:=fun b=>(H b).bind fun o=>if Rj o=true then some o else none
noncomputable def hj(H1 H':Hp):Hp:=fun b=>match H1 b with
 | some o=>some o
 | none=>H' b
end K2
end
section
namespace K2
open PySem PySem.Spec PyProof.Rows L2
noncomputable def subIn(K:ag)(C:Addr)(v:Value):Bool:=match K.lookup C with
 | some ⟨_,_,.cls cd,_⟩=>cd.mro.contains v
 | _=>false
section
variable {X:Cx} {x cn n:Str} {D f:Addr} {fd:aE} {ps:List Str} {k i:Nat} {sp:lS} {O0:List Value} {newD:String} {cat:List Str} {e:Expr} {es:List Expr} {p np pos ep Jp tp:Pos} {Pk:Stmt} {Pf:List Stmt} {t:yK} {th:gx}
structure Qm(X:Cx):Prop where
 st:X.stack=X.env :: X.outer
 fr:X.env.frame=some X.env.locals
 ex:X.ex=[]
structure Clause(X:Cx)(i:Nat)(n cn:Str)(D:Addr)(cat:List Str):Prop where
 nd:X.N.Nodup
 O1:X.N[i]?=some n
 loc:X.env.scope.names.lookup n=some .local
 gl:Gl X cn
 mg:X.mg cn=some (.ref D)
 cls:∃ O0 newD,PySem.W.excIn X.K D O0 newD=true/\O0.contains (.type "BaseException")=true
 cat:∀ c,cat.contains c=true->∃ C LP newId,cR X.K bp c=some (some (.ref C))/\PySem.W.excIn X.K C LP newId=true/\subIn X.K C (.ref D)=true
end
end K2
end
section
namespace K2
open PySem PySem.Spec PyProof.Rows L2 PySem.W PySem.Calls PySem.Builtin PySem.Builtin.Getset_descriptor
section
variable {prog:bf} {w:World} {A:bW} {E:Value->ak->Prop} {s:ak} {K:ag} {a C:Addr} {ox:Obj}
structure Qj(K:ag)(C:Addr):Prop where
 ga:findIn K (.ref C) "__getattribute__" = some (some (.builtin "BaseException.__getattribute__"))
 gn:findIn K (.ref C) "__getattr__" = some none
 O1:findIn K (.ref C) "__class__" = some (some (.builtin "object.__class__"))
 sp:specialIn K (.builtin "object.__class__") "__get__" = some (some (.builtin "getset_descriptor.__get__"))
 tk:takesIn K (.builtin "object.__class__")=some true
 mo:mroIn K C (.type "object")=some true
 mb:mroIn K C (.type "BaseException")=some true
 is:(clsIn K C).isSome=true
end
end K2
end
section
namespace K2
open PySem PySem.Spec PyProof.Rows L2
section
variable {X:Cx} {e:Expr} {te:e7} {pos:Pos}
theorem oU{i:Nat}{x:Str}{pos':Pos}(hN:X.N.Nodup)(hi:X.N[i]?=some x)(he:fI X e te)(hx:autoParam (Loc X.env.scope x) Ao._auto_1)(hs:autoParam (C4 e (some (.Name x pos')) pos.line X.env=pure false) Ar._auto_1)(hf:autoParam (X.fn x=true\/X.env.scope.names.lookup x=some .local) Ao._auto_1) :
  BB X (.Assign [.Name x pos'] e pos) (bV te (aM i)):=GB hN hi hx he hs hf
theorem mB{i:Nat}{x:Str}(hN:X.N.Nodup)(hi:X.N[i]?=some x)(hx:autoParam (Loc X.env.scope x) Ao._auto_1)(hf:autoParam (X.fn x=true\/X.env.scope.names.lookup x=some .local) Ao._auto_1):CW X (.Name x pos) (aM i):=D3 hN hi hx hf
theorem uj{P:bf}{w:World}{K:ag}{mg:Str->Option Value}{base:Heap}{x qual:Str}{st:Stmt}{f:Addr}{fd:aE}{Nn ps:List Str}{k:Nat}{sp:lS}{rd:gx}(F:nv K x qual st f fd)(S:bL Nn ps (aO st))
  (hr:∀ ds G Q,sp ds G Q (fun _ _=>False)->rd (fun _ _=>False) (ends Q) (bb Nn.length ds) G)
  (hb:∀ (i0:Value) (A:bW) (outer:List Env) (s:ak) (H:Hp) (E:XK),gX k (A.deeper (rJ qual (aO st) s.heap.objs.size f i0))->qr (tD fJ P w K mg base Nn qual (aO st) f i0 A outer s H E).FI (fA st) rd)
  (len:autoParam (∀ ds G Q E,sp ds G Q E->ds.length=ps.length) Al._auto_1):eR P w K mg base fJ (k+1) f fd ps (di K sp):=Hk F S len hr hb
theorem rh{N ps:List Str}{sc:Scope}(h1:autoParam (sc.kind=.function) Ar._auto_1)(h2:autoParam (sc.isCoroutine=false) Ar._auto_1)(h3:autoParam (sc.isGenerator=false) Ar._auto_1)(h4:autoParam N.Nodup Ak._auto_1)(h5:autoParam (N.take ps.length=ps) Ar._auto_1)
  (h6:autoParam (∀ x∈ps,sc.names.lookup x=some .local\/sc.names.lookup x=some .cell) Ak._auto_1) (h7:autoParam (∀ y∈sc.names,y.2≠.free) Ak._auto_1):bL N ps sc:=⟨h1,h2,h3,h4,h5,h6,h7⟩
end
end K2
end
section
namespace K2
open PySem PySem.Spec PyProof.Rows L2
theorem lM{α:Type}{us:List α}(h:us.length=1):∃ a,us=[a]:=List.length_eq_one_iff.mp h
theorem NS{α:Type}{us:List α}{n:Nat}(h:us.length=n+1):∃ a t,us=a :: t/\t.length=n:=by
 cases us with
 | nil=>cases h
 | cons a t=>exact⟨a,t,rfl,Nat.succ.inj h⟩
theorem B3{α:Type}{us:List α}(h:us.length=2):∃ a b,us=[a,b]:=by
 obtain⟨a,t,rfl,h2⟩:=NS h; obtain⟨b,rfl⟩:=lM h2; exact⟨a,b,rfl⟩
end K2
end
section
namespace L2
open PySem PySem.Spec PyProof.Rows
section
variable {prog:bf} {w:World} {A:bW} {E:Value->ak->Prop} {s:ak}
theorem ue (d:Addr) (ns:(d == c3)=false):MeetsIn prog w (Builtin.«dict.values» ⟨[.ref d],[]⟩) (fun _ R s=>s.TypeIs (.ref d) "dict"/\R (.ok (.ret (.ref s.heap.objs.size))) { s with heap:=s.heap.push { cls:=.type "dict_values",data:=.fields #[.ref d] } }):=by
 refine .of_wp ?_;rintro A R s ⟨ty,h⟩;refine ae (m:=yI _ _) ?_;unfold yI;refine ae (wpAny_notOrdered_dict ty (show wpAny _ _ (pure d) _ _ s from aq ?_));show wpAny _ _ (ij d >>= _) _ _ s;unfold ij;rw [if_neg (fun z=>by rw [ns] at z; cases z)];exact ae (aq (ae (bR (aq ⟨_,rfl,h⟩))))
variable {v d it:Addr} {od:Obj} {es:Array kd} {ep i:Nat}
theorem y9{Q:Value->ak->Prop}(hv:s.heap.IsValuesView v d)(wZ:s.heap.get? d=some od)(dd:od.data=.dict es ep)
  (hQ:Q (.ref s.heap.objs.size) { s with heap:=s.heap.push { cls:=.type "dict_valueiterator",data:=.fields #[.ref d,.int 0 0,.int es.size 0,.int ep 0] } }):wpAny (model prog w) A (C6 (.ref v)) Q E s:=by
 obtain⟨ov,RB,TR,RU⟩:=id hv;refine yP hv.typeIs FY (c5 FY hv.typeIs F.entry_dict_values_iter ?_ (F.args_dict_values_iter_1 _));unfold Builtin.«dict_values.__iter__» Builtin.Dict_items.dictOf;refine ae (aq (ae (ae (C1 RB RU (x:=.ref d) rfl (aq (ae ?_))))));unfold Builtin.Dict_items.newIterator;refine ae (g6 wZ dd (ae (jh wZ dd ?_)));have D7:c4 "dict_valueiterator" = false:=by decide
 simp only [D7,aB,if_false];exact bR (aq ⟨_,rfl,"dict_valueiterator",_,⟨_,aR _ rfl,rfl⟩,F.slot_dict_valueiterator_next.lookup,by simpa [fM] using hQ⟩)
theorem BF{Q:Option Value->ak->Prop}(hit:s.heap.IsValIter it d i es.size ep)(wZ:s.heap.get? d=some od)(dd:od.data=.dict es ep)(hi:i < es.size)
  (hQ:∀ h',h'.IsValIter it d (i+1) es.size ep->lL it s.heap h'->Q (some es[i].val) { s with heap:=h' }):wpAny (model prog w) A (lV (.ref it)) Q E s:=by
 obtain⟨o,ho,hc,hd⟩:=id hit;have ty:=hit.typeIs;unfold lV;refine ae (w9 (fC (name:=ig "__next__") ty ft (c5 ft ty xh ?_ (wW _))));refine ae (aq (ae (ae ?_)))
 first | refine ae (fK ty (aq (ae (j7 ho hd ?_)))) | refine ae (iU ty (aq (ae (j7 ho hd ?_))))
 have D7:c4 "dict_valueiterator" = false:=by decide
 rw [D7];show wpAny _ _ (if (fN d == cH)=true then _ else _) _ _ s;rw [if_neg (fun z=>by cases z)];refine ae (aq (ae (g6 wZ dd ?_)));rw [if_neg (by simp)];refine ae (aq (ae (jh wZ dd ?_)));rw [if_neg (by simp)];refine aq ?_;dsimp only;rw [if_neg (show ¬ ((i:Int) < 0) from Int.not_lt.mpr (lP i)),eV,y7 hi];dsimp only;refine ae ?_
 first | refine ae (fK ty (aq (ae (ka ty ?_)))) | refine ae (iU ty (aq (ae (ka ty ?_))))
 show wpAny _ _ (setField (.ref it) 1 (fM ((i:Int)+1)) >>= _) _ _ s;refine ae (uJ ho hd (by simp) ?_);have st:(s.heap.update it (nU (·.setIfInBounds 1 (fM ((i:Int)+1))))).IsValIter it d (i+1) es.size ep:=⟨_,fT _ ho (FT (lO hd _)),(Obj.cls_mapFields ..).trans hc,by rw [lO hd]; simp [fM]⟩;have sb:lL it s.heap (s.heap.update it (nU (·.setIfInBounds 1 (fM ((i:Int)+1))))):=dv ..;generalize s.heap.update it (nU (·.setIfInBounds 1 (fM ((i:Int)+1))))=h1 at st sb;have Pd:Shared.TypeIs { s with heap:=h1 } (.ref it) "dict_valueiterator":=st.typeIs (s:={ s with heap:=h1 });refine ae (cM (ae (ka Pd (ae (ka Pd ?_)))));show wpAny _ _ (pure es[i].val) _ _ _;exact aq (aq ⟨_,rfl,aq (hQ _ st sb)⟩)
theorem Ds{Q:Option Value->ak->Prop}(calm:A.handled=none)(hit:s.heap.IsValIter it d i es.size ep)(wZ:s.heap.get? d=some od)(dd:od.data=.dict es ep)(hi:es.size<=i)
  (hQ:∀ h',Heap.ExtBut it s.heap h'->Q none { s with heap:=h' }):wpAny (model prog w) A (lV (.ref it)) Q E s:=by
 obtain⟨o,ho,hc,hd⟩:=id hit;have ty:=hit.typeIs;unfold lV;refine ae (w9 (fC (name:=ig "__next__") ty ft (c5 ft ty xh ?_ (wW _))));refine ae (aq (ae (ae ?_)))
 first | refine ae (fK ty (aq (ae (j7 ho hd ?_)))) | refine ae (iU ty (aq (ae (j7 ho hd ?_))))
 have D7:c4 "dict_valueiterator" = false:=by decide
 rw [D7];show wpAny _ _ (if (fN d == cH)=true then _ else _) _ _ s;rw [if_neg (fun z=>by cases z)];refine ae (aq (ae (g6 wZ dd ?_)));rw [if_neg (by simp)];refine ae (aq (ae (jh wZ dd ?_)));rw [if_neg (by simp)];refine aq ?_;dsimp only;rw [if_neg (show ¬ ((i:Int) < 0) from Int.not_lt.mpr (lP i)),eV,CJ hi];dsimp only;refine ae ?_
 first | refine ae (fK ty (aq (?_))) | refine ae (iU ty (aq (?_)))
 show wpAny _ _ (setField (.ref it) 0 .none >>= _) _ _ s;refine ae (uJ ho hd (by simp) (show wpAny _ _ (newExc (.type "StopIteration") [] >>= _) _ _ _ from ae ?_));simp only [newExc,newTuple];refine ae (bR (ae (m:=uK _ _) (C0 (a:=cH) (by first | rfl | (simp only [uK]; rfl)) (bR ?_ (by size_fits)))) (by size_fits));simp only [raiseNew];refine ae (wpAny_handled ?_);rw [show A.in1.handled=none from calm];refine ae (aq (wpAny_throw ?_));refine ae (wpAny_isInstance (T:="StopIteration") (b:=true) ⟨_,aR _ rfl,rfl⟩ isSubtype_stop (?_));exact aq (hQ _ (((dv ..).extBut.push _).push _))
theorem Co:entryFor table "dict_valueiterator.__iter__" = some Builtin.«dict_keyiterator.__iter__»:=entryFor_alias (id':="dict_keyiterator.__iter__") (by kernel_rfl) rfl (by decide +kernel) (by kernel_rfl)
end
end L2
end
section
namespace K2
open PySem PySem.Spec PyProof.Rows L2 PySem.W
section
variable {X:Cx}
theorem Cu (hc:X.calm=true) (hu:X.A.units+64 < cLine):lp X (.builtin "max") Ht:=by
 intro pins s σ H G xs ds us Q I ab rx rd q;unfold Ht at q;split at q
 ·rename_i a b;obtain⟨w1,w2,rfl,Gk,M8⟩:=rd.two;obtain⟨u1,u2,rfl,QH,Nb⟩:=vals2 rx;cases Gk;cases M8;obtain⟨t,rfl⟩:=QH;obtain⟨t2,rfl⟩:=Nb;refine max_two_ints (I.ok.hd hc) fun h' tk k=>?_;have I2:=I.kept (t':=tk) k;by_cases c:a < b
  ·rw [if_pos c] at q;rw [if_pos (show b > a from c)];exact⟨.int b,H,.int b,G,I2,.refl ab,⟨_,rfl⟩,.int _,q⟩
  ·rw [if_neg c] at q;rw [if_neg (show ¬ b > a from c)];exact⟨.int a,H,.int a,G,I2,.refl ab,⟨_,rfl⟩,.int _,q⟩
 ·exact q.elim
end
end K2
end
section
namespace K2
open PySem PySem.Spec PyProof.Rows L2
section
variable {X:Cx}
theorem GP(hu:X.A.units+64 < cLine):ll X (cG .Lt) Gs:=by
 intro pins s σ H G x y dx dy v u Q I ab rx ry dX dY q;obtain⟨sh,a,b,⟨sa,sb⟩,⟨h1,h2⟩,q⟩:=q;obtain⟨as,ra⟩:=(dq I ab sa).1 x v dX rx;obtain⟨bs,rb⟩:=(dq I ab sb).1 y u dY ry;have d1:=oh sa;exact kW _ sh a b _ s _ _ as bs (aF _) h1 h2 sa.nr sb.nr ra rb (by unfold SN at d1; lia) _ _ _ _ ⟨.bl _,H,.bl _,G,I,.refl ab,rfl,.bl _,q⟩
end
end K2
end
section
namespace K2
open PySem PySem.W PySem.Spec PyProof.Rows PySem.Calls
theorem B4{p q:bf}{loose:List Str}{Xt:ak->Bool}{α:Type}{Yf:ak->α}{Ya:World->α}{N:Nat}(e:opening p=plainProg p.main.scope.names)(hN:Nat.ble 600 N=true)(f:∀ s,fenceModules? p s=some s)
  (h:∀ (w:World) (os:OsState),(topFrom treeTable p w N ⟨boot_heap w.params,Array.mk [],boot_drawn,boot_toks,os⟩).map (fun s=>(openSeen q loose (C8 p.main.body) Xt true s,Yf s))=some (openGood q loose,Ya w)):LeftO p q loose Xt Yf Ya N:=fun w=>by
 obtain⟨⟨h',gs,d,k,os⟩,e1,e2⟩:=Option.map_eq_some_iff.mp (boot_open e hN f w);obtain⟨rfl,rfl,rfl,rfl⟩:h'=boot_heap w.params/\gs=Array.mk []/\d=boot_drawn/\k=boot_toks:=by simpa using e2
 unfold openEnds;rw [e1];exact h w os
noncomputable abbrev AB(l:Df)(q:bf):Bool:=chainsOk q&&opensWell l.row.prog&&(frees l.row.toRowW&&l.row.within.isEmpty)
noncomputable abbrev Ks(l:Df)(q:bf)(s:ak):Bool:=xlAt q [] s&&recOk l.row.records s
theorem Ce{l:Df}{q:bf}{loose:List Str}{K:Params->Frag}{as:List Addr}{d:DefRec}{N:Nat}(ok:l.wellSaid=true)(e:opening l.row.prog=plainProg l.row.prog.main.scope.names)(hN:Nat.ble 600 N=true)(f:∀ s,fenceModules? l.row.prog s=some s)(hK:∀ P,as=(K P).map (·.1))
  (h:∀ (w:World) (os:OsState),(topFrom treeTable l.row.prog w N ⟨boot_heap w.params,Array.mk [],boot_drawn,boot_toks,os⟩).map (fun s=>(openSeen q loose (C8 l.row.prog.main.body) (Ks l q) true s,as.map s.heap.get?))=some (openGood q loose,(K w.params).map fun p=>some p.2))
  (hd:defOf q l.row.name=some (d,[])) (hp:l.row.prog.theDef l.row.name=some (d.params,d.body,d.scope)) (hk:kwWritten? d.params.kwonlyargs d.params.kw_defaults=some []) (hr:(!l.row.writes||l.row.records.isEmpty)=true) (ht:AB l q=true) (hb:l.row.prog.bare) (hw:l.row.toRowW.promised)
  (c:WalkO q loose (XL q []) (InK K) l.row.toRowW d [] fun f vs=>PySem.call f vs):l.Holds :=
 holds_law ok fun k1=>holds_open (B4 (Yf:=Hook.obs (kHook K as hK)) (Ya:=Hook.val (kHook K as hK)) e hN f h) (Hook.of (kHook K as hK)) (Hook.keeps (kHook K as hK)) (fun s x=>xl_of s (Bool.and_eq_true_iff.mp x).1) XL.keeps hd hp hk (fun s x=>recFacts_of (Bool.and_eq_true_iff.mp x).2) hr k1 ht hb hw c
structure At(K:Frag)(x:Str)(st:Stmt)(f:Addr)(fd:aE):Prop where
 a:nsIn K bp x=some (some (.ref f))
 F:L2.nv K x x st f fd
theorem At.mg{K:Frag}{h:Heap}{mg:Str->Option Value}{x:Str}{st:Stmt}{f:Addr}{fd:aE}(z:At K x st f fd)(X:K.In h)(G:h.Ns bp mg):mg x=some (.ref f):=mg_of X G z.a
theorem e6{K:Frag}{x:Str}{st:Stmt}{f:Addr}{oc:Value}{od an:Option Addr}{CM:Array (Option Value)}{kV doc pm i0 ct:Value}(a:autoParam (nsIn K bp x=some (some (.ref f))) Aq._auto_1)(l:autoParam (K.lookup f=some ⟨oc,od,.func (fnOf x x (L2.jQ st) (L2.fA st) (L2.aO st) .none kV doc pm an i0 ct),CM⟩) Aq._auto_1)
  (c:autoParam (codeIn K i0 x=true) Aq._auto_1) (k:autoParam (keepIn K (.ref f)=true) Aq._auto_1):At K x st f (fnOf x x (L2.jQ st) (L2.fA st) (L2.aO st) .none kV doc pm an i0 ct):=⟨a,L2.JE l c k⟩
structure qI(P:bf)(w:World)(K:Frag)(mg:Str->Option Value)(base:Heap)(CX:L2.CZ)(k:Nat)(f:Addr)(fd:aE)(x:Str)(ps:List Str)(sp:L2.Sp):Prop where
 ok:L2.eR P w K mg base CX k f fd ps sp
 mg:mg x=some (.ref f)
 kp:keepIn K (.ref f)=true
 bi:L2.Binds K fd ps []
end K2
end
section
namespace L2
open PySem PySem.Spec PyProof.Rows K2
noncomputable abbrev Cy(h h':Heap):Prop:=∀ b o,h.get? b=some o->h'.get? b=some o
section
variable {prog:bf} {w:World} {A:bW} {E:Value->ak->Prop} {s:ak} {l q it S:Addr} {vs:List Value} {R:Result->ak->Prop} {Q:Value->ak->Prop} {kv:Nat->Value} {lt:Nat->Nat->Bool}
noncomputable def Ij(prog:bf)(w:World)(A:bW)(s:ak)(q:Addr)(vs:List Value)(kv:Nat->Value):Prop :=
 ∀ (i:Nat) (v:Value),vs[i]?=some v->∀ (h:Heap) (tk:Nat),Cy s.heap h ->
  wpAny (model prog w) A.in1 (call (.ref q) [v]) (fun x s'=>x=kv i/\∃ (h':Heap) (FH:Nat),s'={ s with heap:=h',toks:=FH }/\Cy h h') (fun _ _=>False) { s with heap:=h,toks:=tk }
noncomputable def LY(A:bW)(s:ak)(n:Nat)(kv:Nat->Value)(lt:Nat->Nat->Bool):Prop :=
 ∀ (i j:Nat),i < n->j < n->∀ (h:Heap) (tk:Nat),Cy s.heap h->qY A.in1 { s with heap:=h,toks:=tk } (kv i) (kv j) (lt i j)
theorem vV:(toString "min"++toString ".loop" : String) = "min.loop":=by decide
theorem GW(hh:A.handled=none)(hl:s.heap.IsList l vs.toArray)(hI:s.heap.objs.size<=it)(hS:s.heap.objs.size<=S)(kI:S≠it)(turn:Ij prog w A s q vs kv)(cmp:LY A s vs.length kv lt)
  (fin:∀ v h' FH,vs[t4 lt (vs.length - 1)]?=some v->Cy s.heap h'->R (.ok (.ret v)) { s with heap:=h',toks:=FH }) :
  ∀ (r j:Nat) (h:Heap) (tk:Nat) (vb:Value) (c:Nat),vs.length - (j+1)=r->j+1<=vs.length->Cy s.heap h->h.get? S=some (ji "list" #[vb,kv (t4 lt j)] c)->h.IsListIter it l (j+1)->vs[t4 lt j]?=some vb ->
   rK (model prog w) A (.builtin "min.loop" ⟨[.ref it,.ref q,.ref S],[]⟩) R { s with heap:=h,toks:=tk }:=by
 have BW:∀ b o,s.heap.get? b=some o->b≠it:=fun b o e=>ba (a6 (aH e) hI);have GS:∀ b o,s.heap.get? b=some o->b≠S:=fun b o e=>ba (a6 (aH e) hS);obtain⟨ol,Lf,Jr⟩:=id hl;have RI:l≠it:=BW _ _ Lf;have PI:∀ h,Cy s.heap h->h.IsList l vs.toArray:=fun h k=>⟨ol,k _ _ Lf,Jr⟩;have W:=Am (prog:=prog) (w:=w) (A:=A.in1) hh it l RI vs.toArray;have hsz:vs.toArray.size=vs.length:=aC ..;intro r;induction r with
 | zero =>
  intro j h tk vb c hr hj k gS hit Ob;have RM:j+1=vs.length:=by lia
  refine e9 nC ?_;rw [cQ cT _];show wpAny _ A.in1 (xc (.ref S) >>= _) _ _ _;refine ae (j6 gS rfl ?_);show wpAny _ A.in1 (tryCatch (lV (.ref it)) _ >>= _) _ _ _;refine ae (dW (W.done _ _ _ ⟨by rw [hsz,<-RM]; exact hit,PI h k⟩ fun h' FH CQ=>?_));have Se:=CQ S _ (by simpa using kI) gS;show wpAny _ A.in1 (updateSeq S (fun _=>#[]) >>= _) _ _ _;refine ae (gE Se rfl (ae (jV (aq ?_))));refine fin vb _ _ (by rw [show vs.length - 1=j by lia]; exact Ob) fun b o e=>?_;exact((dv h' S (da fun _=>(#[]:Array Value))).2 b (GS b o e)).trans (CQ b o (by simpa using BW b o e) (k b o e))
 | succ r ih =>
  intro j h tk vb c hr hj k gS hit Ob;have ou:j+1 < vs.length:=by lia
  refine e9 nC ?_;rw [cQ cT _];show wpAny _ A.in1 (xc (.ref S) >>= _) _ _ _;refine ae (j6 gS rfl ?_);show wpAny _ A.in1 (tryCatch (lV (.ref it)) _ >>= _) _ _ _;refine ae (dW (W.item (j+1) _ _ _ (by rw [hsz]; exact ou) ⟨hit,PI h k⟩ fun v h' FH hP Jo CQ=>?_));have hv:vs[j+1]?=some v:=by simpa using hP
  have k1:Cy s.heap h':=fun b o e=>CQ b o (by simpa using BW b o e) (k b o e);have OQ:=CQ S _ (by simpa using kI) gS;obtain⟨oI,gI,oc,od⟩:=id Jo.1;show wpAny _ A.in1 (tryCatch (yR [v] (call (.ref q) [v])) _ >>= _) _ _ _;refine ae (dW (cM (oz (turn (j+1) v hv h' FH k1) (fun x Gj he=>?_) fun _ _ hF=>hF.elim)));obtain⟨rfl,h2,Iv,rfl,kk⟩:=he;have k2:Cy s.heap h2:=fun b o e=>kk b o (k1 b o e);have Kd:=kk _ _ OQ;have Mx:=kk _ _ gI;have hb:=Fp lt j;show wpAny _ A.in1 (tryCatch (yR [v,kv (j+1)] (jW .Lt (kv (j+1)) (kv (t4 lt j)) >>= _)) _ >>= _) _ _ _;refine ae (dW (cM (ae (cmp (j+1) (t4 lt j) ou (by lia) h2 Iv k2 prog w _ _ ?_))));refine ae (cM (gZ ?_));refine ae (jV (aq ?_));cases hc:lt (j+1) (t4 lt j) with
  | true =>
   have Lx:t4 lt (j+1)=j+1:=by unfold t4; rw [if_pos hc]
   have s1:=dv h2 S (da fun _=>#[v,kv (j+1)]);obtain⟨c2,sN⟩:∃ c2,(h2.update S (da fun _=>#[v,kv (j+1)])).get? S=some (ji "list" #[v,kv (j+1)] c2):=⟨_,C9 Kd fun _=>#[v,kv (j+1)]⟩;simp only [if_true];refine ae (gE Kd rfl (ae (jV ?_)));rw [vV];exact aq ⟨eG cT _,ih (j+1) _ _ v c2 (by lia) ou (fun b o e=>(s1.2 b (GS b o e)).trans (k2 b o e)) (by rw [Lx]; exact sN) ⟨oI,(s1.2 it kI.symm).trans Mx,oc,od⟩ (by rw [Lx]; exact hv)⟩
  | false =>
   have Lx:t4 lt (j+1)=t4 lt j:=by
    show (if lt (j+1) (t4 lt j)=true then j+1 else t4 lt j)=_;rw [hc]; rfl
   simp only [aB,if_false];refine ae (jV ?_);rw [vV];exact aq ⟨eG cT _,ih (j+1) _ _ vb c (by lia) ou k2 (by rw [Lx]; exact Kd) ⟨oI,Mx,oc,od⟩ (by rw [Lx]; exact Ob)⟩
theorem I0(hh:A.handled=none)(hl:s.heap.IsList l vs.toArray)(kI:0 < vs.length)(turn:Ij prog w A s q vs kv)(cmp:LY A s vs.length kv lt)
  (fin:∀ v h' FH,vs[t4 lt (vs.length - 1)]?=some v->Cy s.heap h'->Q v { s with heap:=h',toks:=FH }) :
  wpAny (model prog w) A (call (.builtin "min") [.ref l] [(ig "key",.ref q)]) Q E s:=by
 obtain⟨ol,Lf,Jr⟩:=id hl;refine kmk_tree PySem.F.kind_min PySem.F.plain_min PySem.F.entry_min (kmk_min_key _ _) ?_;show wpAny _ A.in1 (iP "min" ["key","default"] 0 ⟨[],[(ig "key",.ref q)]⟩ >>= _) _ _ s;refine ae (C0 (show _=pure [some (.ref q),none] from rfl) ?_);refine ae (aq (ae (oy hl (ae (wpAny_newList ?_ (bJ _))))));rw [vV];generalize hI:({ cls:=.type "list_iterator",data:=.fields #[.ref l,.int 0 0] }:Obj)=oI;have z1:(s.heap.push oI).objs.size=s.heap.objs.size+1:=size_push' ..;have OI:(s.heap.push oI).objs.size≠s.heap.objs.size:=by rw [z1]; exact Nat.succ_ne_self _
 refine aq ⟨eG cT _,?_⟩;have kH:Cy s.heap ((s.heap.push oI).push (ji "list" #[] 0)):=fun b o e=>ar _ (ar _ e);have gI:((s.heap.push oI).push (ji "list" #[] 0)).get? s.heap.objs.size=some oI:=ar _ (aR _ (by rw [<-hI]; rfl));have gS:((s.heap.push oI).push (ji "list" #[] 0)).get? (s.heap.push oI).objs.size=some (ji "list" #[] 0):=aR _ rfl;have BW:∀ b o,s.heap.get? b=some o->b≠s.heap.objs.size:=fun b o e=>ba (aH e);have GS:∀ b o,s.heap.get? b=some o->b≠(s.heap.push oI).objs.size:=fun b o e=>by rw [z1]; exact ba (nE (aH e))
 have W:=Am (prog:=prog) (w:=w) (A:=A.in1) hh s.heap.objs.size l (BW _ _ Lf) vs.toArray;refine e9 nC ?_;rw [cQ cT _];show wpAny _ A.in1 (xc (.ref _) >>= _) _ _ _;refine ae (j6 gS rfl ?_);show wpAny _ A.in1 (tryCatch (lV (.ref s.heap.objs.size)) _ >>= _) _ _ _;refine ae (dW (W.item 0 _ _ _ (by rw [aC]; exact kI) ⟨⟨_,gI,by cases hI; rfl,by cases hI; rfl⟩,⟨ol,kH _ _ Lf,Jr⟩⟩ fun v h' FH hP Jo CQ=>?_));have hv:vs[0]?=some v:=by simpa using hP
 obtain⟨Q8,Sf,oc,od⟩:=id Jo.1;have k1:Cy s.heap h':=fun b o e=>CQ b o (by simpa using BW b o e) (kH b o e);have OQ:=CQ _ _ (by simpa using OI) gS;show wpAny _ A.in1 (tryCatch (yR [v] (call (.ref q) [v])) _ >>= _) _ _ _;refine ae (dW (cM (oz (turn 0 v hv h' FH k1) (fun x Gj he=>?_) fun _ _ hF=>hF.elim)));obtain⟨rfl,h2,Iv,rfl,kk⟩:=he;have Kd:=kk _ _ OQ;have Mx:=kk _ _ Sf;have s1:=dv h2 (s.heap.push oI).objs.size (da fun _=>#[v,kv 0]);obtain⟨c2,sN⟩:∃ c2,(h2.update (s.heap.push oI).objs.size (da fun _=>#[v,kv 0])).get? (s.heap.push oI).objs.size=some (ji "list" #[v,kv 0] c2):=⟨_,C9 Kd fun _=>#[v,kv 0]⟩;show wpAny _ A.in1 (updateSeq (s.heap.push oI).objs.size (fun _=>#[v,kv 0]) >>= _) _ _ _;refine ae (gE Kd rfl ?_);rw [vV];exact aq ⟨eG cT _,GW hh hl (aF _) (by rw [z1]; exact rM _) OI turn cmp fin _ 0 _ _ v c2 rfl kI (fun b o e=>(s1.2 b (GS b o e)).trans (kk b o (k1 b o e))) sN ⟨Q8,(s1.2 _ OI.symm).trans Mx,oc,od⟩ hv⟩
end
end L2
end
section
namespace K2
open PySem PySem.Spec PyProof.Rows L2 PySem.W
structure FA(X:Cx)(c P:Addr):Prop where
 code:X.env.code=.ref c
 hd:CodeHd X.base c P
 bm:∃ bm ob,X.mg "__builtins__" = some (.ref bm)/\bm≠oA/\X.base.get? bm=some ob/\ob.cls=.type "module"/\ob.dict=some oA/\ob.data=.plain
section
variable {X:Cx} {pins:List (Addr×Obj)} {σ:L2.St} {H:Hp} {s:ak} {c P:Addr} {q:Str} {params:Dl} {body:Expr} {scope:Scope} {pos:Pos} {E:Value->ak->Prop} {Q:Value->ak->Prop}
theorem Inv.grown(I:Inv X pins σ H s)(hT:H P=some (.wY q)){ps:Array Value}(gP:s.heap.get? P=some (tabObj ps)){h':Heap}{tk:Nat}{c':Addr}(tr:TriplesOk (ps++#[fM pos.line,fM pos.col,.ref c']).toList)
  (cs:∀ p cv,jj p ps.toList=some cv->∃ c',cv=.ref c'/\H c'=some (.own P)/\s.heap.CodeRec (.ref c') q) (ce:∀ p cv,jj p (ps++#[fM pos.line,fM pos.col,.ref c']).toList=some cv->jj p ps.toList=some cv\/cv=.ref c')
  (hx:Heap.ExtBut P s.heap h') (Lo:s.heap.objs.size<=c') (wc:h'.CodeRec (.ref c') q) (Mg:h'.get? P=some (tabObj (ps++#[fM pos.line,fM pos.col,.ref c']))):Inv X pins σ (upd H c' (.own P)) { s with heap:=h',toks:=tk }:=by
 have hn:H c'=none:=I.bY.fresh Lo;have nP:∀ b,H b=none->b≠P:=fun b e z=>by rw [z,hT] at e; cases e
 have nc:∀ b o,s.heap.get? b=some o->b≠c':=fun b o e=>ba (a6 (aH e) Lo);refine I.step (g':=s.gens) (d':=s.drawn) (ch:=[]) (fun _ z=>nomatch z) (fun b o _ _ _ e n=>hx b o (nP b n) e) (fun b o _ _ _ e n=>⟨o.slots,hx b o (nP b n) e⟩) (fun b o _ e n=>by rw [bw (nc b o e)]; exact n) (fun b o _ e=>?_)
  (fun b xs e=>by rw [bw (bQ e hn)]; exact e) (fun b o u e=>by rw [bw (bQ e hn)]; exact e) (fun b u e=>by rw [bw (bQ e hn)]; exact e) (fun m hm=>?_) (fun b u e=>?_) I.bare
 ·by_cases hb:b=P
  ·rw [hb]; exact⟨_,Mg⟩
  ·exact⟨o,hx b o hb e⟩
 ·obtain⟨o,es,ep,ho,r⟩:=hm;exact⟨o,es,ep,hx _ o (nP _ I.free) ho,r⟩
 ·by_cases hb:b=c'
  ·subst hb;rw [cq] at e;cases e;obtain⟨_,oc,_,_,e3,e4,_⟩:=wc;cases e3;exact⟨oc,e4⟩
  ·rw [bw hb] at e;by_cases Mr:b=P
   ·subst Mr;rw [hT] at e;cases e;refine⟨_,Mg,tr,fun p cv y=>?_⟩;rcases ce p cv y with y | rfl
    ·obtain⟨d,e1,e2,c2,oc,vs,tq,e3,e4,r⟩:=cs p cv y;cases e3;exact⟨d,e1,by rw [bw (bQ e2 hn)]; exact e2,d,oc,vs,tq,rfl,hx _ _ (fun z=>by rw [z,hT] at e2; cases e2) e4,r⟩
    ·exact⟨c',rfl,cq,wc⟩
   ·refine(I.bY b u e).ke (fun d v hd r=>hx d v ?_ r) (fun d z=>by rw [bw (bQ z hn)]; exact z) (fun d xs z=>by rw [bw (bQ z hn)]; exact z);rcases hd with rfl | hd
    ·exact Mr
    ·rintro rfl;rw [hT] at hd; cases hd
theorem Aa{p pos:Pos}{cv c:Value}:∀ (l:List Value),TriplesOk l->jj p (l++[fM pos.line,fM pos.col,c])=some cv->jj p l=some cv\/cv=c:=by
 intro l
 fun_induction jj p l
 ·rename_i hc;intro _ h;left;simpa only [aP,jj,hc,if_true] using h
 ·rename_i hc ih;intro tr h;exact ih tr (by simpa only [aP,jj,hc,aB,if_false] using h)
 ·rename_i l hl;intro tr h;cases l with
  | nil =>
   right;simp only [a5,fM,jj] at h;split at h
   ·exact(aW h).symm
   ·cases h
  | cons a l =>
   exfalso;unfold TriplesOk at tr;split at tr
   ·rename_i e; cases e
   ·rename_i e; exact hl _ _ _ _ _ _ e
   ·exact tr
theorem Ek (I:Inv X pins σ H s) (hT:H P=some (.wY q)) (L:FA X c P) (hq:X.env.qual++"<lambda>" = q) (wd:yS scope X.env=pure []) (Jx:defaultsOf params X.env=([],[]))
  (h:∀ (f c':Addr) (Bt pm:Value) (h':Heap) (tk:Nat) (H':Hp),(∀ G,jJ X.K H G->Mv X.K H G H' G)->Inv X pins σ H' { s with heap:=h',toks:=tk }->h'.get? f=some (kla_obj "<lambda>" q params body scope [] pm c' Bt)->h'.CodeRec (.ref c') q ->
   Q (.ref f) { s with heap:=h',toks:=tk }):wpAny (model X.prog X.w) X.A (eval (.Lambda params body scope pos) X.env) Q E s:=by
 refine kla_eval Jx ?_;rw [hq];obtain⟨ps,gP,tr,cs⟩:=I.bY P _ hT;have Mp:=I.mod.glob.keeps I.bk;have RP:bp≠P:=fun z=>by
  obtain⟨o,es,ep,e,hd,_⟩:=Mp;rw [z,gP] at e; cases e; cases hd
 obtain⟨bm,ob,b1,b2,b3,b4,b5,b6⟩:=L.bm;have Mr:bm≠P:=fun z=>by
  have e:=I.bk _ _ b3;rw [z,gP] at e; cases e; cases b4
 have R0:bm≠bp:=fun z=>by
  obtain⟨o,es,ep,e,hd,_⟩:=Mp;have e2:=I.bk _ _ b3;rw [z,e] at e2; cases e2; rw [hd] at b6; cases b6
 have HB:s.heap.BuiltinsAt X.mg P:=⟨bm,ob,b1,b2,R0,Mr,I.bk _ _ b3,b4,b5,b6⟩;cases ha:jj pos ps.toList with
 | none =>
  refine kla_makeFunction (mg:=X.mg) wd I.ok.glob Mp L.code (L.hd.keeps I.bk) gP tr ha RP HB fun c' Bt h' tk hx Lo ou wc Mg=>?_;have hl:(ps++#[fM pos.line,fM pos.col,fN c']).toList=ps.toList++[fM pos.line,fM pos.col,.ref c']:=by simp
  have I1:=Inv.grown (tk:=tk) I hT gP (by rw [hl]; exact TriplesOk_snoc _ _ _ _ tr) cs (fun p cv y=>Aa _ tr (by rw [<-hl]; exact y)) hx Lo wc Mg;have hn:H c'=none:=I.bY.fresh Lo;have I2:=I1.kept (h':=h'.push (kla_obj "<lambda>" q params body scope [] ((X.mg "__name__").getD .none) c' Bt)) (t':=tk) fun b o e=>ar _ e;refine h h'.objs.size c' Bt _ _ tk _ (fun G ab=>.Kb ab hn) I2 (aR _ rfl) ?_;obtain⟨c2,oc,vs,t,e3,e4,r⟩:=wc;exact⟨c2,oc,vs,t,e3,ar _ e4,r⟩
 | some cv =>
  obtain⟨c',rfl,_,c2,oc,vs,t,e3,e4,r⟩:=cs pos cv ha;refine kla_makeFunctionHit (mg:=X.mg) wd I.ok.glob Mp L.code (L.hd.keeps I.bk) gP tr ha HB fun Bt h' tk hk hsz=>?_;have I2:=I.kept (h':=h'.push (kla_obj "<lambda>" q params body scope [] ((X.mg "__name__").getD .none) c' Bt)) (t':=tk) fun b o e=>ar _ (hk b o e);exact h h'.objs.size c' Bt _ _ tk _ (fun G ab=>.refl ab) I2 (aR _ rfl) ⟨c2,oc,vs,t,e3,ar _ (hk _ _ e4),r⟩
end
theorem El{prog:bf}{w:World}{A:bW}{s:ak}{f c':Addr}{q x:Str}{params:Dl}{scope:Scope}{pm Bt:Value}{t:Addr}{its:List Value}{v0:Value}{p1 p2 p3:Pos}{j1:Nat}{E:Value->ak->Prop}{Q:Value->ak->Prop}
  (hf:s.heap.get? f=some (kla_obj "<lambda>" q params (.Subscript (.Name x p1) (.Constant (.int 0) j1 p2) p3) scope [] pm c' Bt)) (hc:s.heap.CodeRec (.ref c') q) (hd:A.depth < FQ) (Jt:s.heap.NoLimit) (ht:IsTup s.heap t its.toArray) (h0:its[0]?=some v0)
  (x3:∀ u,bindArgs (kla_fn "<lambda>" q params (.Subscript (.Name x p1) (.Constant (.int 0) j1 p2) p3) scope [] pm (.ref c') Bt) ⟨[u],[]⟩=pure [(x,u)]) (hx:scope.names.lookup x=some .local) (OC:scope.isCoroutine=false) (Jw:scope.isGenerator=false) (hk:scope.kind=.function)
  (iZ:∀ y∈scope.names,y.2≠.cell) (zJ:(x == ("__debug__" : Str))=false)
  (h:∀ h' tk,Cy s.heap h'->Q v0 { s with heap:=h',toks:=tk }):wpAny (model prog w) A (call (.ref f) [.ref t]) Q E s:=by
 refine wpAny_call (kla_callFunE hd hf rfl OC Jw rfl hc ?_);rw [x3];refine aq (wpAny_newFunctionEnv iZ (fun y hy=>by rw [List.mem_singleton.mp hy]; exact hx) (fun kY zI Mj=>⟨Jt.fresh _ Mj,?_⟩) hk);have HV:Cy s.heap kY:=fun b o e=>Mj.extBut b o (ba (aH e)) (ar _ e);refine kla_codeExpr (Subscript_ (wpAny_Name (wpAny_loadName_local hk hx zI (v:=.ref t) (by simp) ?_) zJ));refine wpAny_Constant_int ?_;have PJ:IsTup kY t its.toArray:=let ⟨o,e,r⟩:=ht; ⟨o,HV _ _ e,r⟩
 have hz:0 < its.toArray.size:=by rw [aC]; exact(List.getElem?_eq_some_iff.mp h0).1
 refine qJ (x:=v0) PJ.typeIs PySem.F.slot_tuple_getitem.lookup (getItem_tuple (j:=0) (Q:=fun r s'=>r=v0/\_) PJ (by decide) (by decide) ?_ (by simpa using h0) ⟨rfl,?_⟩) rfl
 ·rw [C5 (Int.le_refl 0) (by simpa using hz)]; rfl
 ·exact h _ _ HV
end K2
end
section
namespace K2
open PySem PySem.Spec PyProof.Rows L2 PySem.W
section
variable {X:Cx}
theorem Hf{K:ag}{H:Hp}{G:Gp}{v:V}{d:D}{ds:List D}(h:IsL G d ds)(ab:jJ K H G)(r:bF K H v d):∃ l vs,v=.ref l/\uF K H l vs/\aX K H vs ds:=by
 rcases h with rfl | ⟨a,rfl,e⟩
 ·cases r with
  | cO hq rs=>exact⟨_,_,rfl,hq.sq,rs⟩
 ·cases r with
  | ref =>
   obtain⟨vs,hv,rs⟩:=ab.lst e;exact⟨a,vs,rfl,.of hv,rs⟩
variable {a:Expr} {ta:e7} {pos p kp p1 p2 p3 NP:Pos} {j1:Nat} {c P:Addr} {q x:Str} {params:Dl} {scope:Scope}
theorem D5 (hT:X.Af P=some (.wY q)) (L:FA X c P) (hr:gX 1 X.A) (hg:Gl X "min") (hm:X.mg "min" = none) (ha:fI X a ta) (hc:autoParam (X.calm=true) Ar._auto_1) (hq:autoParam (X.env.qual++"<lambda>" = q) Ar._auto_1) (wd:autoParam (yS scope X.env=pure []) Ar._auto_1) (Jx:autoParam (defaultsOf params X.env=([],[])) Ar._auto_1)
  (x3:autoParam (∀ pm c' Bt u,bindArgs (kla_fn "<lambda>" q params (.Subscript (.Name x p1) (.Constant (.int 0) j1 p2) p3) scope [] pm (.ref c') Bt) ⟨[u],[]⟩=pure [(x,u)]) Aj._auto_1) (hx:autoParam (scope.names.lookup x=some .local) Ar._auto_1) (OC:autoParam (scope.isCoroutine=false) Ar._auto_1) (Jw:autoParam (scope.isGenerator=false) Ar._auto_1) (hk:autoParam (scope.kind=.function) Ar._auto_1)
  (iZ:autoParam (∀ y∈scope.names,y.2≠.cell) Ad._auto_1) (zJ:autoParam ((x == ("__debug__" : Str))=false) Ad._auto_1) (hs:autoParam (bI [a] X.env=[(false,eval a X.env)]) Ar._auto_1) :
  fI X (.Call (.Name "min" p) [a] [⟨some "key",.Lambda params (.Subscript (.Name x p1) (.Constant (.int 0) j1 p2) p3) scope NP,kp⟩] pos) (E9 ta):=by
 intro E pins s σ H τ G Q hE I h;have hA:BC X [a] (aJ ta a7):=ax ha aL hs;refine gm (qg I.inv hg hm rfl (callWith_builtin_kwB ?_ rfl ?_))
 ·rw [hs]; rfl
 rw [show kc pos (bI [a] X.env)=(false,eval a X.env) :: [] from by rw [hs]; rfl];refine evalArgs_kwB rfl ?_;rw [show ((false,eval a X.env) :: []:List (Bool×Sem Value))=kc pos (bI [a] X.env) from by rw [hs]; rfl];refine xl hA pos hE I (R:=Nt fun x G1=>zu x G1 Q) h fun vs H1 ds G1 us s1 I1 m1 r1 je q1=>?_;refine kws_cons (Ek I1.inv (I1.inv.base.pV P q hT) L hq wd Jx fun f c' Bt pm h' tk H2 mv I2 gf wc=>kws_nil ?_)
 match ds,q1 with
 | [d],q1 =>
  obtain⟨ds,sh,kf,il,kI,HW,fin⟩:zu d G1 Q:=q1;obtain⟨v,rfl,rv⟩:=je.one;obtain⟨u,rfl,ru⟩:=r1.one;have m2:=mv G1 I1.ab;obtain⟨l,ws,rfl,sq,rs⟩:=Hf il m2.ab (rv.mono (m2.kp I1.ab));cases ru;obtain⟨its,M9,pl,hz⟩:=I2.list sq;have l1:=M9.length;have l2:=rs.length;show wpAny (model X.prog X.w) X.A (call (.builtin "min") [.ref l] [(ig "key",.ref f)]) _ _ _;have ex:∀ i:Nat,∃ kv:Value,∀ u,its[i]?=some u->∃ t J3,u=.ref t/\IsTup h' t (List.toArray J3)/\J3[0]?=some kv/\∃ as,Reads h' kv (pd (kf i)) as:=by
   intro i;by_cases hi:i < its.length
   ·obtain⟨d,hd⟩:∃ d,ds[i]?=some d:=⟨_,ai (by lia)⟩;obtain⟨k,r,rfl,sn,Mi⟩:=HW i _ hd;obtain⟨w,hw,nX⟩:=rs.get hd;obtain⟨u,hu,ru⟩:=M9.get hw;cases nX with
    | tup ht QI =>
     cases QI with
     | cons rk _ =>
      cases ru;obtain⟨J3,rj,pt,_⟩:=I2.tuple (.of ht);obtain⟨u0,Jn,QL⟩:=Vals.get rj (i:=0) rfl;obtain⟨as,rY⟩:=(dq I2 m2.ab sn).1 _ _ rk QL;refine⟨u0,fun u' rq=>?_⟩;rw [hu] at rq;cases rq;exact⟨_,_,rfl,pt,Jn,as,rY⟩
   ·exact⟨.none,fun u hu=>absurd (List.getElem?_eq_some_iff.mp hu).1 hi⟩
  obtain⟨kv,PR⟩:=Classical.axiomOfChoice ex;have Lr:∀ i,i < its.length->(pd (kf i)).depth<=SN/\bD sh (kf i)=true/\nr (kf i)=true:=fun i hi=>by
   obtain⟨d,hd⟩:∃ d,ds[i]?=some d:=⟨_,ai (by lia)⟩;obtain⟨k,r,rfl,sn,Mi⟩:=HW i _ hd;exact⟨oh sn,Mi,sn.nr⟩
  have Og:∀ i,i < its.length->∃ as,Reads h' (kv i) (pd (kf i)) as:=fun i hi=>by
   obtain⟨t,J3,_,_,_,as,rd⟩:=PR i _ (ai hi);exact⟨as,rd⟩
  refine I0 (s:={ s1 with heap:=h',toks:=tk }) (vs:=its) (kv:=kv) (lt:=fun i j=>iY (kf i) (kf j)) (I2.ok.hd hc) pl.isList (by lia) (fun i u hu h2 Iv He=>?_) (fun i j hi hj h2 Iv He=>?_) fun u h2 Iv hu He=>?_
  ·obtain⟨t,J3,rfl,pt,h0,_⟩:=PR i u hu;have Lc:h2.CodeRec (.ref c') q:=let ⟨c2,oc,vs,t,e3,e4,r⟩:=wc; ⟨c2,oc,vs,t,e3,He _ _ e4,r⟩
   refine El (s:={ s1 with heap:=h2,toks:=Iv }) (its:=J3) (He _ _ gf) Lc hr.in1.depth (I2.nolimit.keeps He) (let ⟨o,e,r⟩:=pt; ⟨o,He _ _ e,r⟩) h0 (x3 pm c' Bt) hx OC Jw hk iZ zJ fun h3 Qw Ri=>⟨rfl,h3,Qw,rfl,Ri⟩
  ·obtain⟨d1,QE,n1⟩:=Lr i hi;obtain⟨d2,QD,n2⟩:=Lr j hj;obtain⟨as,ra⟩:=Og i hi;obtain⟨bs,rb⟩:=Og j hj;have TL:=hr.in1.units;exact kW _ sh _ _ _ _ _ _ as bs (aF _) QE QD n1 n2 (Reads.keeps He ra) (Reads.keeps He rb) (by unfold SN at d1; lia)
  ·have e:its.length=ds.length:=by lia
   rw [e] at hu;obtain⟨w,hw⟩:∃ w,ws[t4 (fun i j=>iY (kf i) (kf j)) (ds.length - 1)]?=some w:=⟨_,ai (by have:=(List.getElem?_eq_some_iff.mp hu).1; lia)⟩;obtain⟨u',rq,nX⟩:=Vals.get M9 hw;rw [hu] at rq;cases rq;obtain⟨d,hd,QM⟩:=rs.OO hw;exact⟨w,H2,d,G1,I2.kept (t':=Iv) He,m1.trans m2,nX,QM,fin d hd⟩
 | [],q1=>exact q1.elim
 | _ :: _ :: _,q1=>exact q1.elim
end
end K2
end
section
namespace K2
open PySem PySem.Spec PyProof.Rows L2 PySem.W
noncomputable abbrev Tb(P:Addr)(q:Str):Hp->Prop:=fun H=>H P=some (.wY q)
noncomputable def kg(T:Hp->Prop)(K:Frag)(sp:lS):Sp:=fun vs H Q E=>T H/\di K sp vs H Q E
structure wO(mg:Str->Option Value)(base:Heap)(c P:Addr):Prop where
 hd:CodeHd base c P
 bm:∃ bm ob,mg "__builtins__" = some (.ref bm)/\bm≠oA/\base.get? bm=some ob/\ob.cls=.type "module"/\ob.dict=some oA/\ob.data=.plain
theorem wO.lam{CX:CZ}{P:bf}{w:World}{K:Frag}{mg:Str->Option Value}{base:Heap}{N:List Str}{qual:Str}{scope:Scope}{f c Pt:Addr}{A:bW}{outer:List Env}{s:ak}{H:Hp}{E:XK}(h:wO mg base c Pt):FA (tD CX P w K mg base N qual scope f (.ref c) A outer s H E).FI c Pt:=⟨rfl,h.hd,h.bm⟩
theorem Hj{P:bf}{w:World}{K:Frag}{mg:Str->Option Value}{base:Heap}{x qual:Str}{st:Stmt}{f:Addr}{fd:aE}{Nn ps:List Str}{k:Nat}{sp:lS}{rd:gx}{T:Hp->Prop}(F:nv K x qual st f fd)(S:bL Nn ps (aO st))(len:∀ ds G Q E,sp ds G Q E->ds.length=ps.length)
  (hr:∀ ds G Q,sp ds G Q (fun _ _=>False)->rd (fun _ _=>False) (ends Q) (bb Nn.length ds) G)
  (hb:∀ (i0:Value) (A:bW) (outer:List Env) (s:ak) (H:Hp) (E:XK),fd.code=i0->T H->gX k (A.deeper (rJ qual (aO st) s.heap.objs.size f i0))->qr (tD fJ P w K mg base Nn qual (aO st) f i0 A outer s H E).FI (fA st) rd):eR P w K mg base fJ (k+1) f fd ps (kg T K sp):=by
 obtain⟨oc,od,kV,doc,pm,an,i0,ct,CM,rfl,lk,w4⟩:=F.ex;refine HZ lk w4 S ((by rintro vs H Q E ⟨_,ds,G,Q2,r,ab,q,_⟩; exact by rw [r.length]; exact len _ _ _ _ q)) ?_;rintro A outer s H vs Q E EC ⟨hT,ds,G,Q2,r,ab,q,kk⟩;have OF:=DZ (hb i0 A outer s H E rfl hT EC) (E:=fun _ _=>False) (Lk.none fun _ _ z=>z);refine⟨_,OF.FI,?_⟩;exact⟨bb Nn.length ds,G,ends Q2,xn r,ab,hr ds G Q2 q,fun gi H' lr G' mv z=>kk _ _ _ _ z mv .bX,fun v H' d G' mv IJ z=>kk _ _ _ _ z mv IJ,fun _ _ z=>z,fun _ _ z=>z⟩
theorem OT{P:bf}{w:World}{K:Frag}{mg:Str->Option Value}{base:Heap}{x qual:Str}{st:Stmt}{f:Addr}{fd:aE}{Nn ps:List Str}{k:Nat}{sp:lS}{rd:gx}{T:Hp->Prop}(F:nv K x qual st f fd)(S:bL Nn ps (aO st))
  (hr:∀ ds G Q,sp ds G Q (fun _ _=>False)->rd (fun _ _=>False) (ends Q) (bb Nn.length ds) G)
  (hb:∀ (i0:Value) (A:bW) (outer:List Env) (s:ak) (H:Hp) (E:XK),fd.code=i0->T H->gX k (A.deeper (rJ qual (aO st) s.heap.objs.size f i0))->qr (tD fJ P w K mg base Nn qual (aO st) f i0 A outer s H E).FI (fA st) rd)
  (len:autoParam (∀ ds G Q E,sp ds G Q E->ds.length=ps.length) Al._auto_1):eR P w K mg base fJ (k+1) f fd ps (kg T K sp):=Hj F S len hr hb
section
variable {X:Cx} {k:Nat} {f P:Addr} {q:Str} {fd:aE} {ps:List Str} {sp:lS} {x:Str} {p pos:Pos} {e:Expr} {es:List Expr} {t:yK}
theorem p8(hT:X.Af P=some (.wY q))(F:eR X.prog X.w X.K X.mg X.base fJ k f fd ps (kg (Tb P q) X.K sp))(hr:gX k X.A)(hg:Gl X x)(hm:X.mg x=some (.ref f))(hk:gy X.K (.ref f)=true)(hb:Binds X.K fd ps [])
  (ha:BC X (e :: es) t) (zJ:autoParam ((x == ("__debug__" : Str))=false) Ad._auto_1) (he:autoParam (bI (e :: es) X.env=(false,eval e X.env) :: bI es X.env) Ar._auto_1) (CO:autoParam ((kc pos (bI es X.env)).any (·.1)=false) Ar._auto_1) :
  fI X (.Call (.Name x p) (e :: es) [] pos) (bH sp t):=by
 intro E pins s σ H τ G Q hE I h;refine gm (A3 I.inv hg hm ?_ zJ);refine FD (h₀:=X.base) I.inv.ok.mod.Md hk (xl ha pos hE I h fun vs H1 ds G1 us s1 I1 m1 r rd q=>⟨I1.inv.A7,?_⟩) he CO;refine eI (DJ F hr hb .nil HN I1.inv r (Q:=w7 X.K H1 G1 Q) ?_) fun _ _ z=>(ny.of z).trans m1;rw [dU];exact⟨I1.inv.base.pV P _ hT,ds,G1,Q,rd,I1.ab,q,fun d G' v H' q' m' J0=>⟨d,G',m',J0,q'⟩⟩
end
theorem zD{K:Frag}{H:Hp}{a P:Addr}{q:Str}{ns:List Int}(hT:Tb P q H)(hF:JT K H a (ns.map V.int))(hl:ns.length<=63):kg (Tb P q) K uQ [.ref a] H (fun v _=>v=.bl true) fun _ _ _=>False:=by
 refine⟨hT,[.cO (ns.map D.int)],fun _=>none,fun d _=>d=.bl true,.cons (.cO hF (aX.AZ ns)) .nil,fun a g e=>(by cases e),⟨ns,rfl,hl,fun _=>rfl,fun _=>rfl⟩,fun d G' v H' e mv r=>?_⟩;subst e;cases r;rfl
theorem B7{Pg:bf}{w:World}{K:Frag}{mg mb:Str->Option Value}{k:Nat}{fa a c P:Addr}{fd:aE}{x q:Str}{dc:ak}{vs:List Value}{ns:List Int}
  (KX:K.In dc.heap) (zI:dc.heap.Ns bp mg) (hb:dc.heap.Ns oA mb) (OF:∀ x:Str,x≠"__name__"->mb x=cF x) (Jt:dc.heap.NoLimit) (hg:dc.gens=#[])
  (ha:dc.heap.get? a=some { cls:=.type "list",data:=.seq vs.toArray }) (hi:jk vs ns) (hl:ns.length<=63) (hr:gX k Dc) (C:wO mg dc.heap c P) (gP:dc.heap.get? P=some (tabObj #[])) (OL:K.lookup P=none)
  (F:∀ base:Heap,K.In base->base.Ns bp mg->wO mg base c P->eR Pg w K mg base fJ k fa fd [x] (kg (Tb P q) K uQ)) (x3:∀ (s:ak) (u:Value),BindsTo s fd ⟨[u],[]⟩ [(x,u)]) :
  rK (model Pg w) Dc (.call (.ref fa) ⟨[.ref a],[]⟩) (fun r s'=>r=.ok (.ret (.bool true))/\OldK dc.heap s'.heap/\s'.os=dc.os/\vD s'.gens) dc:=by
 have rv:=uO hi;have NR:=hi.length;have Mt:a≠P:=fun z=>by rw [z,gP] at ha; cases ha
 have Bj:ns.length<=aY:=bx hl (by decide);have core:∀ H:Hp,Tb P q H->JT K H a (ns.map V.int)->ow Pg w H dc.heap->(∀ b,H b≠none->b=a\/b=P)->(H a≠none->K.lookup a=none)->(∀ u,H a=some u->∃ o xs,u=.jI o xs) ->
   rK (model Pg w) Dc (.call (.ref fa) ⟨[.ref a],[]⟩) (fun r s'=>r=.ok (.ret (.bool true))/\OldK dc.heap s'.heap/\s'.os=dc.os/\vD s'.gens) dc:=by
  intro H hT hS bY hA hK hZ;have rE:∀ {b:Addr} {o:Obj},dc.heap.get? b=some o->H b=none->(ui dc.heap H).get? b=some o:=fun e n=>EI e n;have nA:∀ {b:Addr} {o:Obj},dc.heap.get? b=some o->o.cls≠.type "list"\/o.data≠.seq vs.toArray 0->o.data≠.fields #[]->H b=none:=fun {b o} e d1 d2=>by
   cases z:H b with
   | none=>rfl
   | some u =>
    rcases hA b (by rw [z]; simp) with rfl | rfl
    ·rw [ha] at e; cases e;rcases d1 with d1 | d1
     ·exact absurd rfl d1
     ·exact absurd rfl d1
    ·rw [gP] at e; cases e; exact absurd rfl d2
  have Ma:∀ {b:Addr} {m:Str->Option Value},dc.heap.Ns b m->(ui dc.heap H).Ns b m:=fun {b m} ⟨o,es,ep,e,d,r⟩=>⟨o,es,ep,rE e (nA e (.inr (by rw [d]; intro z; cases z)) (by rw [d]; intro z; cases z)),d,r⟩;have P1:K.In (ui dc.heap H):=fun b o e=>rE (KX b o e) (by
   cases z:H b with
   | none=>rfl
   | some u =>
    rcases hA b (by rw [z]; simp) with rfl | rfl
    ·rw [hK (by rw [z]; simp)] at e; cases e
    ·rw [OL] at e; cases e)
  have hC:wO mg (ui dc.heap H) c P:=by
   obtain⟨⟨o,wv,file,tf,flags,tg,Rm,text,tt,e,e1,e2,r⟩,bm,ob,b1,b2,b3,b4,r2⟩:=C;refine⟨⟨o,wv,file,tf,flags,tg,Rm,text,tt,rE e (nA e (.inl (by rw [e1]; intro z; injection z with z; exact absurd z (by decide))) (by rw [e2]; intro z; cases z; have r1:=r.1; cases r1)),e1,e2,r⟩,bm,ob,b1,b2,rE b3 (nA b3 (.inl (by rw [b4]; intro z; injection z with z; exact absurd z (by decide))) (by rw [r2.2]; intro z; cases z)),b4,r2⟩
  have hM:Mod K mg (ui dc.heap H):=⟨P1,Ma zI,⟨mb,Ma hb,OF⟩,let ⟨mc,h1,h2⟩:=Jt; ⟨mc,Ma h1,h2⟩⟩;have e0:HC Pg w K mg (ui dc.heap H) Dc [] dc H:=⟨rfl,hM,fun b o e=>GU e,Nat.le_of_eq (Cd _ _),trivial,fun b hb=>absurd (show b∈([]:List Addr) from hb) (by simp),bY,.of_eq hg⟩;refine codeAny_mono ((F _ P1 (Ma zI) hC).run Dc [] dc H ⟨[.ref a],[]⟩ [.ref a] [.ref a] _ _ hr e0 (x3 dc (.ref a)) (.cons rfl .nil) (zD hT hS hl)) fun r s' h=>?_;cases r with
  | error e=>exact bg h
  | ok fl =>
   cases fl with
   | next=>exact bg h
   | brk=>exact bg h
   | cont=>exact bg h
   | ret u =>
    obtain⟨v,H',os,bare,un,Lg,r',q1⟩:=h;have q':v=.bl true:=q1;subst q';obtain rfl:u=t6 true:=r';have kb:∀ b o,b≠P->dc.heap.get? b=some o->s'.heap.get? b=some o:=fun b o hb e=>by
     cases z:H b with
     | none=>exact un.keep b o e z (by intro z; exact absurd (show b∈([]:List Addr) from z) (by simp)) (by simp)
     | some u =>
      have RZ:=(hA b (by rw [z]; simp)).resolve_right hb;subst RZ;obtain⟨ob,xs,rfl⟩:=hZ u z;have z2:=un.sP b ob _ z;obtain⟨e1,_⟩:=bY b _ z;obtain⟨e2,_⟩:=Lg b _ z2;rw [e] at e1; cases e1;exact e2
    obtain⟨ps,P5,_⟩:=Lg P _ (un.pV P q hT);refine⟨rfl,⟨fun b o e=>?_,fun b o e=>?_⟩,os,bare⟩
    ·by_cases hb:b=P
     ·subst hb;rw [gP] at e; cases e;exact .inr (.inl ⟨(C.hd.tab gP).isCodeTable,rfl,#[],ps,rfl,by rw [P5]; simp⟩)
     ·exact .inl (kb b o hb e)
    ·by_cases hb:b=P
     ·subst hb; exact⟨_,P5⟩
     ·exact⟨o,kb b o hb e⟩
 have Pq:∀ H:Hp,eQ Pg w H dc.heap P (.wY q):=fun H=>⟨#[],gP,trivial,fun pos cv z=>by cases z⟩;cases hk:K.lookup a with
 | some o =>
  have e:=KX a o hk;rw [ha] at e;cases e;refine core (fun b=>if b=P then some (.wY q) else none) (if_pos rfl) (.inr ⟨_,vs.toArray,_,hk,rfl,rfl,rfl,by rw [aC,NR]; exact Bj,by simpa using rv⟩) (fun b u z=>?_) (fun b z=>?_) (fun z=>absurd (if_neg Mt) z) fun u z=>by
   have z':=(if_neg Mt).symm.trans z;cases z'
  ·by_cases hb:b=P
   ·have z':=(if_pos hb).symm.trans z;cases z';subst hb;exact Pq _
   ·have z':=(if_neg hb).symm.trans z;cases z'
  ·by_cases hb:b=P
   ·exact .inr hb
   ·exact absurd (if_neg hb) z
 | none =>
  have hH:∀ (b:Addr) (u:HO),(if b=P then some (HO.wY q) else if b=a then some (.jI { cls:=.type "list",data:=.seq vs.toArray } (.lst (ns.map V.int))) else none)=some u->(b=P/\u=.wY q)\/(b=a/\u=.jI { cls:=.type "list",data:=.seq vs.toArray } (.lst (ns.map V.int))):=fun b u z=>by
   split at z
   ·exact .inl ⟨‹_›,(aW z).symm⟩
   ·split at z
    ·exact .inr ⟨‹_›,(aW z).symm⟩
    ·cases z
  refine core (fun b=>if b=P then some (.wY q) else if b=a then some (.jI { cls:=.type "list",data:=.seq vs.toArray } (.lst (ns.map V.int))) else none) (if_pos rfl) (.inl ⟨{ cls:=.type "list",data:=.seq vs.toArray },(if_neg Mt).trans (if_pos rfl)⟩) (fun b u z=>?_) (fun b z=>?_) (fun _=>hk) fun u z=>?_
  ·rcases hH b u z with ⟨rfl,rfl⟩ | ⟨rfl,rfl⟩
   ·exact Pq _
   ·exact⟨ha,by rw [ah]; exact Bj,vs,_,rv,ha⟩
  ·obtain⟨u,e⟩:=Option.ne_none_iff_exists'.mp z;rcases hH b u e with ⟨h,_⟩ | ⟨h,_⟩
   ·exact .inr h
   ·exact .inl h
  ·rcases hH a u z with ⟨h,_⟩ | ⟨_,rfl⟩
   ·exact absurd h Mt
   ·exact⟨_,_,rfl⟩
theorem B6{l:Df}{q:bf}{loose:List Str}{XP:(Str->Option Value)->Heap->Prop}{YP:World->Heap->Prop}{d:DefRec}{K:Params->Frag}{k:Nat}{x:Str}{y qn:Str}{c P:Addr}(hn:l.most=some 63)(OA:d.params.defaults=[])(hr:gX k Dc)
  (hY:∀ (w:World) (h:Heap),YP w h->(K w.params).In h) (wc:((recsOf q).find? (fun e=>e.name == y)).isSome=true) (ht:∀ w:World,tabIn (K w.params) y=some (c,P)) (OL:∀ w:World,(K w.params).lookup P=none)
  (F:∀ (w:World) (mg:Str->Option Value) (fa:Addr) (h:Heap),(K w.params).In h->h.Ns bp mg->mg d.name=some (.ref fa) ->
   ∃ fd:aE,(∀ (s:ak) (u:Value),BindsTo s fd ⟨[u],[]⟩ [(x,u)])/\∀ base:Heap,(K w.params).In base->base.Ns bp mg->wO mg base c P->eR l.prog w (K w.params) mg base fJ k fa fd [x] (kg (Tb P qn) (K w.params) uQ)) :
  PySem.W.WalkO q loose XP YP l.row.toRowW d [] (fun f vs=>PySem.call f vs):=by
 refine Ql.yq hn OA fun w jG dc mg mb fa o pm cd doc a vs ns G Y ho hd w4 Li Js hints hlen hg=>?_;have KX:=hY w _ Y;obtain⟨fd,hb,hF⟩:=F w mg fa _ KX G.T.g Li;obtain⟨dr,RV⟩:=Option.isSome_iff_exists.mp wc;obtain⟨C,gP⟩:=tab_of G.T KX RV (ht w);exact B7 KX G.T.g G.T.b G.T.builtins G.T.nolimit hg Js hints hlen hr ⟨C,G.T.bmain⟩ gP (OL w) hF hb
end K2
end
section
namespace L2
open PySem PySem.Spec PyProof.Rows
theorem BG{P:bf}{w:World}{K:ag}{tg:Expr}(a it:Addr)(o:Obj)(es:Array kd)(c:Nat)(ks:List V)(dd:o.data=.dict es c)(hk:∀ i (h:i < es.size),∃ v,ks[i]?=some v/\RelV v es[i].val) :
  Turn P w K tg (Tq a o es ks) [it] it (fun i h=>h.IsValIter it a i es.size c) where
 mem:=List.mem_singleton_self _
 obj:=fun i h st b hb=>by
  obtain rfl:=List.mem_singleton.mp hb;obtain⟨o',q,_,d⟩:=st;exact⟨o',q,fun v z=>by rw [d] at z; cases z⟩
 keep:=(by rintro i h h' ⟨o',q,r⟩ k; exact⟨o',k it (by simp) o' q,r⟩)
 item:=by
  rintro X rfl rfl rfl hc i pins s σ H E I hf st ⟨⟨u,hu⟩,hi⟩;obtain⟨f0,f1,f2,f3,f4,f5⟩:=hf it (by simp);obtain⟨v,hv,rv⟩:=hk i hi;refine BF st (I.bY a _ hu).1 dd hi fun h' ua sb=>?_;have I1:Inv X pins σ H { s with heap:=h' }:=I.turned (t':=s.toks) (fun b o hb e=>(sb.2 b hb).trans e) f0 f1 f3 f4 f5;obtain⟨o',e,cl,d'⟩:=id ua;exact⟨_,rfl,Bm (s:={ s with heap:=h' }) e cl d' (by decide) ⟨v,H,I1,rv,⟨rfl,hv⟩,ua,fun b hb=>(hf b hb).1⟩⟩
 done:=by
  rintro X rfl rfl rfl hc i pins s σ H E I hf st ⟨⟨u,hu⟩,hi⟩;obtain⟨f0,f1,f2,f3,f4,f5⟩:=hf it (by simp);exact Ds (I.ok.hd hc) st (I.bY a _ hu).1 dd hi fun h' eb=>⟨rfl,I.turned (t':=s.toks) (fun b o hb e=>eb b o hb e) f0 f1 f3 f4 f5⟩
 self:=fun A i s Q E st h=>by
  refine yP st.typeIs yF (c5 yF st.typeIs Co ?_ (F.args_dict_valueiterator_iter_1 _));show wpAny _ _ (ret (.ref it)) _ _ s;exact aq ⟨_,rfl,"dict_valueiterator",_,st.typeIs,F.slot_dict_valueiterator_next.lookup,h⟩
end L2
namespace K2
open PySem PySem.Spec PyProof.Rows L2
section
variable {X:Cx} {tg o:Expr} {to:e7} {apos iS:Pos}
theorem jC.vals{K:ag}{H:Hp}{kv:List (Key×V)}{aQ:List (D×D)}(h:jC K H kv aQ):aX K H (kv.map (·.2)) (aQ.map (·.2)) :=
 jC.ind (motive:=fun (kv:List (Key×V)) (aQ:List (D×D)) _=>aX K H (kv.map Prod.snd) (aQ.map Prod.snd)) .nil (fun r _ ih=>.cons r ih) h
theorem KA{pins:List (Addr×Obj)}{σ:L2.St}{H:Hp}{s:ak}{x:V}{aQ:List (D×D)}(I:Inv X pins σ H s)(r:bF X.K H x (.iC aQ))(k1:ku aQ=true) :
  ∃ (a:Addr) (od:Obj) (u:HO) (es:Array kd) (ep:Nat) (vs:List V),x=.ref a/\H a=some (.jI od u)/\(a == c3)=false/\od.ExactDict/\od.data=.dict es ep/\vs.length=es.size /\
   aX X.K H vs (aQ.map (·.2))/\∀ i (h:i < es.size),∃ v,vs[i]?=some v/\RelV v es[i].val:=by
 cases r with
 | mh hq rs =>
  rename_i l o kv;obtain⟨z,ns,vs,rel,ob,es,ep,ho,ex,dd,PS,hp,nd⟩:=(I.bY l _ hq).2;have eo:ob=o:=by have:=(I.bY l _ hq).1; rw [ho] at this; exact aW this
  subst eo;have l1:es.size=vs.length:=by simpa using hp.length
  have l2:kv.length=vs.length:=jK rel;refine⟨l,ob,_,es,ep,kv.map (·.2),rfl,hq,ns,ex,dd,by rw [ah]; lia,rs.vals,fun i hi=>?_⟩;have i2:i < vs.length:=by lia
  have i3:i < kv.length:=by lia
  have g1:=(hp.get? (e:=es[i]) (k:=vs[i].1) (v:=vs[i].2) (by rw [ai (by simpa using hi)]; simp) (by rw [ai i2])).2;refine⟨kv[i].2,by simp [i3],?_⟩;have:=(uY rel i i3 i2).2;rw [g1]; exact this
 | mf hq rs =>
  rename_i l o kv;cases rs with
  | nil =>
   obtain⟨z,ns,xs,rel,ob,es,ep,ho,ex,dd,hl,nd⟩:=(I.bY l _ hq).2;have eo:ob=o:=by have:=(I.bY l _ hq).1; rw [ho] at this; exact aW this
   subst eo;have hv:xs=[]:=by cases rel; rfl
   subst hv;have he:es=#[]:=by simpa using hl
   subst he;exact⟨l,ob,_,#[],ep,[],rfl,hq,ns,ex,dd,rfl,.nil,fun i h=>absurd h (gc _)⟩
  | cons _ _=>simp [ku,cC] at k1
theorem D1 (ho:fI X o to) (EL:autoParam (xf o "values" X.env (eval o X.env)=eval o X.env) Ar._auto_1) (EH:autoParam ((apos.endLine == iS.line)=true) Ar._auto_1):Ii X tg (.Call (.Attribute o "values" apos) [] [] iS) (EA to):=by
 intro E pins s σ H τ G R hE I h;refine wpAny_Call_method0_late EL EH (jZ ho hE I h fun x H1 d G1 v s1 I1 m1 r1 je q1=>?_);cases d with
 | iC aQ =>
  obtain⟨h1,q1⟩:=q1;obtain⟨t1,t2⟩:=Dv pins s1 σ H1 G1 x _ v I1.inv I1.ab r1 je trivial;obtain⟨a,od,u,es,ep,vs,rfl,hu,ns,ex,dd,hl,rs,hk⟩:=KA I1.inv je h1;cases r1;refine⟨"dict","dict.values",PySem.F.plainAttrs_dict,yC,PySem.F.type_dict_values,t1,t2,CI rfl (PySem.evalArgs_none ?_)⟩;refine call_meetsIn yC t1 PySem.F.entry_dict_values (PySem.F.args_dict_values_1 _) (ue a ns) ⟨t1,?_⟩;generalize hv:({ cls:=.type "dict_values",data:=.fields #[.ref a] }:Obj)=ov;have I2:Inv X pins σ H1 { s1 with heap:=s1.heap.push ov }:=I1.inv.kept (t':=s1.toks) fun b o e=>ar _ e;refine y9 (s:={ s1 with heap:=s1.heap.push ov }) ⟨_,aR _ (by cases hv; rfl),by cases hv; rfl,by cases hv; rfl⟩ (I2.bY a _ hu).1 dd ?_;refine⟨_,[_],_,_,H1,G1,aQ.map (·.2),_,rfl,I2.kept (t':=s1.toks) fun b o e=>ar _ e,m1,BG a _ od es ep vs dd hk,⟨_,aR _ rfl,rfl,rfl⟩,fun b hb=>?_,fun i H2 G2 k ab _=>?_,q1⟩
  ·obtain rfl:=List.mem_singleton.mp hb;exact I2.EV (aF _) (I2.bY.fresh (aF _))
  ·have Bj:=k.jI _ _ _ hu;have BR:=rs.mono k;refine⟨fun d hd=>?_,fun hle=>⟨⟨u,Bj⟩,by rw [<-hl,rs.length]; exact hle⟩⟩;obtain⟨v,hv,r⟩:=BR.get hd;have hi:i < es.size:=by rw [<-hl]; exact(List.getElem?_eq_some_iff.mp hv).1
   refine⟨⟨⟨u,Bj⟩,hi⟩,?_⟩;rintro x H3 ⟨e,y⟩;subst e;rw [hv] at y;cases y;exact⟨r,.refl ab⟩
 | _=>exact q1.elim
end
end K2
end
section
namespace K2
open PySem PySem.Spec PyProof.Rows L2
section
variable {X:Cx}
theorem tG (hc:X.calm=true) (hu:X.A.units+64 < cLine):lp X (.builtin "sorted") nt:=by
 intro pins s σ H G xs ds us Q I ab rx rd q;unfold nt at q;split at q
 ·rename_i aQ;obtain⟨ns,hk,ON,q⟩:=q;obtain⟨w1,rfl,Gk⟩:=rd.one;obtain⟨u,rfl,ru⟩:=rx.one;have Mo:ku aQ=true:=by
   unfold ku;have:aQ.all (fun p=>cC p.1)=(aQ.map (·.1)).all cC:=by rw [h8]; rfl
   rw [this,hk,h8,fm]; intro i _; rfl
  obtain⟨a,ob,u0,kv,vs,ep,rfl,Jn,rs,hm,rel,hD⟩:=IF I Gk Mo;cases ru;obtain⟨o,es,ho,ex,dd,PS,hp,nd⟩:=hD _ (I.bY a _ Jn).1;have l1:es.size=vs.length:=by simpa using hp.length
  have l2:kv.length=vs.length:=jK rel;have ek:aQ.map (·.1)=kv.map fun p=>cY p.1:=rs.keys;have QJ:aX X.K H (kv.map fun p=>kV p.1) (ns.map D.int):=by
   rw [<-hk,ek];have:∀ (l:List (Key×V)),aX X.K H (l.map fun p=>kV p.1) (l.map fun p=>cY p.1):=by
    intro l;induction l with
    | nil=>exact .nil
    | cons p l ih=>exact .cons (DP p.1) ih
   exact this kv
  refine zg hc hu I ab (DD hm ex dd) ho (vs:=kv.map fun p=>kV p.1) (zs:=ns.map D.int) (by rw [ah]; lia) (fun i u hi hP=>?_) QJ .int (fun z hz=>?_) (by decide) (by rw [ah]; exact ON) ?_
  ·obtain⟨RN,rfl⟩:=hP;have i2:i < vs.length:=by lia
   have i3:i < kv.length:=by lia
   have g1:=(hp.get? (e:=es[i]) (k:=vs[i].1) (v:=vs[i].2) (by rw [ai (by simpa using RN)]; simp) (by rw [ai i2])).1;have e2:kv[i].1=vs[i].1:=(uY rel i i3 i2).1;rw [eh,e2];exact Ep g1
  ·obtain⟨i,_,rfl⟩:=List.mem_map.mp hz;rfl
  ·have:jn (ns.map D.int)=(BL ns).map Enc.enc:=uR ns;rw [this]; exact q
 ·exact q.elim
end
end K2
end
section
namespace K2
namespace yM
noncomputable def ab(c:Int):Int:=if c < 0 then -c else c
variable {α:Type}
noncomputable def Pn(f:Int->Int)(r:Int->List α):Nat->Int->List Int->List α->List α×List Int
 | 0,_,Dw,ps=>(ps,Dw)
 | k+1,p,Dw,ps=>if p∈Dw then (ps,Dw) else Pn f r k (f p) (Dw++[p]) (ps++r p)
noncomputable def cls(f:Int->Int)(r:Int->List α):List Int->List (List α)->List Int->List (List α)
 | [],rows,_=>rows
 | t :: ts,rows,met=>if t∈met then cls f r ts rows met else
  let s:=Pn f r 4 t [] []
  cls f r ts (rows++[s.1]) (met++s.2)
end yM
end K2
end
section
namespace K2
open PySem (Str)
open Enc (enc)
theorem eX{α:Type} [DecidableEq α] [Enc α]{G G1:Gp}{p:Nat}{xs:List α}{Q:DK}(l:eY G G1)(hp:G p=none)(h1:G1 p=some (.lst (xs.map enc)))(q:Q (enc xs) G):FO G1 (.ref p) Q :=
 n6 l hp h1 (yN.same _) q
theorem ef{α:Type}{f:α->D}{g:vw}{body:gx}{ok:Gp->Prop}{xs:List α}{E:jz}{K:jB}{τ:fk}{G:Gp}(I:List α->fk->Gp->Prop)
  (h0:I [] τ G) (bY:∀ pre τ G,I pre τ G->ok G)
  (step:∀ (pre:List α) (x:α) (post:List α) τ G (N:fk->Gp->Prop),xs=pre++x :: post->I pre τ G->(∀ uN G2,I (pre++[x]) uN G2->N uN G2) ->
   g E (f x) τ G fun oF G1=>body E { K with nx:=N,ct:=N,bk:=K.nx } oF G1)
  (fin:∀ τ G,I xs τ G->K.nx τ G):nS g body ok (xs.map f) E K τ G:=by
 have main:∀ (post pre:List α) τ G,xs=pre++post->I pre τ G->nS g body ok (post.map f) E K τ G:=by
  intro post;induction post with
  | nil =>
   intro pre τ G e h;rw [dU] at e;subst e;exact⟨bY _ _ _ h,fin _ _ h⟩
  | cons d post ih =>
   intro pre τ G e h;refine⟨bY _ _ _ h,?_⟩;exact step pre d post τ G _ e h fun uN G2 h2=>ih (pre++[d]) uN G2 (by rw [e,gq]; rfl) h2
 exact main xs [] τ G rfl h0
theorem dN{α:Type}{f:α->D}{g:vw}{c:Option tL}{e:e7}{ok:Gp->Prop}{xs:List α}{E:jz}{τ:fk}{G:Gp}{Q:List D->Gp->Prop}(I:List α->List D->fk->Gp->Prop)
  (h0:I [] [] τ G) (bY:∀ pre acc τ G,I pre acc τ G->ok G)
  (step:∀ (pre:List α) (x:α) (post:List α) (acc:List D) τ G (N:fk->List D->Gp->Prop),xs=pre++x :: post->I pre acc τ G->(∀ uN Cw G2,I (pre++[x]) Cw uN G2->N uN Cw G2) ->
   g E (f x) τ G fun oF G1=>match c with
    | none=>e E oF G1 fun x G2=>N oF (acc++[x]) G2
    | some c=>c E oF G1 fun k G2=>if k=true then e E oF G2 fun x G3=>N oF (acc++[x]) G3 else N oF acc G2)
  (fin:∀ acc τ G,I xs acc τ G->Q acc G):ie g c e ok (xs.map f) E τ G [] Q:=by
 have main:∀ (post pre:List α) (acc:List D) τ G,xs=pre++post->I pre acc τ G->ie g c e ok (post.map f) E τ G acc Q:=by
  intro post;induction post with
  | nil =>
   intro pre acc τ G e h;rw [dU] at e;subst e;exact⟨bY _ _ _ _ h,fin _ _ _ h⟩
  | cons d post ih =>
   intro pre acc τ G e' h;refine⟨bY _ _ _ _ h,?_⟩;have:=step pre d post acc τ G (fun uN Cw G2=>ie g c e ok (post.map f) E uN G2 Cw Q) e' h fun uN Cw G2 h2=>ih (pre++[d]) Cw uN G2 (by rw [e',gq]; rfl) h2;cases c with
   | none=>exact this
   | some c=>exact this
 exact main xs [] [] τ G rfl h0
theorem c8{α:Type} [DecidableEq α] [Enc α]{xs:List α}{G:Gp}{R:List D->(Gp->Prop)->Gp->Prop}(h:R (xs.map enc) (fun _=>True) G):Hg (enc xs) G R:=h
theorem ze{n:Nat}(h:n<=1000):n<=SZ:=by unfold SZ; lia
theorem DB{n:Nat}(h:n<=1000):n < SZ:=by unfold SZ; lia
noncomputable abbrev Rows:=List (List T3)
noncomputable def T3.s(p:T3):T2:=⟨p.a,p.b⟩
structure Dr(rows:Rows):Prop where
 nd:(rows.flatten.map T3.s).Nodup
 way:∀ p∈rows.flatten,p.b=0\/p.b=1
 hand:∀ p∈rows.flatten,p.c=1\/p.c=-1
 GZ:∀ p∈rows.flatten,(⟨p.a,1 - p.b,p.c⟩:T3)∈rows.flatten
 CT:rows.flatten.length<=24
 str:rows.length<=3
namespace P
noncomputable def gJ:lS:=M6 (fun rows:Rows=>rows.flatten.length<=1000) fun rows=>rows.flatten
noncomputable def ml:gx :=
 (cB (bV (fH a7) (aM 1))
 (cB (fi (g8 (ay 0)) (aM 2) (gw (w6 wX o6 (ay 1) (aJ (ay 2) a7))))
 (cm (dD (ay 1)))))
theorem tO(ds:List D)(G:Gp)(Q:DK)(h:gJ ds G Q fun _ _=>False):ml (fun _ _=>False) (ends Q) (bb 3 ds) G:=by
 obtain⟨rows,rfl,hl,q⟩:=h;unfold ml;simp only [ends,bb,az,a9,ao,av,aT,aP,a5,dI,bV,fH,a7,aM,au,aj];refine⟨by decide,fun p hp=>?_⟩;refine gM (fun τ G'=>(∃ b,τ=[some (enc rows),some (.ref p),b])/\eY G G'/\G' p=some (.lst (rows.flatten.map enc))) ?_ ?_
 ·intro N hN;simp only [fi,cw,ay,aa];refine c8 ?_;refine ef (xs:=rows) (fun pre τ G'=>(∃ b,τ=[some (enc rows),some (.ref p),b])/\eY G G'/\G' p=some (.lst (pre.flatten.map enc))) ⟨⟨_,rfl⟩,.new hp,aG⟩ (fun _ _ _ _=>trivial) ?_ ?_
  ·rintro pre r post τ G' N2 e ⟨⟨b,rfl⟩,l,gp⟩ tZ;have hlen:pre.flatten.length+r.length<=rows.flatten.length:=by
    rw [e]; simp only [hV,cx,aU]; lia
   simp only [aM,gw,w6,ay,au,aj,af,aa,i7,gp,aJ,a7,jO,gQ (IsL.enc r),true_and];refine⟨ze (by simp only [ah]; lia),?_⟩;refine tZ _ _ ⟨⟨_,rfl⟩,l.put hp,?_⟩;rw [aG]; simp
  ·rintro τ G' ⟨⟨b,rfl⟩,l,gp⟩;exact hN _ _ ⟨⟨_,rfl⟩,l,gp⟩
 ·rintro _ G' ⟨⟨b,rfl⟩,l,gp⟩;simp only [cm,dD,ay,af,aa];exact eX l hp gp q
theorem og(p:T3):(enc p:D)=.tup [.int p.a,.int p.b,.int p.c]:=rfl
theorem MC{a:D}{r:List D}:pG (a :: r) 0=some a:=by
 rw [nu _ (by lia) (by simp)]; rfl
theorem O1{a b:D}{r:List D}:pG (a :: b :: r) 1=some b:=by
 rw [nu _ (by lia) (by simp; lia)]; rfl
theorem at2{a b c:D}{r:List D}:pG (a :: b :: c :: r) 2=some c:=by
 rw [nu _ (by lia) (by simp; lia)]; rfl
noncomputable def names(rows:Rows):List Int:=BL ((rows.flatten.filter fun p=>p.b == 0).map (·.a))
theorem LK{a b c:D}:cut [a,b,c] none (some 2)=[a,b]:=rfl
theorem BM{κ α:Type} [DecidableEq κ] [Enc κ] [mW κ] [DecidableEq α] [Enc α]{a:Nat}{l:List (κ×α)}{k:κ}{v:α}{G:Gp}{Q:Gp->Prop}(h:G a=some (.iG (bG l)))(hl:l.length<=1000)(q:Q (cf G a (.iG (bG (z9 l k v))))):AI (.ref a) (enc k) (enc v) G Q:=by
 unfold AI;simp only [h];refine⟨n4 l k,?_,by rw [GA]; exact q⟩;unfold bG; rw [ah]; exact DB hl
noncomputable def TF(s:T2):T3:=⟨s.a,s.b,0⟩
end P
end K2
end
section
namespace K2
open PySem (Str)
open Enc (enc)
class inductive Cn {α:Type} (ps:List (α×α)):α->α->Prop
 | refl (x:α):Cn ps x x
 | pair {x y:α}:(x,y)∈ps->Cn ps x y
 | symm {x y:α}:Cn ps x y->Cn ps y x
 | trans {x y z:α}:Cn ps x y->Cn ps y z->Cn ps x z
theorem AN{α:Type} [DecidableEq α] [Enc α]{neg:Bool}{x:α}{xs:List α}{G:Gp}{Q:DK}(hd:Enc.dep α<=7)(q:Q (.bl (if neg then !decide (x∈xs) else decide (x∈xs))) G):yJ neg (enc x) (enc xs) G Q:=by
 refine⟨enc x,xs.map enc,Enc.sn _ _ _ (by unfold SN; lia),pW G 7 hd xs,?_⟩;rw [By]; exact q
class wQ (α:Type) [DecidableEq α] [Enc α] [aZ α] where
 mn:∀ {x:D} {G:Gp} {xs:List α} {Q:DK},itemsOf x G=some (xs.map enc)->xs≠[]->(∀ m∈xs,(∀ y∈xs,sE m y=true)->Q (enc m) G)->Fh [x] G Q
theorem ib{α:Type} [DecidableEq α] [Enc α] [aZ α]:∀ (r:List α) (a:α),r.foldl (fun m x=>if aZ.lt x m=true then x else m) a∈a :: r/\∀ y∈a :: r,sE (r.foldl (fun m x=>if aZ.lt x m=true then x else m) a) y=true
 | [],a=>⟨by simp,fun y hy=>by rw [List.mem_singleton.mp hy]; unfold sE; rw [List.foldl_nil,aZ.Cb]; rfl⟩
 | b :: r,a=>by
  rw [kG];by_cases c:aZ.lt b a=true
  ·rw [if_pos c];obtain⟨h1,h2⟩:=ib r b;refine⟨aw _ h1,fun y hy=>?_⟩;rcases List.mem_cons.mp hy with rfl | hy
   ·refine qf _ _ _ (h2 b (by simp)) ?_;unfold sE;cases q:aZ.lt y b with
    | false=>rfl
    | true=>have:=aZ.trans _ _ _ q c; rw [aZ.Cb] at this; cases this
   ·exact h2 y hy
  ·rw [if_neg c];obtain⟨h1,h2⟩:=ib r a;refine⟨?_,fun y hy=>?_⟩
   ·rcases List.mem_cons.mp h1 with h | h
    ·rw [h]; simp
    ·exact aw _ (aw _ h)
   ·rcases List.mem_cons.mp hy with rfl | hy
    ·exact h2 y (by simp)
    ·rcases List.mem_cons.mp hy with rfl | hy
     ·refine qf _ _ _ (h2 a (by simp)) ?_;unfold sE; simpa using c
     ·exact h2 y (aw _ hy)
noncomputable instance:wQ Int where
 mn:=by
  intro x G xs Q hi kI k;cases xs with
  | nil=>exact absurd rfl kI
  | cons a r =>
   obtain⟨h1,h2⟩:=ib r a;refine .inl ⟨a :: r,_,hi,rfl,?_⟩;have:(fun (m x:Int)=>if x < m then x else m)=fun m x=>if aZ.lt x m=true then x else m:=by
    funext m x;show (if x < m then x else m)=if decide (x < m)=true then x else m
    simp
   show Q (enc (r.foldl (fun m x=>if x < m then x else m) a)) G;rw [this];exact k _ h1 h2
theorem sy:∀ (x y:List Int),nH (fun a b=>decide (a < b)) x y=lexLt x y
 | [],[]=>rfl
 | [],_ :: _=>rfl
 | _ :: _,[]=>rfl
 | a :: x,b :: y=>by simp only [sA,lexLt,sy x y]
noncomputable instance:wQ T3 where
 mn:=by
  intro x G xs Q hi kI k;cases xs with
  | nil=>exact absurd rfl kI
  | cons a r =>
   obtain⟨h1,h2⟩:=ib r a;have ei:itemsOf x G=some (((a :: r).map T3.l).map tI):=by rw [hi,hX]; rfl
   refine .inr ⟨(a :: r).map T3.l,_,ei,rfl,?_⟩;have:∀ (r:List T3) (a:T3),(r.map T3.l).foldl (fun m x=>if lexLt x m=true then x else m) a.l=(r.foldl (fun m x=>if aZ.lt x m=true then x else m) a).l:=by
    intro r;induction r with
    | nil=>intro a; rfl
    | cons b r ih =>
     intro a;rw [az,kG,kG];have e:(if lexLt b.l a.l=true then b.l else a.l)=(if aZ.lt b a=true then b else a).l:=by
      have:aZ.lt b a=lexLt b.l a.l:=sy _ _;rw [this];split <;> rfl
     rw [e]; exact ih _
   rw [this r a];exact k _ h1 h2
namespace P
section
variable {α:Type} [DecidableEq α] [Enc α] [aZ α] [mW α] [wQ α]
structure GI(ms:List α)(ps:List (α×α))(l:List (α×List α)):Prop where
 len:l.length<=64
 at':∀ m∈ms,∃ g,eP l m=some g/\g.Nodup/\∀ x,x∈g↔Cn ps m x
end
end P
end K2
end
section
namespace K2
open PySem (Str)
open Enc (enc)
namespace P
theorem qF{κ β:Type} [DecidableEq κ]:∀ {l:List (κ×β)} {p:κ×β},(l.map (·.1)).Nodup->p∈l->eP l p.1=some p.2
 | q :: l,p,hn,h=>by
  unfold eP;rw [dS];rcases List.mem_cons.mp h with rfl | h
  ·simp
  ·rw [az,iL] at hn;have:q.1≠p.1:=fun z=>hn.1 (by rw [z]; exact List.mem_map_of_mem h);simp only [this,decide_false];exact qF hn.2 h
variable {rows:Rows}
end P
end K2
end
section
namespace K2
open PySem (Str)
open Enc (enc)
namespace P
variable {rows:Rows}
end P
end K2
end
section
namespace K2
open PySem (Str)
open Enc (enc)
namespace BD
open K2.P
noncomputable def mx:gx :=
 (cB (fQ (gT (bh L7 (ay 1) (lR jy (aJ (ay 0) a7)))) (cm (dD (bh nQ (ay 0) (ay 1)))) cZ)
 (cm (dD (dC (.int 0)))))
noncomputable def lG(ns:List Int)(k:Int):Int:=ns.getD k.toNat 0
noncomputable def dH:lS:=fun ds G Q _=>∃ (ns:List Int) (k:Int),ds=[.cO (ns.map D.int),.int k]/\0<=k/\Q (.int (lG ns k)) G
theorem qH(ds:List D)(G:Gp)(Q:DK)(h:dH ds G Q fun _ _=>False):mx (fun _ _=>False) (ends Q) (bb 2 ds) G:=by
 obtain⟨ns,k,rfl,h0,q⟩:=h;unfold mx;simp only [cB,fQ,bb,az,a9,ao,av,aP,a5,cm,dD,bh,ay,aa,af,ends,oS,cZ,dC,dA,lR,aJ,a7,tJ,vQ,bS];split
 ·rename_i h;have h1:k < (ns.map D.int).length:=by simpa using h
  rw [nu _ h0 h1];simp only [eh];rw [ah] at h1;have e:lG ns k=ns[k.toNat]:=by unfold lG; rw [aI,ai (by lia)]; rfl
  rw [<-e]; exact mL q
 ·rename_i h;have h1:¬ k < (ns.map D.int).length:=by simpa using h
  rw [ah] at h1;have e:lG ns k=0:=by unfold lG; rw [aI,FE (by lia)]; rfl
  rw [<-e]; exact mL q
noncomputable def kN:gx :=
 (cm (dD (Bs (wF "int" (ay 0)) (E8 (wF "bool" (ay 0))))))
noncomputable def cJ:lS:=fun ds G Q _=>∃ i:Int,ds=[.int i]/\Q (.bl true) G
theorem pK(ds:List D)(G:Gp)(Q:DK)(h:cJ ds G Q fun _ _=>False):kN (fun _ _=>False) (ends Q) (bb 1 ds) G:=by
 obtain⟨i,rfl,q⟩:=h;unfold kN;simp only [cm,dD,bb,az,a9,ao,av,aP,a5,ends,tx,tw,jS,ay,aa,sL,bS];simpa using mL q
structure HR(G G':Gp)(p0:Nat)(as:List Nat)(rs:Rows):Prop where
 le:eY G G'
 fp:G p0=none
 gp:G' p0=some (.lst (as.map D.ref))
 np:p0∉as
 nd:as.Nodup
 fr:∀ a∈as,G a=none
 len:as.length=rs.length
 at':∀ (i a:Nat) (r:List T3),as[i]?=some a->rs[i]?=some r->G' a=some (.lst (r.map enc))
theorem HR.put{G G':Gp}{p0:Nat}{as:List Nat}{rs:Rows}(h:HR G G' p0 as rs){j a:Nat}{r':List T3}(ha:as[j]?=some a):HR G (cf G' a (.lst (r'.map enc))) p0 as (rs.set j r'):=by
 have hm:a∈as:=dw ha;have hj:j < as.length:=(List.getElem?_eq_some_iff.mp ha).1;refine⟨h.le.put (h.fr a hm),h.fp,?_,h.np,h.nd,h.fr,by rw [iN]; exact h.len,fun i b r hb hr=>?_⟩
 ·rw [cN (by rintro rfl; exact h.np hm)]; exact h.gp
 ·by_cases e:i=j
  ·subst e;rw [ha] at hb; cases hb;rw [fB (by have:=h.len; lia)] at hr;cases hr;exact aG
  ·have:b≠a:=by
    rintro rfl;have h1:=List.getElem?_eq_some_iff.mp hb;have h2:=List.getElem?_eq_some_iff.mp ha;have pw:=List.pairwise_iff_getElem.mp h.nd;rcases Nat.lt_trichotomy i j with lt | eq | gt
    ·exact pw i j h1.1 h2.1 lt (h1.2.trans h2.2.symm)
    ·exact e eq
    ·exact pw j i h2.1 h1.1 gt (h2.2.trans h1.2.symm)
   rw [cN this];rw [gB (fun z=>e z.symm)] at hr;exact h.at' i b r hb hr
theorem HR.fz{G G':Gp}{p0:Nat}{as:List Nat}{rs:Rows}(h:HR G G' p0 as rs){Q:DK}(q:Q (enc rs) G):FO G' (.ref p0) Q:=by
 refine n6 h.le h.fp h.gp (ss:=rs.map enc) ?_ q;have:∀ (as:List Nat) (rs:Rows),as.length=rs.length->(∀ a∈as,G a=none)->(∀ (i a:Nat) (r:List T3),as[i]?=some a->rs[i]?=some r->G' a=some (.lst (r.map enc)))->yN G' (fun a=>(G a).isNone) (as.map D.ref) (rs.map enc):=by
  intro as;induction as with
  | nil=>intro rs hl _ _; cases rs with
   | nil=>exact .nil
   | cons _ _=>cases hl
  | cons a as ih =>
   intro rs hl hf FL;cases rs with
   | nil=>cases hl
   | cons r rs =>
    refine .cons (.ref (FL 0 a r rfl rfl) (by simp [hf a (by simp)]) (yN.same _)) ?_;exact ih rs (by simpa using hl) (fun b hb=>hf b (aw _ hb)) fun i b s h1 h2=>FL (i+1) b s h1 h2
 exact this as rs h.len h.fr h.at'
theorem rR{x:T3}{r r':List T3}(hr:r'.Perm (x :: r)):∀ (rs:Rows) (j:Nat),rs[j]?=some r->(rs.set j r').flatten.Perm (x :: rs.flatten)
 | [],j,h=>by cases h
 | s :: rs,0,h=>by
  cases h;rw [aj,cx,cx];exact hr.append_right _
 | s :: rs,j+1,h=>by
  rw [au,cx,cx];exact((rR hr rs j h).append_left s).trans List.perm_middle
structure MI(st:Int)(n:Nat)(name:Int)(L:List T3):Prop where
 off:∃ off:Int,0<=off/\off<=83 * n/\name=(st+off) % 999/\∀ p∈L,∃ o:Int,0 < o/\o<=off/\p.a=(st+o) % 999+1
 nd:(L.map T3.s).Nodup
 way:∀ p∈L,p.b=0\/p.b=1
 hand:∀ p∈L,p.c=1\/p.c=-1
 GZ:∀ p∈L,(⟨p.a,1 - p.b,p.c⟩:T3)∈L
 len:L.length=2 * n
theorem wb{G G2:Gp}{d:D}{ds:List D}{R:List D->(Gp->Prop)->Gp->Prop}(h:IsL G d ds)(l:eY G G2)(k:∀ ok:Gp->Prop,(∀ G',eY G G'->ok G')->R ds ok G2):Hg d G2 R:=by
 rcases h with rfl | ⟨a,rfl,e⟩
 ·exact k _ fun _ _=>trivial
 ·rw [Bg (l a _ e)]; exact k _ fun G' l=>l a _ e
theorem pf{r:List T3}:∀ {rs:Rows},r∈rs->r.length<=rs.flatten.length
 | a :: rs,h=>by
  rw [cx,aU];rcases List.mem_cons.mp h with rfl | h
  ·lia
  ·have:=pf h; lia
theorem Dy(x:T3)(r:List T3)(i:Nat):(r.take i++x :: r.drop i).Perm (x :: r):=by
 refine List.perm_middle.trans (.cons _ ?_);rw [fR]
end BD
end K2
end
section
namespace K2
open PySem (Str)
open Enc (enc)
namespace yM
open K2.P
noncomputable def Ok(n:Int)(cs:List Int):Prop:=n<=3/\cs.length<=40/\∀ c∈cs,1<=ab c/\ab c < n
end yM
end K2
end
section
namespace K2
open PySem (Str)
open Enc (enc)
namespace yM
open K2.P
noncomputable def Good(n:Int)(cs:List Int):Prop:=(1<=n/\n<=3)/\cs.length<=12/\∀ c∈cs,1<=ab c/\ab c < n
noncomputable instance (n:Int) (cs:List Int):Decidable (Good n cs):=by unfold Good; exact inferInstance
end yM
end K2
end
section
namespace K2
open PySem (Str)
open Enc (enc)
namespace yM
open K2.P
noncomputable def eO:List T3->T3
 | []=>⟨0,0,0⟩
 | a :: r=>r.foldl (fun m x=>if aZ.lt x m=true then x else m) a
theorem eN{r:List T3}(h:r≠[]):eO r∈r:=by
 cases r with
 | nil=>exact absurd rfl h
 | cons a r=>exact(ib r a).1
theorem iq{r:List T3}{y:T3}(hy:y∈r):sE (eO r) y=true:=by
 cases r with
 | nil=>cases hy
 | cons a r=>exact(ib r a).2 y hy
noncomputable def dZ(r:List T3):List T3:=r.drop (r.idxOf (eO r))++r.take (r.idxOf (eO r))
theorem Fg{x:D}{G:Gp}{r:List T3}{Q:DK}(hi:itemsOf x G=some (r.map enc))(kI:r≠[])(q:Q (enc (eO r)) G):Fh [x] G Q :=
 wQ.mn hi kI fun m hm hl=>by
  have:m=eO r:=ph _ _ (hl _ (eN kI)) (iq hm);rw [this]; exact q
theorem zw{x:D}{G:Gp}{r:List T3}{Q:DK}(ht:wX x G)(hi:itemsOf x G=some (r.map enc))(kI:r≠[])(q:Q (.int ((r.idxOf (eO r):Nat):Int)) G):vZ x [enc (eO r)] G Q:=by
 refine⟨ht,r.map enc,enc (eO r),r.map enc,hi,Enc.sn G 8 _ (by decide),pW G 7 (by decide) r,?_⟩;have e:(r.map enc).findIdx? (fy · (enc (eO r)))=some (r.idxOf (eO r)):=by
  have hf:(fun y:T3=>fy (enc y) (enc (eO r)))=fun y=>y == eO r:=by
   funext y;rw [Enc.eqv];by_cases h:y=eO r <;> simp [h]
  rw [List.findIdx?_map];show List.findIdx? (fun y=>fy (enc y) (enc (eO r))) r=_;rw [hf];have hm:=eN kI;rw [List.idxOf];rw [List.findIdx?_eq_some_iff_findIdx_eq];exact⟨List.findIdx_lt_length.mpr ⟨_,hm,by simp⟩,rfl⟩
 rw [e]; exact q
noncomputable def fv:lS:=fun ds G Q _=>∃ r:List T3,ds=[enc r]/\r.length<=1000/\Q (enc (dZ r)) G
noncomputable def pZ:gx :=
 (cB (fQ (j3 (gT (ay 0))) (cm (dD (fH a7))) cZ)
 (cB (bV (w6 wX vZ (ay 0) (aJ (lR Fh (aJ (ay 0) a7)) a7)) (aM 1))
 (cm (dD (bh iR (vh (ay 0) (jR (ay 1)) dB) (vh (ay 0) dB (jR (ay 1))))))))
theorem vA(ds:List D)(G:Gp)(Q:DK)(h:fv ds G Q fun _ _=>False):pZ (fun _ _=>False) (ends Q) (bb 2 ds) G:=by
 obtain⟨r,rfl,hl,q⟩:=h;unfold pZ;refine gM (fun τ G'=>G=G'/\r≠[]/\τ=[some (enc r),none]) ?_ ?_
 ·intro N hN;simp only [fQ,j3,bb,az,a9,ao,av,aT,aP,a5,cm,dD,fH,a7,ends,cZ,dA,ay,aa];cases r with
  | nil=>exact⟨by decide,fun p hp=>eX (xs:=([]:List T3)) (.new hp) hp aG q⟩
  | cons a t=>exact hN _ _ ⟨rfl,by simp,rfl⟩
 ·rintro _ _ ⟨rfl,kI,rfl⟩;simp only [ends,dI,bV,w6,ay,aa,aJ,lR,a7,aM,cm,dD,bh,vh,au,aj,dB,iI,af];refine⟨trivial,Fg rfl kI (zw trivial rfl kI ?_)⟩;generalize hk:r.idxOf (eO r)=k;have PT:k<=r.length:=by rw [<-hk]; exact List.idxOf_le_length
  rw [show (enc r:D)=.cO (r.map enc) from rfl];simp only [zm,rn];rw [k8,tE r k PT];intro p hp;rw [k8,zZ r k PT];intro p2 uh;have EG:p≠p2:=fun z=>by rw [<-z,aG] at uh; cases uh
  have g1:cf (cf G p (.lst ((r.drop k).map enc))) p2 (.lst ((r.take k).map enc)) p=some (.lst ((r.drop k).map enc)):=by rw [cN EG,aG]
  have gl:eY G (cf (cf G p (.lst ((r.drop k).map enc))) p2 (.lst ((r.take k).map enc))):=(eY.new hp).trans (.new uh);show qp _ _ _ _;unfold qp;rw [gQ (IsL.ref (ds:=(r.drop k).map enc) g1),gQ (IsL.ref (ds:=(r.take k).map enc) aG)];refine⟨ze (by simp; lia),fun p3 FK=>?_⟩;refine eX (xs:=dZ r) (gl.trans (.new FK)) (gl.free FK) ?_ q;rw [aG];unfold dZ;rw [hk,aK]
noncomputable def cI:lS:=fun ds G Q _=>∃ (d:D) (rows:List (List T3)),ds=[d]/\IsL G d (rows.map enc)/\(rows.length<=1000/\∀ r∈rows,r.length<=1000)/\Q (enc (rows.map dZ)) G
noncomputable def jr:gx :=
 (cm (dD (dg 1 [] (g8 (ay 0)) (aM 0) none (bH fv (aJ (ay 0) a7)))))
theorem mV(ds:List D)(G:Gp)(Q:DK)(h:cI ds G Q fun _ _=>False):jr (fun _ _=>False) (ends Q) (bb 1 ds) G:=by
 obtain⟨d,rows,rfl,hd,⟨hl,hr⟩,q⟩:=h;unfold jr;simp only [cm,dD,dg,bb,az,a9,ao,av,aP,a5,ends,cw,ay,aa];refine Jm hd fun ok bY=>⟨ze (by rw [ah]; exact hl),?_⟩;refine dN (xs:=rows) (fun pre acc τ G'=>G=G'/\acc=(pre.map dZ).map enc/\∃ x,τ=[x]) ⟨rfl,rfl,_,rfl⟩ (fun _ _ _ _ h=>by rw [<-h.1]; exact bY _ (.refl _)) ?_ ?_
 ·rintro pre r post acc τ G' N e ⟨rfl,rfl,x,rfl⟩ hN;simp only [aM,bH,aJ,ay,aj,aa,a7];refine⟨r,rfl,hr r (by rw [e]; simp),hN _ _ _ ⟨rfl,by simp,_,rfl⟩⟩
 ·rintro acc τ G' ⟨rfl,rfl,x,rfl⟩ p hp;exact eX (xs:=rows.map dZ) (.new hp) hp aG q
end yM
end K2
end
section
namespace K2
open PySem (Str)
open Enc (enc)
namespace P
variable {rows:Rows}
end P
end K2
end
section
namespace K2
open PySem (Str)
open Enc (enc)
namespace K3
open K2.P K2.BD
inductive Rl (G:Gp):List D->Rows->Prop
 | nil:Rl G [] []
 | cons {x:D} {r:List T3} {xs:List D} {rs:Rows}:IsL G x (r.map enc)->Rl G xs rs->Rl G (x :: xs) (r :: rs)
noncomputable def Cz(G:Gp)(d:D)(rows:Rows):Prop:=∃ ds,IsL G d ds/\Rl G ds rows
theorem Rl.enc{G:Gp}:∀ (rows:Rows),Rl G (rows.map Enc.enc) rows
 | []=>.nil
 | r :: rs=>.cons (IsL.enc r) (Rl.enc rs)
theorem Cz.enc{G:Gp}(rows:Rows):Cz G (Enc.enc rows) rows:=⟨_,IsL.enc rows,Rl.enc rows⟩
theorem HI{G':Gp}:∀ (as:List Nat) (rs:Rows),as.length=rs.length->(∀ (i a:Nat) (r:List T3),as[i]?=some a->rs[i]?=some r->G' a=some (.lst (r.map enc)))->Rl G' (as.map D.ref) rs
 | [],[],_,_=>.nil
 | [],_ :: _,h,_=>by cases h
 | _ :: _,[],h,_=>by cases h
 | a :: as,r :: rs,h,FL=>.cons (IsL.ref (FL 0 a r rfl rfl)) (HI as rs (by simpa using h) fun i b s h1 h2=>FL (i+1) b s h1 h2)
theorem HR.rw{G G':Gp}{p0:Nat}{as:List Nat}{rs:Rows}(h:HR G G' p0 as rs):Cz G' (.ref p0) rs:=⟨_,IsL.ref h.gp,HI as rs h.len h.at'⟩
theorem JF{g:vw}{body:gx}{ok:Gp->Prop}{ds:List D}{rows:Rows}{E:jz}{K:jB}{τ:fk}{G G0:Gp}(rl:Rl G0 ds rows)(I:Rows->fk->Gp->Prop)
  (h0:I [] τ G) (bY:∀ pre τ G,I pre τ G->ok G)
  (step:∀ (pre:Rows) (r:List T3) (post:Rows) (x:D) τ G (N:fk->Gp->Prop),rows=pre++r :: post->IsL G0 x (r.map enc)->I pre τ G->(∀ uN G2,I (pre++[r]) uN G2->N uN G2) ->
   g E x τ G fun oF G1=>body E { K with nx:=N,ct:=N,bk:=K.nx } oF G1)
  (fin:∀ τ G,I rows τ G->K.nx τ G):nS g body ok ds E K τ G:=by
 have main:∀ (post pre:Rows) (ds:List D) τ G,Rl G0 ds post->rows=pre++post->I pre τ G->nS g body ok ds E K τ G:=by
  intro post;induction post with
  | nil =>
   intro pre ds τ G rl e h;cases rl;rw [dU] at e;subst e;exact⟨bY _ _ _ h,fin _ _ h⟩
  | cons r post ih =>
   intro pre ds τ G rl e h;cases rl with
   | cons hx rl =>
    refine⟨bY _ _ _ h,?_⟩;exact step pre r post _ τ G _ e hx h fun uN G2 h2=>ih (pre++[r]) _ uN G2 rl (by rw [e,gq]; rfl) h2
 exact main rows [] ds τ G rl rfl h0
noncomputable def used(u:List Int)(n:Int):List Int:=if n∈u then u else u++[n]
noncomputable def ql(u:List Int)(ns:List Int):List Int:=ns.foldl used u
theorem Dt(u:List Int)(n:Int):(used u n).length<=u.length+1:=by unfold used; split <;> simp
theorem pD:∀ (ns u:List Int),(ql u ns).length<=u.length+ns.length
 | [],u=>by simp [ql]
 | n :: ns,u=>by
  have:=pD ns (used u n);have h2:=Dt u n;show (ql (used u n) ns).length<=_;rw [ao]; lia
theorem Bp(u a b:List Int):ql u (a++b)=ql (ql u a) b:=by unfold ql; rw [mX]
theorem zU:∀ (ns u:List Int),u.Nodup->(ql u ns).Nodup
 | [],u,h=>h
 | n :: ns,u,h=>by
  refine zU ns (used u n) ?_;unfold used;split
  ·exact h
  ·rename_i hn;rw [jc];refine⟨h,by simp,fun a ha b hb e=>?_⟩;rw [lJ] at hb;subst hb e;exact hn ha
theorem pC:∀ (ns u:List Int) (x:Int),x∈ql u ns↔x∈u\/x∈ns
 | [],u,x=>by simp [ql]
 | n :: ns,u,x=>by
  show x∈ql (used u n) ns↔_;rw [pC ns];unfold used;split
  ·rename_i hn;constructor
   ·rintro(h | h)
    ·exact .inl h
    ·exact .inr (aw _ h)
   ·rintro(h | h)
    ·exact .inl h
    ·rcases List.mem_cons.mp h with rfl | h
     ·exact .inl hn
     ·exact .inr h
  ·rw [List.mem_append,lJ,CF,or_assoc]
noncomputable def gk(rows:Rows):List Int:=BL (ql [] (rows.flatten.map (·.a)))
theorem Gx{α:Type} [DecidableEq α] [Enc α]{neg:Bool}{x:α}{xs:List α}{a:Nat}{G:Gp}{Q:DK}(hd:Enc.dep α<=7)(h:G a=some (.lst (xs.map enc)))(q:Q (.bl (if neg then !decide (x∈xs) else decide (x∈xs))) G):yJ neg (enc x) (.ref a) G Q:=by
 unfold yJ;simp only [h];refine⟨_,_,Enc.sn G 8 x (by lia),pW G 7 hd xs,?_⟩;rw [By]; exact q
theorem Jl{c:tL}{a b:gx}{E:jz}{K:jB}{τ:fk}{G:Gp}:fQ c a b E K τ G=c E τ G fun k G1=>if k=true then a E K τ G1 else b E K τ G1:=rfl
noncomputable def cV:lS:=fun ds G Q _=>∃ (d:D) (rows:Rows),ds=[d]/\Cz G d rows/\rows.flatten.length < 64/\Q (enc (gk rows)) G
noncomputable def kO:gx :=
 (cB (bV (fH a7) (aM 1))
 (cB (fi (g8 (ay 0)) (aM 2) (fi (g8 (ay 2)) (aM 3) (fQ (gT (bh (yJ true) (bh nQ (ay 3) (dC (.int 0))) (ay 1))) (gw (w6 wX ng (ay 1) (aJ (bh nQ (ay 3) (dC (.int 0))) a7))) cZ)))
 (cm (dD (lR rD (aJ (ay 1) a7))))))
theorem pL(ds:List D)(G:Gp)(Q:DK)(h:cV ds G Q fun _ _=>False):kO (fun _ _=>False) (ends Q) (bb 4 ds) G:=by
 obtain⟨d,rows,rfl,⟨ds,hd,rl⟩,hl,q⟩:=h;unfold kO;simp only [ends,bb,az,a9,ao,av,aT,aP,a5,dI,bV,fH,a7,aM,au,aj];refine⟨by decide,fun p hp=>?_⟩;refine gM (fun τ G'=>(∃ a b,τ=[some d,some (.ref p),a,b])/\eY G G'/\G' p=some (.lst ((ql [] (rows.flatten.map (·.a))).map enc))) ?_ ?_
 ·intro N hN;simp only [fi,cw,ay,aa];refine wb hd (eY.new hp) fun ok bY=>?_;refine JF rl (fun pre τ G'=>(∃ a b,τ=[some d,some (.ref p),a,b])/\eY G G'/\G' p=some (.lst ((ql [] (pre.flatten.map (·.a))).map enc))) ⟨⟨_,_,rfl⟩,.new hp,aG⟩ (fun _ _ _ h=>bY _ h.2.1) ?_ ?_
  ·rintro pre r post x τ G' N2 e hx ⟨⟨a,b,rfl⟩,l,gp⟩ tZ;have hlen:pre.flatten.length+r.length<=rows.flatten.length:=by
    rw [e]; simp only [hV,cx,aU]; lia
   simp only [aM,fi,au,aj,cw,ay,af,aa];refine wb hx l fun Pr Oh=>?_;refine ef (xs:=r) (fun pp τ G'=>(∃ a b,τ=[some d,some (.ref p),a,b])/\eY G G'/\G' p=some (.lst ((ql (ql [] (pre.flatten.map (·.a))) (pp.map (·.a))).map enc))) ⟨⟨_,_,rfl⟩,l,gp⟩ (fun _ _ _ h=>Oh _ h.2.1) ?_ ?_
   ·rintro pp t pt τ G4 N3 e4 ⟨⟨a,b,rfl⟩,l4,LC⟩ Bl;have Rz:pp.length < r.length:=by have:=congrArg du e4; simp at this; lia
    have hz:=pD (pp.map (·.a)) (ql [] (pre.flatten.map (·.a)));have Me:=pD (pre.flatten.map (·.a)) [];rw [ah] at hz Me;rw [av] at Me;simp only [aM,og,au,aj,Jl,gw,w6,ay,af,aa,i7,aJ,bh,dC,a7,iE,jt,MC,cZ,dA];refine Gx (x:=t.a) (xs:=ql (ql [] (pre.flatten.map (·.a))) (pp.map (·.a))) (by decide) LC ?_;simp only [if_true,bS];have eu:ql (ql [] (pre.flatten.map (·.a))) ((pp++[t]).map (·.a))=used (ql (ql [] (pre.flatten.map (·.a))) (pp.map (·.a))) t.a:=by
     rw [aK,Bp]; rfl
    by_cases hm:t.a∈ql (ql [] (pre.flatten.map (·.a))) (pp.map (·.a))
    ·simp only [hm,decide_true,bO,aB,if_false];refine Bl _ _ ⟨⟨_,_,rfl⟩,l4,?_⟩;rw [eu]; unfold used; rw [if_pos hm]; exact LC
    ·simp only [hm,decide_false,jm,if_true,LC];refine⟨trivial,DB (by rw [ah]; lia),Bl _ _ ⟨⟨_,_,rfl⟩,l4.put hp,?_⟩⟩;rw [aG,eu]; unfold used; rw [if_neg hm,aK]; rfl
   ·rintro τ G4 ⟨⟨a,b,rfl⟩,l4,LC⟩;refine tZ _ _ ⟨⟨_,_,rfl⟩,l4,?_⟩;have:(pre++[r]).flatten.map (·.a)=pre.flatten.map (·.a)++r.map (·.a):=by simp
    rw [this,Bp]; exact LC
  ·rintro τ G' ⟨⟨a,b,rfl⟩,l,gp⟩;exact hN _ _ ⟨⟨_,_,rfl⟩,l,gp⟩
 ·rintro _ G' ⟨⟨a,b,rfl⟩,l,gp⟩;simp only [cm,dD,lR,aJ,ay,af,aa,a7];have hz:=pD (rows.flatten.map (·.a)) [];rw [ah,av] at hz;refine z8 (IsL.ref gp) (by lia) fun p2 uh=>?_;exact eX (l.trans (.new uh)) (l.free uh) aG q
end K3
end K2
end
section
namespace K2
open PySem (Str)
open Enc (enc)
namespace K3
open K2.P K2.BD
noncomputable def OU(n:Int):Int:=n % 999+1
noncomputable def fit(n:Int):Nat->Int
 | 0=>n
 | k+1=>OU (fit n k)
theorem sW{n:Int}(h1:1<=n)(h2:n<=999):∀ k:Nat,fit n k=(n - 1+k) % 999+1
 | 0=>by show n=_; lia
 | k+1=>by
  show OU (fit n k)=_;rw [sW h1 h2 k];unfold OU;lia
theorem nR:∀ (xs ys:List Int),xs.Nodup->(∀ x∈xs,x∈ys)->xs.length<=ys.length
 | [],_,_,_=>bJ _
 | x :: xs,ys,hn,h=>by
  rw [iL] at hn;have:=nR xs (ys.erase x) hn.2 fun y hy=>(List.mem_erase_of_ne (show y≠x from fun z=>hn.1 (by rw [<-z]; exact hy))).mpr (h y (aw _ hy));have hx:=h x (by simp);rw [List.length_erase_of_mem hx] at this;have:=List.length_pos_of_mem hx;rw [ao]; lia
theorem EW{n:Int}{ns:List Int}(h1:1<=n)(h2:n<=999)(hl:ns.length<=500):∃ k,k<=ns.length/\fit n k∉ns:=by
 apply vC;intro Lh;have EM:∀ k,k<=ns.length->fit n k∈ns:=fun k hk=>vC fun z=>Lh ⟨k,hk,z⟩;have nd:((bK (ns.length+1)).map fun k=>fit n k).Nodup:=by
  refine List.pairwise_iff_getElem.mpr fun i j hi hj Bk=>?_;simp only [ah,cK] at hi hj;rw [eh,eh,lK,lK,sW h1 h2,sW h1 h2];lia
 have:=nR _ ns nd fun x hx=>by
  obtain⟨k,hk,rfl⟩:=List.mem_map.mp hx;exact EM k (by have:=List.mem_range.mp hk; lia)
 simp at this;lia
theorem zB(rows:Rows):(gk rows).length<=rows.flatten.length:=by
 unfold gk;rw [Gh];have:=pD (rows.flatten.map (·.a)) [];rw [ah,av] at this;lia
theorem zA{rows:Rows}{n:Int}:n∈gk rows↔n∈rows.flatten.map (·.a):=by
 unfold gk;rw [(oJ _).mem_iff,pC];simp
noncomputable def iB:lS:=fun ds G Q _=>∃ (d:D) (rows:Rows) (c:Int),ds=[d,.int c]/\Cz G d rows/\rows.flatten.length < 64/\∀ m:Int,m∉rows.flatten.map (·.a)->1<=m->m<=999->Q (.int m) G
noncomputable def mr:gx :=
 (cB (bV (bh iR (dC (.int 1)) (bh nG (bh nG (bh xC (ay 1) (dC (.int 48271))) (dC (.int 1000003))) (dC (.int 999)))) (aM 2))
 (cB (E7 (gT (bh (yJ false) (ay 2) (bH cV (aJ (ay 0) a7)))) (bV (bh iR (bh nG (ay 2) (dC (.int 999))) (dC (.int 1))) (aM 2)))
 (cm (dD (ay 2)))))
theorem qG(ds:List D)(G:Gp)(Q:DK)(h:iB ds G Q fun _ _=>False):mr (fun _ _=>False) (ends Q) (bb 3 ds) G:=by
 obtain⟨d,rows,c,rfl,hd,hl,q⟩:=h;unfold mr;simp only [ends,bb,az,a9,ao,av,aT,aP,a5,dI,bV,bh,dC,ay,af,aa,aM,au,aj,my,eK,eL];refine⟨.inr ⟨by decide,by decide⟩,by decide,by decide,?_⟩;have b1:1<=1+c * 48271 % 1000003 % 999:=by lia
 have b2:1+c * 48271 % 1000003 % 999<=999:=by lia
 generalize 1+c * 48271 % 1000003 % 999=n at *;have Bj:=zB rows;refine gM (fun τ G'=>G=G'/\∃ m:Int,(m∉gk rows/\1<=m/\m<=999)/\τ=[some d,some (.int c),some (.int m)]) ?_ ?_
 ·intro N hN;obtain⟨k,hk,lD⟩:=EW (ns:=gk rows) b1 b2 (by lia);have main:∀ (j:Nat),j<=k->xi (gT (bh (yJ false) (ay 2) (bH cV (aJ (ay 0) a7)))) (bV (bh iR (bh nG (ay 2) (dC (.int 999))) (dC (.int 1))) (aM 2)) (j+1) (fun _ _=>False) { ends Q with nx:=N } [some d,some (.int c),some (.int (fit n (k - j)))] G:=by
   intro j;induction j with
   | zero =>
    intro _;show xi _ _ (0+1) _ _ _ _;rw [xi];simp only [bV,bh,ay,af,aa,dC,aM,ends,au,aj,eK,eL,dA,bH,aJ,a7];refine⟨d,rows,rfl,hd,hl,?_⟩;refine AN (x:=fit n (k - 0)) (by decide) ?_;simp only [aB,Nat.sub_zero,lD,decide_false,jm,if_false,bS];have:=sW b1 b2 k;exact hN _ _ ⟨rfl,_,⟨lD,by lia,by lia⟩,rfl⟩
   | succ j ih =>
    intro hj;rw [xi];simp only [bV,bh,ay,af,aa,dC,aM,ends,au,aj,eK,eL,dA,bH,aJ,a7];refine⟨d,rows,rfl,hd,hl,?_⟩;refine AN (x:=fit n (k - (j+1))) (by decide) ?_;have hb:=sW b1 b2 (k - (j+1));by_cases hm:fit n (k - (j+1))∈gk rows
    ·simp only [aB,hm,decide_true,bO,if_false,bS,if_true];refine⟨by decide,?_⟩;have e:fit n (k - (j+1)) % 999+1=fit n (k - j):=by
      rw [show k - j=(k - (j+1))+1 by lia]; rfl
     rw [e];exact ih (by lia)
    ·simp only [aB,hm,decide_false,jm,if_false,bS];exact hN _ _ ⟨rfl,_,⟨hm,by lia,by lia⟩,rfl⟩
  have:=main k (aF _);rw [Nat.sub_self] at this;exact⟨k+1,this⟩
 ·rintro _ _ ⟨rfl,m,⟨m1,m2,m3⟩,rfl⟩;simp only [cm,dD,ay,af,aa];exact mL (q m (fun z=>m1 (zA.mpr z)) m2 m3)
noncomputable def ins(r:List T3)(k:Nat)(p:T3):List T3:=r.take k++p :: r.drop k
theorem xX(r:List T3)(k:Nat)(p:T3):(ins r k p).Perm (p :: r):=Dy p r k
theorem Bc(r:List T3)(k:Nat)(p:T3):(r.map enc).take k++enc p :: (r.map enc).drop k=(ins r k p).map (enc:T3->D):=by
 unfold ins; rw [aK,az,CG,CH]
structure DF(L:List T3):Prop where
 nd:(L.map T3.s).Nodup
 way:∀ p∈L,p.b=0\/p.b=1
 hand:∀ p∈L,p.c=1\/p.c=-1
 GZ:∀ p∈L,(⟨p.a,1 - p.b,p.c⟩:T3)∈L
theorem DF.perm{L L':List T3}(h:DF L)(p:L'.Perm L):DF L' :=
 ⟨(p.map _).nodup_iff.mpr h.nd,fun x hx=>h.way x (p.mem_iff.mp hx),fun x hx=>h.hand x (p.mem_iff.mp hx),fun x hx=>p.mem_iff.mpr (h.GZ x (p.mem_iff.mp hx))⟩
theorem DF.add{L:List T3}(h:DF L){m hd:Int}(hm:m∉L.map (·.a))(hh:hd=1\/hd=-1):DF (⟨m,1,hd⟩ :: ⟨m,0,hd⟩ :: L):=by
 have no:∀ w,(⟨m,w⟩:T2)∉L.map T3.s:=fun w z=>by
  obtain⟨p,hp,e⟩:=List.mem_map.mp z;exact hm (List.mem_map.mpr ⟨p,hp,by have:=congrArg T2.a e; exact this⟩)
 refine⟨?_,?_,?_,?_⟩
 ·rw [az,az,iL,iL];refine⟨fun z=>?_,no 0,h.nd⟩;rcases List.mem_cons.mp z with e | z
  ·have:=congrArg T2.b e;exact absurd (show (1:Int)=0 from this) (by decide)
  ·exact no 1 z
 ·intro p hp;rcases List.mem_cons.mp hp with rfl | hp
  ·exact .inr rfl
  ·rcases List.mem_cons.mp hp with rfl | hp
   ·exact .inl rfl
   ·exact h.way p hp
 ·intro p hp;rcases List.mem_cons.mp hp with rfl | hp
  ·exact hh
  ·rcases List.mem_cons.mp hp with rfl | hp
   ·exact hh
   ·exact h.hand p hp
 ·intro p hp;rcases List.mem_cons.mp hp with rfl | hp
  ·exact aw _ a0
  ·rcases List.mem_cons.mp hp with rfl | hp
   ·exact a0
   ·exact aw _ (aw _ (h.GZ p hp))
noncomputable def eE:lS:=fun ds G Q _=>∃ (G0:Gp) (p0:Nat) (as:List Nat) (rows:Rows) (c:Int),ds=[.ref p0,.int c]/\HR G0 G p0 as rows/\(1<=rows.length/\rows.length<=3/\rows.flatten.length<=22) /\
 ∀ (xu:Rows) (m hd:Int) (G':Gp),xu.length=rows.length->xu.flatten.Perm (⟨m,1,hd⟩ :: ⟨m,0,hd⟩ :: rows.flatten)->m∉rows.flatten.map (·.a)->(hd=1\/hd=-1)->HR G0 G' p0 as xu->Q .bX G'
theorem HR.at_{G G':Gp}{p0:Nat}{as:List Nat}{rs:Rows}(h:HR G G' p0 as rs){j:Int}(j1:0<=j)(j2:j < rs.length):∃ a r,as[j.toNat]?=some a/\rs[j.toNat]?=some r/\G' a=some (.lst (r.map enc))/\pG (as.map D.ref) j=some (.ref a):=by
 have hj:j.toNat < as.length:=by have:=h.len; lia
 refine⟨as[j.toNat],rs[j.toNat]'(by lia),ai hj,ai _,h.at' _ _ _ (ai hj) (ai _),?_⟩;rw [nu _ j1 (by rw [ah]; have:=h.len; lia),eh]
noncomputable def kP:gx :=
 (cB (bV (bH iB (aJ (ay 0) (aJ (ay 1) a7))) (aM 2))
 (cB (bV (bh IK (bh xC (dC (.int 2)) (bh nG (ay 1) (dC (.int 2)))) (dC (.int 1))) (aM 3))
 (cB (bV (bh nQ (ay 0) (bh nG (bh uU (ay 1) (dC (.int 2))) (lR jy (aJ (ay 0) a7)))) (aM 4))
 (cB (gw (w6 wX o4 (ay 4) (aJ (bh nG (bh nG (bh xC (ay 1) (dC (.int 69621))) (dC (.int 999983))) (bh iR (lR jy (aJ (ay 4) a7)) (dC (.int 1)))) (aJ (qV (aJ (ay 2) (aJ (dC (.int 0)) (aJ (ay 3) a7)))) a7))))
 (cB (bV (bh nQ (ay 0) (bh nG (bh uU (ay 1) (dC (.int 6))) (lR jy (aJ (ay 0) a7)))) (aM 5))
 (gw (w6 wX o4 (ay 5) (aJ (bh nG (bh nG (bh xC (ay 1) (dC (.int 40692))) (dC (.int 999979))) (bh iR (lR jy (aJ (ay 5) a7)) (dC (.int 1)))) (aJ (qV (aJ (ay 2) (aJ (dC (.int 1)) (aJ (ay 3) a7)))) a7)))))))))
theorem pM(ds:List D)(G:Gp)(Q:DK)(h:eE ds G Q fun _ _=>False):kP (fun _ _=>False) (ends Q) (bb 6 ds) G:=by
 obtain⟨G0,p0,as,rows,c,rfl,hr,⟨n1,n3,hf⟩,q⟩:=h;unfold kP;simp only [ends,bb,az,a9,ao,av,aT,aP,a5,dI,bV,bH,aJ,ay,aa,af,a7,aM,au,aj,bh,dC,lR,rS,gw,w6,qV,my,eK,mY,sd];refine⟨_,rows,c,rfl,HR.rw hr,by lia,fun m hm m1 m2=>?_⟩;simp only [dD,bb,ends,dA,bh,Qa,ay,lR,w6,aJ,a7,cm,Ib,gw,bV,aM,dC,cZ,qV,fH,zY,jS,LJ,CU,j3,tx,wD,tw,vh,iI,dB,cw,jx,bH,dg,eL,xD,sf,se,sd,my,eK,mY,xB,vQ,AM,AO,AP,jt,oS,rm,rn,vO,tJ,pF,vn,iE,jO,jN,lC,i7,AA,Az,Ay,true_and,and_true,Bf,wa,gj,bS,ia,sL,Bb,pq,az,a9,aP,a5,aa,af,aj,au,ao,av,aT,if_true,if_false,bO,jm,aB,dI,rS];refine⟨by decide,.inl ⟨by decide,by decide⟩,by decide,by decide,?_⟩;have hh:2 * (c % 2) - 1=1\/2 * (c % 2) - 1=-1:=by lia
 generalize 2 * (c % 2) - 1=hd at *;refine lg (IsL.ref hr.gp) ?_;rw [ah,hr.len];simp only [eK];refine⟨by lia,?_⟩;have i1:0<=c / 2 % (rows.length:Int):=pU _ (by lia);have i2:c / 2 % (rows.length:Int) < rows.length:=lQ _ (by lia);generalize c / 2 % (rows.length:Int)=i at *;obtain⟨a,r,ea,er,ga,xa⟩:=HR.at_ hr i1 i2;refine vS (IsL.ref hr.gp) xa ?_;have rl:r.length<=22:=bx (pf (dw er)) hf;simp only [i7,ga,true_and];refine⟨.inr ⟨by decide,by decide⟩,by decide,?_⟩;refine lg (IsL.ref ga) ?_;rw [ah];simp only [eL,eK,jN];refine⟨by lia,by decide,?_⟩;have k1:0<=c * 69621 % 999983 % ((r.length:Int)+1):=pU _ (by lia);have k2:c * 69621 % 999983 % ((r.length:Int)+1) < (r.length:Int)+1:=lQ _ (by lia);generalize c * 69621 % 999983 % ((r.length:Int)+1)=k at *;simp only [ga];refine⟨k1,by rw [ah]; lia,DB (by rw [ah]; lia),?_⟩;rw [show (D.tup [.int m,.int 0,.int hd])=enc (⟨m,0,hd⟩:T3) from rfl,Bc];have h2:=hr.put (r':=ins r k.toNat ⟨m,0,hd⟩) ea;have p2:=rR (xX r k.toNat ⟨m,0,hd⟩) rows _ er;generalize cf G a (.lst ((ins r k.toNat ⟨m,0,hd⟩).map enc))=G2 at *;generalize Ry:rows.set i.toNat (ins r k.toNat ⟨m,0,hd⟩)=uT at *;have e2:uT.length=rows.length:=by rw [<-Ry,iN]
 refine⟨by decide,by decide,?_⟩;refine lg (IsL.ref h2.gp) ?_;rw [ah,h2.len];simp only [eK];refine⟨by lia,?_⟩;have j1:0<=c / 6 % (uT.length:Int):=pU _ (by lia);have j2:c / 6 % (uT.length:Int) < uT.length:=lQ _ (by lia);generalize c / 6 % (uT.length:Int)=j at *;obtain⟨b,r',eb,P8,gb,xb⟩:=HR.at_ h2 j1 j2;refine vS (IsL.ref h2.gp) xb ?_;have TC:r'.length<=23:=by
  have:=pf (dw P8);have h3:=p2.length_eq;rw [ao] at h3; lia
 simp only [i7,gb,true_and];refine⟨.inr ⟨by decide,by decide⟩,by decide,?_⟩;refine lg (IsL.ref gb) ?_;rw [ah];simp only [eL,eK,jN];refine⟨by lia,by decide,?_⟩;have Rk:0<=c * 40692 % 999979 % ((r'.length:Int)+1):=pU _ (by lia);have TJ:c * 40692 % 999979 % ((r'.length:Int)+1) < (r'.length:Int)+1:=lQ _ (by lia);generalize c * 40692 % 999979 % ((r'.length:Int)+1)=k' at *;simp only [gb];refine⟨Rk,by rw [ah]; lia,DB (by rw [ah]; lia),?_⟩;rw [show (D.tup [.int m,.int 1,.int hd])=enc (⟨m,1,hd⟩:T3) from rfl,Bc];refine q _ m hd _ ?_ ?_ hm hh (h2.put (r':=ins r' k'.toNat ⟨m,1,hd⟩) eb)
 ·rw [iN]; exact e2
 ·exact(rR (xX r' k'.toNat ⟨m,1,hd⟩) uT _ P8).trans (.cons _ p2)
end K3
end K2
end
section
namespace K2
open PySem (Str)
open Enc (enc)
namespace yL
open K2.P
open K2.yM (dZ eO fv cI)
theorem JZ{n:Nat}(h:n<=100000):n<=SZ:=by unfold SZ; lia
noncomputable abbrev Cs:=List Rows
noncomputable def CV(a:Rows)(x:List T3):Rows:=a++[x]
noncomputable def AR(m:List (List T3))(a:Rows):Cs:=m.map (CV a)
noncomputable def pick(ls:List (List (List T3))):Cs:=ls.foldl (fun acc m=>acc.flatMap (AR m)) [[]]
theorem uV(ls:List (List (List T3)))(m:List (List T3)):pick (ls++[m])=(pick ls).flatMap (AR m):=by unfold pick; rw [mX]; rfl
theorem oW{m:List (List T3)}:∀ l:Cs,(l.flatMap (AR m)).length=m.length * l.length
 | []=>by simp
 | a :: l=>by
  rw [List.flatMap_cons,aU,oW l,ao,Nat.mul_succ];unfold AR;rw [ah]; lia
theorem oX{k:Nat}(ls:List (List (List T3)))(h:∀ m∈ls,m.length<=k):(pick ls).length<=k ^ ls.length:=by
 have:∀ (ls:List (List (List T3))) (acc:Cs),(∀ m∈ls,m.length<=k)->(ls.foldl (fun acc m=>acc.flatMap (AR m)) acc).length<=k ^ ls.length * acc.length:=by
  intro ls;induction ls with
  | nil=>intro acc _; simp
  | cons m ls ih =>
   intro acc h;have:=ih (acc.flatMap (AR m)) fun x hx=>h x (aw _ hx);rw [oW] at this;refine bx this ?_;rw [ao,Nat.pow_succ,Nat.mul_assoc];exact q4 (aF _) (q4 (h m a0) (aF _))
 have:=this ls [[]] h;rw [fS,Nat.mul_one] at this;exact this
theorem xF{P:List (List (List T3))->Rows->Prop}(h0:P [] [])(h1:∀ ls m a x,P ls a->x∈m->P (ls++[m]) (a++[x]))(ls:List (List (List T3))):∀ c∈pick ls,P ls c:=by
 have:∀ (post pre:List (List (List T3))) (acc:Cs),(∀ c∈acc,P pre c)->∀ c∈post.foldl (fun acc m=>acc.flatMap (AR m)) acc,P (pre++post) c:=by
  intro post;induction post with
  | nil=>intro pre acc h c hc; rw [dU]; exact h c hc
  | cons m post ih =>
   intro pre acc h c hc;rw [List.append_cons];refine ih (pre++[m]) _ (fun c hc=>?_) c hc;obtain⟨a,ha,hc⟩:=List.mem_flatMap.mp hc;obtain⟨x,hx,rfl⟩:=List.mem_map.mp hc;exact h1 pre m a x (h a ha) hx
 exact this ls [] [[]] fun c hc=>by obtain rfl:=List.mem_singleton.mp hc; exact h0
theorem uW(ls:List (List (List T3)))(c:Rows)(h:c∈pick ls):c.length=ls.length :=
 xF (P:=fun ls c=>c.length=ls.length) rfl (fun ls m a x e _=>by rw [aU,aU,e]; rfl) ls c h
theorem Pp{k:Nat}(h:k<=3):24 ^ k<=13824:=bx (qL (by decide) h) (by decide)
noncomputable def mq:gx :=
 (cB (bV (dD (fH (aJ (fH a7) a7))) (aM 1))
 (cB (fi (g8 (ay 0)) (aM 2) (cB (bV (fH a7) (aM 3))
 (cB (fi (g8 (ay 1)) (aM 4) (gw (w6 wX o6 (ay 3) (aJ (dg 1 [4] (g8 (ay 2)) (aM 0) none (dD (bh iR (ay 1) (fH (aJ (ay 0) a7))))) a7))))
 (bV (dD (ay 3)) (aM 1)))))
 (cm (dD (ay 1)))))
noncomputable def gK:lS:=fun ds G Q _=>∃ ls:List (List (List T3)),ds=[enc ls]/\(ls.length<=3/\∀ m∈ls,m.length<=24)/\Q (enc (pick ls)) G
theorem tP(ds:List D)(G:Gp)(Q:DK)(h:gK ds G Q fun _ _=>False):mq (fun _ _=>False) (ends Q) (bb 5 ds) G:=by
 obtain⟨ls,rfl,⟨h3,hm⟩,q⟩:=h;unfold mq;simp only [ends,bb,az,a9,ao,av,aT,aP,a5,dI,bV,dD,fH,aJ,a7,aM,au,aj];refine⟨by decide,fun pa fa=>⟨by decide,fun pb fb=>?_⟩⟩;have la:eY G (cf (cf G pa (.lst [])) pb (.lst [.ref pa])):=(eY.new fa).trans (.new fb);have Sj:G pb=none:=by
  cases e:G pb with
  | none=>rfl
  | some o=>have:=(eY.new (o:=.lst []) fa) _ _ e; rw [this] at fb; cases fb
 refine n6 la Sj aG (.cons (.ref ((eY.new fb) _ _ aG) (by simp [fa]) .nil) .nil) ?_;refine gM (fun τ G'=>G=G'/\∃ a b c,τ=[some (enc ls),some (enc (pick ls)),a,b,c]) ?_ ?_
 ·intro N hN;simp only [fi,cw,ay,aa];refine c8 ?_;refine ef (xs:=ls) (fun pre τ G'=>G=G'/\∃ a b c,τ=[some (enc ls),some (enc (pick pre)),a,b,c]) ⟨rfl,_,_,_,rfl⟩ (fun _ _ _ _=>trivial) ?_ ?_
  ·rintro pre m post τ G' N2 e ⟨rfl,a,b,c,rfl⟩ tZ;have ug:pre.length<=2:=by have:=congrArg du e; simp at this; lia
   have hz:(pick pre).length<=13824:=bx (oX pre fun x hx=>hm x (by rw [e]; exact gz _ hx)) (Pp (by lia));have Me:(pick pre).length<=576:=bx (oX pre fun x hx=>hm x (by rw [e]; exact gz _ hx)) (bx (qL (by decide) ug) (by decide));have Ot:m.length<=24:=hm m (by rw [e]; simp);simp only [aM,au,aj,kh,bV,fH,a7,av];refine⟨by decide,fun p3 f3=>?_⟩;simp only [fi];simp only [cw,ay,af,aa];refine c8 ?_;refine ef (xs:=pick pre) (fun qO τ G2=>eY G G2/\G2 p3=some (.lst ((qO.flatMap (AR m)).map enc))/\∃ c,τ=[some (enc ls),some (enc (pick pre)),some (enc m),some (.ref p3),c]) ⟨.new f3,aG,_,rfl⟩ (fun _ _ _ _=>trivial) ?_ ?_
   ·rintro qO a2 HL τ G2 N3 e2 ⟨l2,g2,c,rfl⟩ Bl;have RG:qO.length<=(pick pre).length:=by rw [e2]; simp
    have OG:a2.length=pre.length:=uW pre a2 (by rw [e2]; simp);simp only [aM,gw,w6,ay,au,aj,af,aa,i7,g2,aJ,dg,a7,jO,cw,true_and];refine c8 ⟨JZ (by rw [ah]; lia),?_⟩;refine dN (xs:=m) (fun pr acc τ G3=>G2=G3/\(∃ a,τ=[a,some (enc a2)])/\acc=(pr.map (CV a2)).map enc) ⟨rfl,⟨_,rfl⟩,rfl⟩ (fun _ _ _ _ _=>trivial) ?_ ?_
    ·rintro pr w po acc τ G3 N4 e3 ⟨rfl,⟨a,rfl⟩,rfl⟩ OJ;simp only [aM,dD,bh,ay,aj,af,aa,fH,aJ,a7,ao,av];refine⟨by decide,fun pc fc=>?_⟩;refine Bz (IsL.enc a2) (IsL.ref aG) (JZ (by rw [ah,OG]; show _+1<=100000; lia)) fun pd fd=>?_;refine eX (xs:=CV a2 w) ((eY.new fc).trans (.new fd)) ((eY.new fc).free fd) (by rw [aG]; unfold CV; rw [aK]; rfl) ?_;refine OJ _ _ _ ⟨rfl,⟨_,rfl⟩,?_⟩;rw [aK,aK]; rfl
    ·rintro acc τ G3 ⟨rfl,⟨a,rfl⟩,rfl⟩ pc fc;have n3:p3≠pc:=fun z=>by rw [<-z,g2] at fc; cases fc
     have g3:(cf G2 pc (.lst ((m.map (CV a2)).map enc))) p3=some (.lst ((qO.flatMap (AR m)).map enc)):=by rw [cN n3]; exact g2
     have lo:mG (.ref pc) (cf G2 pc (.lst ((m.map (CV a2)).map enc)))=some ((m.map (CV a2)).map enc):=by unfold mG; simp only [aG]
     simp only [g3,lo];refine⟨JZ ?_,?_⟩
     ·rw [ah,ah,ah,oW];have:m.length * qO.length<=24 * 576:=q4 Ot (by lia);lia
     ·refine Bl _ _ ⟨(l2.trans (.new fc)).put f3,?_,_,rfl⟩;rw [aG,List.flatMap_append,Dh,aK]; rfl
   ·rintro τ G2 ⟨l2,g2,c,rfl⟩;simp only [bV,dD,ay,af,aa,aM,au,aj];refine eX (xs:=(pick pre).flatMap (AR m)) l2 f3 g2 ?_;refine tZ _ _ ⟨rfl,some (enc m),some (.ref p3),c,?_⟩;rw [uV]
  ·rintro τ G' ⟨rfl,a,b,c,rfl⟩;exact hN _ _ ⟨rfl,_,_,_,rfl⟩
 ·rintro _ _ ⟨rfl,a,b,c,rfl⟩;simp only [cm,dD,ay,af,aa];exact mL q
end yL
end K2
end
section
namespace K2
open PySem (Str)
open Enc (enc)
namespace yL
open K2.P
open K2.yM (dZ eO fv cI)
theorem HQ{κ α:Type} [DecidableEq κ] [Enc κ] [mW κ] [DecidableEq α] [Enc α]{l:List (κ×α)}{k:κ}{v:α}{G:Gp}{Q:DK}(hv:eP l k=some v)(q:Q (enc v) G):nQ (.iC (bG l)) (enc k) G Q:=by
 rw [vR,xU,hv]; exact⟨n4 l k,q⟩
noncomputable abbrev M:=List (Int×Int)
noncomputable def IH(m:M)(t:T3):T3:=⟨(eP m t.a).getD 0,t.b,t.c⟩
noncomputable def rX(m:M)(r:List T3):List T3:=r.map (IH m)
noncomputable def Kn(m:M)(r:List T3):Prop:=∀ t∈r,(eP m t.a).isSome=true
noncomputable def mj:gx :=
 (cm (dD (dg 3 [1] (g8 (ay 0)) (Cg (mK (aM 0) (mK (aM 1) (mK (aM 2) zL)))) none (qV (aJ (bh nQ (ay 3) (ay 0)) (aJ (ay 1) (aJ (ay 2) a7)))))))
noncomputable def gH:lS:=fun ds G Q _=>∃ (r:List T3) (m:M),ds=[enc r,.iC (bG m)]/\(r.length<=1000/\Kn m r)/\Q (enc (rX m r)) G
theorem tN(ds:List D)(G:Gp)(Q:DK)(h:gH ds G Q fun _ _=>False):mj (fun _ _=>False) (ends Q) (bb 2 ds) G:=by
 obtain⟨r,m,rfl,⟨hl,hk⟩,q⟩:=h;unfold mj;simp only [cm,dD,dg,bb,az,a9,ao,av,aP,a5,ends,cw,ay,aa];refine c8 ⟨ze (by rw [ah]; exact hl),?_⟩;refine dN (xs:=r) (fun pre acc τ G'=>G=G'/\(∃ a b c,τ=[a,b,c,some (.iC (bG m))])/\acc=(pre.map (IH m)).map enc) ⟨rfl,⟨_,_,_,rfl⟩,rfl⟩ (fun _ _ _ _ _=>trivial) ?_ ?_
 ·rintro pre t post acc τ G' N e ⟨rfl,⟨a,b,c,rfl⟩,rfl⟩ hN;obtain⟨v,hv⟩:=Option.isSome_iff_exists.mp (hk t (by rw [e]; simp));simp only [Cg,og,mK,aM,zL,qV,aJ,bh,ay,aj,au,af,aa,a7,ao,av];refine HQ (k:=t.a) hv ?_;refine⟨by decide,hN _ _ _ ⟨rfl,⟨_,_,_,rfl⟩,?_⟩⟩;rw [aK,aK];unfold IH;rw [iM,iM,hv]; rfl
 ·rintro acc τ G' ⟨rfl,⟨a,b,c,rfl⟩,rfl⟩ p hp;exact eX (xs:=rX m r) (.new hp) hp aG q
noncomputable def ly:gx :=
 (cm (dD (dg 1 [1] (g8 (ay 0)) (aM 0) none (bH gH (aJ (ay 0) (aJ (ay 1) a7))))))
noncomputable def fW:lS:=fun ds G Q _=>∃ (rows:Rows) (m:M),ds=[enc rows,.iC (bG m)]/\(rows.length<=1000/\∀ r∈rows,r.length<=1000/\Kn m r)/\Q (enc (rows.map (rX m))) G
theorem qW(ds:List D)(G:Gp)(Q:DK)(h:fW ds G Q fun _ _=>False):ly (fun _ _=>False) (ends Q) (bb 2 ds) G:=by
 obtain⟨rows,m,rfl,⟨hl,hk⟩,q⟩:=h;unfold ly;simp only [cm,dD,dg,bb,az,a9,ao,av,aP,a5,ends,cw,ay,aa];refine c8 ⟨ze (by rw [ah]; exact hl),?_⟩;refine dN (xs:=rows) (fun pre acc τ G'=>G=G'/\(∃ a,τ=[a,some (.iC (bG m))])/\acc=(pre.map (rX m)).map enc) ⟨rfl,⟨_,rfl⟩,rfl⟩ (fun _ _ _ _ _=>trivial) ?_ ?_
 ·rintro pre r post acc τ G' N e ⟨rfl,⟨a,rfl⟩,rfl⟩ hN;simp only [aM,bH,aJ,ay,aj,aa,af,a7];refine⟨r,m,rfl,hk r (by rw [e]; simp),hN _ _ _ ⟨rfl,⟨_,rfl⟩,?_⟩⟩;rw [aK,aK]; rfl
 ·rintro acc τ G' ⟨rfl,⟨a,rfl⟩,rfl⟩ p hp;exact eX (xs:=rows.map (rX m)) (.new hp) hp aG q
noncomputable def pQ(r:List T3)(k:Nat):List T3:=r.drop k++r.take k
noncomputable def j5(r:List T3):List (List T3):=(bK (max 1 r.length)).map (pQ r)
theorem mT(r:List T3):(j5 r).length=max 1 r.length:=by unfold j5; rw [ah,cK]
theorem DN{r:List T3}{k:Nat}{G:Gp}{Q:DK}{d:D}(hd:IsL G d (r.map enc))(hk:k<=r.length)(hl:r.length<=1000)(q:Q (enc (pQ r k)) G) :
  DV d (some (k:Int)) none G fun x G1=>DV d none (some (k:Int)) G1 fun y G2=>iR x y G2 fun z G3=>FO G3 z Q:=by
 refine vP hd ?_;rw [k8,tE r k hk];intro p hp;refine vP (hd.mono (.new hp)) ?_;rw [k8,zZ r k hk];intro p2 uh;have EG:p≠p2:=fun z=>by rw [<-z,aG] at uh; cases uh
 have g1:cf (cf G p (.lst ((r.drop k).map enc))) p2 (.lst ((r.take k).map enc)) p=some (.lst ((r.drop k).map enc)):=by rw [cN EG,aG]
 have gl:eY G (cf (cf G p (.lst ((r.drop k).map enc))) p2 (.lst ((r.take k).map enc))):=(eY.new hp).trans (.new uh);show qp _ _ _ _;unfold qp;rw [gQ (IsL.ref (ds:=(r.drop k).map enc) g1),gQ (IsL.ref (ds:=(r.take k).map enc) aG)];refine⟨ze (by simp; lia),fun p3 FK=>?_⟩;refine eX (xs:=pQ r k) (gl.trans (.new FK)) (gl.free FK) ?_ q;rw [aG];unfold pQ;rw [aK]
noncomputable def nO:gx :=
 (cB (fQ (j3 (gT (ay 0))) (cm (dD (fH (aJ (fH a7) a7)))) cZ)
 (cm (dD (dg 1 [0] (sM (lR jy (aJ (ay 0) a7))) (aM 0) none (dD (bh iR (vh (ay 1) (jR (ay 0)) dB) (vh (ay 1) dB (jR (ay 0)))))))))
noncomputable def ik:lS:=fun ds G Q _=>∃ r:List T3,ds=[enc r]/\r.length<=1000/\Q (enc (j5 r)) G
theorem uI(ds:List D)(G:Gp)(Q:DK)(h:ik ds G Q fun _ _=>False):nO (fun _ _=>False) (ends Q) (bb 1 ds) G:=by
 obtain⟨r,rfl,hl,q⟩:=h;unfold nO;refine gM (fun τ G'=>G=G'/\r≠[]/\τ=[some (enc r)]) ?_ ?_
 ·intro N hN;simp only [fQ,j3,bb,az,a9,ao,av,aP,a5,cm,dD,fH,aJ,a7,ends,cZ,dA,ay,aa];cases r with
  | nil =>
   refine⟨by decide,fun pa fa=>⟨by decide,fun pb fb=>?_⟩⟩;have la:eY G (cf (cf G pa (.lst [])) pb (.lst [.ref pa])):=(eY.new fa).trans (.new fb);exact n6 la ((eY.new fa).free fb) aG (.cons (.ref ((eY.new fb) _ _ aG) (by simp [fa]) .nil) .nil) q
  | cons a t=>exact hN _ _ ⟨rfl,by simp,rfl⟩
 ·rintro _ _ ⟨rfl,kI,rfl⟩;simp only [cm,dD,dg,ends,jx,lR,aJ,ay,aa,a7];refine lg (IsL.enc r) ?_;simp only [ah,ia];have Oq:max 1 r.length=r.length:=by
   cases r with
   | nil=>exact absurd rfl kI
   | cons a t=>simp
  refine⟨by lia,by lia,ze (by unfold fe; rw [ah,cK]; lia),?_⟩;unfold fe;refine dN (xs:=bK (r.length:Int).toNat) (f:=fun i:Nat=>D.int (0+(i:Int))) (fun pre acc τ G'=>G=G'/\(∃ a,τ=[a,some (enc r)])/\acc=(pre.map (pQ r)).map enc) ⟨rfl,⟨_,rfl⟩,rfl⟩ (fun _ _ _ _ _=>trivial) ?_ ?_
  ·rintro pre k post acc τ G' N e ⟨rfl,⟨a,rfl⟩,rfl⟩ hN;have hk:k < r.length:=by
    have:k∈bK (r.length:Int).toNat:=by rw [e]; simp
    have:=List.mem_range.mp this; lia
   simp only [aM,dD,bh,vh,ay,pT,aj,af,aa,dB,iI,gj];refine DN (IsL.enc r) (by lia) hl (hN _ _ _ ⟨rfl,⟨_,rfl⟩,?_⟩);rw [aK,aK]; rfl
  ·rintro acc τ G' ⟨rfl,⟨a,rfl⟩,rfl⟩ p hp;refine eX (xs:=j5 r) (.new hp) hp ?_ q;rw [aG];unfold j5;rw [Oq,eV]
noncomputable def mE(m:M)(n:Int):M:=if (eP m n).isSome=true then m else z9 m n ((m.length:Int)+1)
noncomputable def met(L:List T3):M:=L.foldl (fun m t=>mE m t.a) []
theorem Ee(L:List T3)(t:T3):met (L++[t])=mE (met L) t.a:=by unfold met; rw [mX]; rfl
theorem Eg(m:M)(n:Int):(mE m n).length<=m.length+1:=by
 unfold mE;split
 ·lia
 ·exact Fu _ _ _
theorem A1(L:List T3):(met L).length<=L.length:=by
 have:∀ (L:List T3) (m:M),(L.foldl (fun m t=>mE m t.a) m).length<=m.length+L.length:=by
  intro L;induction L with
  | nil=>intro m; simp
  | cons t L ih =>
   intro m;have h1:=ih (mE m t.a);have h2:=Eg m t.a;rw [kG,ao]; lia
 have:=this L [];simpa [met] using this
theorem Gy{neg:Bool}{n:Int}{a:Nat}{m:M}{G:Gp}{Q:DK}(h:G a=some (.iG (bG m)))(q:Q (.bl (if neg then !(eP m n).isSome else (eP m n).isSome)) G):yJ neg (.int n) (.ref a) G Q:=by
 unfold yJ;simp only [h];refine⟨n4 m n,?_⟩;rw [show (D.int n)=enc n from rfl,xU,iW]; exact q
theorem Fn{a:Nat}{m:M}{G:Gp}{Q:DK}(h:G a=some (.iG (bG m)))(q:Q (.int (m.length:Int)) G):jy [.ref a] G Q:=by
 rw [Fj];simp only [h];refine⟨?_,by unfold bG; rw [ah]; exact q⟩;unfold bG;rw [h8];exact List.all_eq_true.mpr fun _ _=>rfl
theorem xN{a:Nat}{L:List T3}{t:T3}{G:Gp}{τ:fk}{E:jz}{K:jB}(i j:Nat)(hi:τ[i]?=some (some (enc t)))(hj:τ[j]?=some (some (.ref a)))(h:G a=some (.iG (bG (met L))))(hl:L.length<=900)
  (hN:∀ G2,(G2=G\/∃ o,G2=cf G a o)->G2 a=some (.iG (bG (met (L++[t]))))->K.nx τ G2) :
  fQ (gT (bh (yJ true) (bh nQ (ay i) (dC (.int 0))) (ay j))) (bV (bh iR (lR jy (aJ (ay j) a7)) (dC (.int 1))) (ER (ay j) (bh nQ (ay i) (dC (.int 0))))) cZ E K τ G:=by
 have Ot:=A1 L;simp only [fQ,bV,bh,lR,aJ,ay,hj,a7,dC,cZ,dA,hi,og,jt,MC];refine Gy h ?_;simp only [if_true,bS];rw [Ee] at hN;cases hs:(eP (met L) t.a).isSome with
 | true =>
  simp only [bO,aB,if_false];refine hN G (.inl rfl) ?_;unfold mE; rw [if_pos hs]; exact h
 | false =>
  simp only [jm,if_true];refine Fn h ?_;simp only [ER,ay,hj,bh,hi,dC,eL];refine P.BM (k:=t.a) (v:=((met L).length:Int)+1) h (by lia) ?_;refine hN _ (.inr ⟨_,rfl⟩) ?_;rw [aG]; unfold mE; rw [if_neg (by rw [hs]; exact dn)]
noncomputable def lz:gx :=
 (cB (bV zY (aM 1))
 (cB (fi (g8 (bH gJ (aJ (ay 0) a7))) (aM 2) (fQ (gT (bh (yJ true) (bh nQ (ay 2) (dC (.int 0))) (ay 1))) (bV (bh iR (lR jy (aJ (ay 1) a7)) (dC (.int 1))) (ER (ay 1) (bh nQ (ay 2) (dC (.int 0))))) cZ))
 (cm (dD (ay 1)))))
noncomputable def fX:lS:=fun ds G Q _=>∃ rows:Rows,ds=[enc rows]/\rows.flatten.length<=100/\Q (.iC (bG (met rows.flatten))) G
theorem qX(ds:List D)(G:Gp)(Q:DK)(h:fX ds G Q fun _ _=>False):lz (fun _ _=>False) (ends Q) (bb 3 ds) G:=by
 obtain⟨rows,rfl,hl,q⟩:=h;unfold lz;simp only [ends,bb,az,a9,ao,av,aT,aP,a5,dI,bV,zY,aM,au,aj];intro d hd;refine gM (fun τ G'=>(∃ b,τ=[some (enc rows),some (.ref d),b])/\eY G G'/\G' d=some (.iG (bG (met rows.flatten)))) ?_ ?_
 ·intro N hN;simp only [fi,cw,bH,aJ,ay,aa,a7];refine⟨rows,rfl,(show rows.flatten.length<=1000 by lia),c8 ?_⟩;refine ef (xs:=rows.flatten) (fun pre τ G'=>(∃ b,τ=[some (enc rows),some (.ref d),b])/\eY G G'/\G' d=some (.iG (bG (met pre)))) ⟨⟨_,rfl⟩,.new hd,aG⟩ (fun _ _ _ _=>trivial) ?_ ?_
  ·rintro pre t post τ G' N2 e ⟨⟨b,rfl⟩,l,gd⟩ tZ;have hp:pre.length<=rows.flatten.length:=by rw [e]; simp
   simp only [aM,aj,au];refine xN 2 1 rfl rfl gd (by lia) fun G2 h2 g2=>tZ _ _ ⟨⟨_,rfl⟩,?_,g2⟩;rcases h2 with rfl | ⟨o,rfl⟩
   ·exact l
   ·exact l.put hd
  ·rintro τ G' ⟨⟨b,rfl⟩,l,gd⟩;exact hN _ _ ⟨⟨_,rfl⟩,l,gd⟩
 ·rintro _ G' ⟨⟨b,rfl⟩,l,gd⟩;simp only [cm,dD,ay,af,aa];exact ET l hd gd q
end yL
end K2
end
section
namespace K2
open PySem (Str)
open Enc (enc)
namespace yL
open K2.P
open K2.yM (dZ eO eN iq fv cI)
structure Gd(m:M):Prop where
 nd:(m.map (·.1)).Nodup
 vs:m.map (·.2)=(bK m.length).map fun i:Nat=>(i:Int)+1
theorem mU{m:M}{n:Int}:(eP m n).isSome=m.any fun p=>p.1=n:=by
 unfold eP;rw [iW,Bool.eq_iff_iff,List.find?_isSome,List.any_eq_true]
theorem xP{m:M}{n:Int}(h:(eP m n).isSome=false):mE m n=m++[(n,(m.length:Int)+1)]:=by
 unfold mE;rw [if_neg (by rw [h]; exact dn)];unfold z9;rw [mU] at h;rw [if_neg (by rw [h]; exact dn)]
theorem GY{m:M}(h:Gd m)(n:Int):Gd (mE m n):=by
 cases hs:(eP m n).isSome with
 | true=>unfold mE; rw [if_pos hs]; exact h
 | false =>
  rw [xP hs];refine⟨?_,?_⟩
  ·rw [aK,jc];refine⟨h.nd,by simp,fun a ha b hb e=>?_⟩;obtain⟨p,hp,rfl⟩:=List.mem_map.mp ha;have hb:b=n:=by simpa using hb
   rw [mU] at hs;have:=List.any_eq_false.mp hs p hp;simp [e,hb] at this
  ·rw [aK,h.vs,aU,fS,List.range_succ,aK]; rfl
theorem GX{P:M->Prop}(h0:P [])(h1:∀ m n,P m->P (mE m n))(L:List T3):P (met L):=by
 have:∀ (L:List T3) (m:M),P m->P (L.foldl (fun m t=>mE m t.a) m):=by
  intro L;induction L with
  | nil=>intro m h; exact h
  | cons t L ih=>intro m h; exact ih _ (h1 m t.a h)
 exact this L [] h0
theorem vY(L:List T3):Gd (met L):=GX (P:=Gd) ⟨cP,rfl⟩ (fun m n h=>GY h n) L
theorem BZ(m:M)(n:Int):(mE m n).map (·.1)=K3.used (m.map (·.1)) n:=by
 unfold K3.used;cases hs:(eP m n).isSome with
 | true =>
  unfold mE;rw [if_pos hs,if_pos];rw [mU] at hs;obtain⟨p,hp,e⟩:=List.any_eq_true.mp hs;exact List.mem_map.mpr ⟨p,hp,by simpa using e⟩
 | false =>
  rw [xP hs,if_neg,aK]; rfl;intro z;obtain⟨p,hp,e⟩:=List.mem_map.mp z;rw [mU] at hs;have:=List.any_eq_false.mp hs p hp;simp [e] at this
theorem xO(L:List T3):(met L).map (·.1)=K3.ql [] (L.map (·.a)):=by
 have:∀ (L:List T3) (m:M),(L.foldl (fun m t=>mE m t.a) m).map (·.1)=K3.ql (m.map (·.1)) (L.map (·.a)):=by
  intro L;induction L with
  | nil=>intro m; rfl
  | cons t L ih =>
   intro m;rw [kG,ih,BZ]; rfl
 exact this L []
theorem Ef(L:List T3):Kn (met L) L:=by
 intro t ht;have h:t.a∈(met L).map (·.1):=by
  rw [xO,K3.pC];exact .inr (List.mem_map.mpr ⟨t,ht,rfl⟩)
 rw [mU];obtain⟨p,hp,e⟩:=List.mem_map.mp h;exact List.any_eq_true.mpr ⟨p,hp,by simp [e]⟩
theorem yv{m:M}{n v:Int}(h:eP m n=some v):(n,v)∈m:=by
 unfold eP at h;obtain⟨p,hp,rfl⟩:=Option.map_eq_some_iff.mp h;have h1:=List.mem_of_find?_eq_some hp;have h2:p.1=n:=by simpa using List.find?_some hp
 rw [<-h2]; exact h1
theorem Gd.inj{m:M}(h:Gd m){a b v:Int}(ha:eP m a=some v)(hb:eP m b=some v):a=b:=by
 obtain⟨i,hi,e1⟩:=dR (yv ha);obtain⟨j,hj,e2⟩:=dR (yv hb);have f:∀ (k:Nat) (hk:k < m.length),(m[k]).2=(k:Int)+1:=fun k hk=>by
  have:=congrArg (fun l=>l[k]?) h.vs;simp only [bZ,List.getElem?_range hk,ai hk,Option.map_some] at this;exact aW this
 have f1:=f i hi;have f2:=f j hj;rw [e1] at f1;rw [e2] at f2;have:i=j:=by lia
 subst this;rw [e1] at e2;exact congrArg Prod.fst e2
theorem KC{m:M}(h:Gd m){x y:T3}(hx:(eP m x.a).isSome=true)(hy:(eP m y.a).isSome=true)(e:(IH m x).s=(IH m y).s):x.s=y.s:=by
 obtain⟨v,hv⟩:=Option.isSome_iff_exists.mp hx;obtain⟨u,hu⟩:=Option.isSome_iff_exists.mp hy;have e1:(eP m x.a).getD 0=(eP m y.a).getD 0:=congrArg T2.a e;have e2:x.b=y.b:=congrArg T2.b e;rw [hv,hu] at e1;have e1:v=u:=e1;subst e1;have:=h.inj hv hu;unfold T3.s;rw [this,e2]
theorem DQ{m:M}(h:Gd m):∀ {r:List T3},Kn m r->(r.map T3.s).Nodup->((rX m r).map T3.s).Nodup:=by
 intro r;induction r with
 | nil=>intro _ _; exact cP
 | cons t r ih =>
  intro hk hn;rw [az,iL] at hn;unfold rX;rw [az,az,iL];refine⟨fun z=>hn.1 ?_,ih (fun x hx=>hk x (aw _ hx)) hn.2⟩;obtain⟨y,hy,e⟩:=List.mem_map.mp z;obtain⟨x,hx,rfl⟩:=List.mem_map.mp hy;exact List.mem_map.mpr ⟨x,hx,KC h (hk x (aw _ hx)) (hk t a0) e⟩
theorem xw(r:List T3)(k:Nat):(pQ r k).Perm r:=by
 unfold pQ;exact List.perm_append_comm.trans (by rw [fR])
theorem Gn(m:M)(r:List T3)(k:Nat):rX m (pQ r k)=pQ (rX m r) k:=by
 unfold rX pQ;rw [aK,CH,CG]
theorem rg{r a b:List T3}{x:T3}(hx:x=eO r)(e:r=a++x :: b)(hn:x∉a):dZ r=x :: b++a:=by
 have hi:r.idxOf (eO r)=a.length:=by
  rw [<-hx,e,List.idxOf_append,if_neg hn,List.idxOf_cons_self]; simp
 unfold dZ;rw [hi,e,List.drop_left,List.take_left]
theorem B2{r r':List T3}(p:r'.Perm r)(kI:r≠[]):eO r'=eO r:=by
 have Oo:r'≠[]:=fun z=>kI (by rw [z] at p; exact p.symm.eq_nil);exact ph _ _ (iq (p.mem_iff.mpr (eN kI))) (iq (p.mem_iff.mp (eN Oo)))
theorem DH{r:List T3}(hn:(r.map T3.s).Nodup)(k:Nat):dZ (pQ r k)=dZ r:=by
 by_cases kI:r=[]
 ·subst kI; unfold pQ; simp
 have nd:r.Nodup:=by
  refine yX ?_ (List.pairwise_map.mp hn);intro a b h e;exact h (congrArg _ e)
 have hl:=B2 (xw r k) kI;obtain⟨a,b,e⟩:=List.append_of_mem (eN kI);generalize hx:eO r=x at e;rw [hx] at hl;have Ka:(a++x :: b).Nodup:=by rw [<-e]; exact nd
 rw [jc] at Ka;have ha:x∉a:=fun z=>Ka.2.2 x z x a0 rfl;have hb:x∉b:=(List.nodup_cons.mp Ka.2.1).1;rw [rg hx.symm e ha];by_cases hk:k<=a.length
 ·have e2:pQ r k=a.drop k++x :: (b++a.take k):=by
   unfold pQ;rw [e,List.drop_append_of_le_length hk,List.take_append_of_le_length hk]; simp
  rw [rg hl.symm e2 fun z=>ha (FW z)];simp only [aP,gq,fR]
 ·obtain⟨j,rfl⟩:∃ j,k=a.length+(j+1):=⟨k - a.length - 1,by lia⟩;have e2:pQ r (a.length+(j+1))=(b.drop j++a)++x :: b.take j:=by
   unfold pQ;rw [e,List.drop_length_add_append,List.take_length_add_append,List.drop_succ_cons,List.take_succ_cons]; simp
  rw [rg hl.symm e2 fun z=>(List.mem_append.mp z).elim (fun z=>hb (FW z)) ha];simp only [aP,<-gq,fR]
inductive Ro:Rows->Rows->Prop
 | nil:Ro [] []
 | cons {r x:List T3} {rs xs:Rows}:(∃ k,k<=r.length/\x=pQ r k)->Ro rs xs->Ro (r :: rs) (x :: xs)
theorem Ro.snoc{rs xs:Rows}{r x:List T3}(h:Ro rs xs)(k:∃ k,k<=r.length/\x=pQ r k):Ro (rs++[r]) (xs++[x]):=by
 induction h with
 | nil=>exact .cons k .nil
 | cons q _ ih=>exact .cons q ih
noncomputable def kD(rows:Rows):Cs:=pick (rows.map j5)
theorem Fd{rows:Rows}{c:Rows}(h:c∈kD rows):Ro rows c:=by
 have:∀ c∈pick (rows.map j5),∀ rs:Rows,rows.map j5=rs.map j5->Ro rs c :=
  xF (P:=fun ls c=>∀ rs:Rows,ls=rs.map j5->Ro rs c) (fun rs e=>by
   have:rs=[]:=by simpa using e.symm
   subst this; exact .nil) (fun ls m a x ih hx rs e=>by
   obtain⟨l1,l2,rfl,e1,e2⟩:=List.map_eq_append_iff.mp e.symm;obtain⟨r,rfl,e3⟩:∃ r,l2=[r]/\j5 r=m:=by
    cases l2 with
    | nil=>simp at e2
    | cons r l2 =>
     simp at e2;exact⟨r,by rw [e2.2],e2.1⟩
   refine(ih l1 e1.symm).snoc ?_;rw [<-e3] at hx;obtain⟨k,hk,rfl⟩:=List.mem_map.mp hx;have:=List.mem_range.mp hk;by_cases h0:r.length=0
   ·refine⟨0,bJ _,?_⟩;have:r=[]:=by simpa using h0
    subst this; unfold pQ; simp
   ·exact⟨k,by lia,rfl⟩) _
 exact this c h rows rfl
theorem Ro.len{rs xs:Rows}(h:Ro rs xs):xs.length=rs.length:=by
 induction h with
 | nil=>rfl
 | cons _ _ ih=>rw [ao,ao,ih]
theorem Ro.perm{rs xs:Rows}(h:Ro rs xs):xs.flatten.Perm rs.flatten:=by
 induction h with
 | nil=>exact .refl _
 | cons q _ ih =>
  obtain⟨k,_,rfl⟩:=q;rw [cx,cx];exact(xw _ k).append ih
theorem Bv(rows:Rows):0 < (kD rows).length:=by
 have:∀ (ls:List (List (List T3))) (acc:Cs),(∀ m∈ls,m≠[])->acc≠[]->(ls.foldl (fun acc m=>acc.flatMap (AR m)) acc)≠[]:=by
  intro ls;induction ls with
  | nil=>intro acc _ h; exact h
  | cons m ls ih =>
   intro acc h ha;refine ih _ (fun x hx=>h x (aw _ hx)) fun z=>?_;have:=congrArg du z;rw [oW,av,Nat.mul_eq_zero] at this;rcases this with z | z
   ·exact h m a0 (List.length_eq_zero_iff.mp z)
   ·exact ha (List.length_eq_zero_iff.mp z)
 refine List.length_pos_iff.mpr (this (rows.map j5) [[]] (fun m hm=>?_) (by simp));obtain⟨r,_,rfl⟩:=List.mem_map.mp hm;intro z;have:=mT r;rw [z] at this;simp at this;lia
noncomputable def sm(rows:Rows):Rows:=(rows.map (rX (met rows.flatten))).map dZ
noncomputable def bi(rows:Rows):Nat:=t4 (fun i j=>aZ.lt (sm ((kD rows).getD i [])) (sm ((kD rows).getD j []))) ((kD rows).length - 1)
noncomputable def bc(rows:Rows):Rows:=(kD rows).getD (bi rows) []
theorem LQ(rows:Rows):bi rows < (kD rows).length:=by
 have h1:=Fp (fun i j=>aZ.lt (sm ((kD rows).getD i [])) (sm ((kD rows).getD j []))) ((kD rows).length - 1);have h2:=Bv rows;unfold bi; lia
theorem Fs(rows:Rows):bc rows∈kD rows:=by
 unfold bc;rw [aI,ai (LQ rows)];exact bu _
theorem Hy{α:Type} [DecidableEq α] [Enc α] [aZ α](f:Nat->α):∀ (n j:Nat),j<=n->aZ.lt (f j) (f (t4 (fun i j=>aZ.lt (f i) (f j)) n))=false:=by
 intro n;induction n with
 | zero =>
  intro j hj;obtain rfl:j=0:=by lia
  exact aZ.Cb _
 | succ n ih =>
  intro j hj;show aZ.lt (f j) (f (if _ then _ else _))=false;split
  ·rename_i h;by_cases e:j=n+1
   ·subst e; exact aZ.Cb _
   ·cases hz:aZ.lt (f j) (f (n+1)) with
    | false=>rfl
    | true =>
     have:=aZ.trans _ _ _ hz h;rw [ih j (by lia)] at this; cases this
  ·rename_i h;by_cases e:j=n+1
   ·subst e; simpa using h
   ·exact ih j (by lia)
theorem JQ{rows c:Rows}(h:c∈kD rows):aZ.lt (sm c) (sm (bc rows))=false:=by
 obtain⟨j,hj,rfl⟩:=dR h;have:=Hy (fun i=>sm ((kD rows).getD i [])) ((kD rows).length - 1) j (by lia);have e:(kD rows).getD j []=(kD rows)[j]:=by rw [aI,ai hj]; rfl
 rw [e] at this;exact this
end yL
end K2
end
section
namespace K2
open PySem (Str)
open Enc (enc)
namespace yL
open K2.P
open K2.yM (dZ eO eN iq fv cI)
noncomputable def tp(c:Rows):D:=.tup [enc (sm c),.iC (bG (met c.flatten))]
structure Sz(rows:Rows):Prop where
 n:rows.length<=3
 f:rows.flatten.length<=24
theorem Sz.row{rows:Rows}(h:Sz rows){r:List T3}(hr:r∈rows):r.length<=24:=bx (BD.pf hr) h.f
theorem Sz.ro{rows c:Rows}(h:Sz rows)(r:Ro rows c):Sz c:=⟨by rw [r.len]; exact h.n,by rw [r.perm.length_eq]; exact h.f⟩
theorem AK(m:M)(r:List T3):(rX m r).length=r.length:=ah _
noncomputable def kl:gx :=
 (cB (bV (bH fX (aJ (ay 0) a7)) (aM 1))
 (cm (dD (qV (aJ (bH cI (aJ (bH fW (aJ (ay 0) (aJ (ay 1) a7))) a7)) (aJ (ay 1) a7))))))
noncomputable def fu:lS:=fun ds G Q _=>∃ rows:Rows,ds=[enc rows]/\Sz rows/\Q (tp rows) G
theorem zE{rows:Rows}{r:List T3}(hr:r∈rows):Kn (met rows.flatten) r:=fun t ht=>Ef _ t (List.mem_flatten.mpr ⟨r,hr,ht⟩)
theorem qt(ds:List D)(G:Gp)(Q:DK)(h:fu ds G Q fun _ _=>False):kl (fun _ _=>False) (ends Q) (bb 2 ds) G:=by
 obtain⟨rows,rfl,hz,q⟩:=h;have h1:=hz.n;have h2:=hz.f;unfold kl;simp only [ends,bb,az,a9,ao,av,aT,aP,a5,dI,bV,bH,aJ,ay,aa,a7,aM,cm,dD,qV,au,aj,af];refine⟨rows,rfl,by lia,?_⟩;simp only [dD,bb,ends,dA,bh,Qa,ay,lR,w6,aJ,a7,cm,Ib,gw,bV,aM,dC,cZ,qV,fH,zY,jS,LJ,CU,j3,tx,wD,tw,vh,iI,dB,cw,jx,bH,dg,eL,xD,sf,se,sd,my,eK,mY,xB,vQ,AM,AO,AP,jt,oS,rm,rn,vO,tJ,pF,vn,iE,jO,jN,lC,i7,AA,Az,Ay,true_and,and_true,Bf,wa,gj,bS,ia,sL,Bb,pq,az,a9,aP,a5,aa,af,aj,au,ao,av,aT,if_true,if_false,bO,jm,aB,dI,rS];refine⟨rows,met rows.flatten,rfl,⟨by lia,fun r hr=>⟨by have:=hz.row hr; lia,zE hr⟩⟩,?_⟩;refine⟨_,rows.map (rX (met rows.flatten)),rfl,IsL.enc _,⟨by rw [ah]; lia,fun r hr=>?_⟩,?_⟩
 ·obtain⟨r',Ld,rfl⟩:=List.mem_map.mp hr;rw [AK];have:=hz.row Ld;lia
 ·refine⟨by decide,mL q⟩
noncomputable def qz:gx :=
 (cB (Fb 1 (bV (dg 1 [] (g8 (bH gK (aJ (dD (dg 1 [] (g8 (ay 0)) (aM 0) none (bH ik (aJ (ay 0) a7)))) a7))) (aM 0) none (bH fu (aJ (ay 0) a7))) (aM 1)))
 (cm (dD (E9 (ay 1)))))
noncomputable def gr:lS:=fun ds G Q _=>∃ rows:Rows,ds=[enc rows]/\Sz rows/\Q (tp (bc rows)) G
theorem Hr{rows:Rows}(hz:Sz rows):(kD rows).length<=13824:=by
 refine bx (oX (k:=24) _ fun m hm=>?_) (Pp (by rw [ah]; exact hz.n));obtain⟨r,hr,rfl⟩:=List.mem_map.mp hm;rw [mT];have:=hz.row hr;lia
theorem yw(ds:List D)(G:Gp)(Q:DK)(h:gr ds G Q fun _ _=>False):qz (fun _ _=>False) (ends Q) (bb 2 ds) G:=by
 obtain⟨rows,rfl,hz,q⟩:=h;have h1:=hz.n;have h2:=hz.f;unfold qz;refine gM (fun τ G'=>G=G'/\τ=[some (enc rows),some (.cO ((kD rows).map tp))]) ?_ ?_
 ·intro N hN;simp only [Fb,bV,dg,bb,az,a9,ao,av,aT,aP,a5,aM,au,aj,af,aa,cw,bH,aJ,dD,a7,ay];refine c8 ⟨ze (by rw [ah]; lia),?_⟩;refine dN (xs:=rows) (fun pre acc τ G'=>G=G'/\(∃ a,τ=[a])/\acc=(pre.map j5).map enc) ⟨rfl,⟨_,rfl⟩,rfl⟩ (fun _ _ _ _ _=>trivial) ?_ ?_
  ·rintro pre r post acc τ G' N e ⟨rfl,⟨a,rfl⟩,rfl⟩ hN;simp only [aM,bH,aJ,ay,aj,aa,a7];refine⟨r,rfl,by have:=hz.row (r:=r) (by rw [e]; simp); lia,hN _ _ _ ⟨rfl,⟨_,rfl⟩,?_⟩⟩;rw [aK,aK]; rfl
  ·rintro acc τ G' ⟨rfl,⟨a,rfl⟩,rfl⟩ p hp;refine eX (xs:=rows.map j5) (.new hp) hp aG ?_;refine⟨rows.map j5,rfl,⟨by rw [ah]; exact h1,fun m hm=>?_⟩,?_⟩
   ·obtain⟨r,hr,rfl⟩:=List.mem_map.mp hm;rw [mT];have:=hz.row hr;lia
   ·refine c8 ⟨JZ (by rw [ah]; have:=Hr hz; unfold kD at this; lia),?_⟩;refine dN (xs:=kD rows) (fun pre acc τ G'=>G=G'/\(∃ a,τ=[a])/\acc=pre.map tp) ⟨rfl,⟨_,rfl⟩,rfl⟩ (fun _ _ _ _ _=>trivial) ?_ ?_
    ·rintro pre c post acc τ G' N e ⟨rfl,⟨a,rfl⟩,rfl⟩ hN;simp only [aM,bH,aJ,ay,aj,aa,a7];refine⟨c,rfl,hz.ro (Fd (by rw [e]; simp)),hN _ _ _ ⟨rfl,⟨_,rfl⟩,?_⟩⟩;rw [aK]; rfl
    ·rintro acc τ G' ⟨rfl,⟨a,rfl⟩,rfl⟩ p hp;exact n6 (.new hp) hp aG (yN.same _) (hN _ _ ⟨rfl,rfl⟩)
 ·rintro _ _ ⟨rfl,rfl⟩;simp only [cm,dD,E9,ay,af,aa,ends];refine⟨(kD rows).map tp,aZ.pY Rows,fun i=>enc (sm ((kD rows).getD i [])),.cO,by rw [ah]; exact Bv rows,fun i d hd=>?_,fun d hd=>?_⟩
  ·rw [bZ] at hd;obtain⟨c,hc,rfl⟩:=Option.map_eq_some_iff.mp hd;refine⟨_,_,rfl,?_,aZ.we _⟩;show Sn _ _ _ (enc (sm ((kD rows).getD i [])));rw [aI,hc];exact Enc.sn _ _ _ (by decide)
  ·have:(fun i j=>iY (enc (sm ((kD rows).getD i []))) (enc (sm ((kD rows).getD j []))))=fun i j=>aZ.lt (sm ((kD rows).getD i [])) (sm ((kD rows).getD j [])):=by
    funext i j;exact aZ.HP _ _
   rw [this,ah,bZ] at hd;obtain⟨c,hc,rfl⟩:=Option.map_eq_some_iff.mp hd;have e:bc rows=c:=by
    unfold bc bi;rw [aI,hc]; rfl
   rw [<-e];exact mL q
noncomputable def rZ:gx :=
 (cm (dD (bh nQ (bH gr (aJ (ay 0) a7)) (dC (.int 0)))))
noncomputable def kL:lS:=fun ds G Q _=>∃ rows:Rows,ds=[enc rows]/\Sz rows/\Q (enc (sm (bc rows))) G
theorem Ac(ds:List D)(G:Gp)(Q:DK)(h:kL ds G Q fun _ _=>False):rZ (fun _ _=>False) (ends Q) (bb 1 ds) G:=by
 obtain⟨rows,rfl,hz,q⟩:=h;unfold rZ;simp only [cm,dD,bh,bH,aJ,ay,bb,az,a9,ao,av,aP,a5,aa,a7,dC,ends];refine⟨rows,rfl,hz,?_⟩;unfold tp;simp only [jt,MC];exact mL q
end yL
end K2
end
section
namespace K2
open PySem (Str)
open Enc (enc)
namespace BD
open K2.P
variable {rows:Rows}
end BD
end K2
end
section
namespace K2
open PySem (Str)
open Enc (enc)
namespace BD
open K2.P
variable {rows:Rows}
noncomputable def z3:T3:=⟨0,0,0⟩
theorem Ft{r:List T3}{k:Nat}(h:k < r.length):pG (r.map (enc:T3->D)) (0+(k:Int))=some (enc (r.getD k z3)):=by
 rw [nu _ (by lia) (by rw [ah]; lia),eh];congr 2;rw [aI,ai h];show r[(0+(k:Int)).toNat]=r[k];congr 1; lia
end BD
end K2
end
section
namespace K2
open PySem (Str)
open Enc (enc)
namespace yL
open K2.P
open K2.yM (dZ eO eN iq)
open K2.BD (cJ dH z3 Ft)
noncomputable def gv:gx :=
 (cB (fQ (j3 (gT (wF "list" (ay 0)))) (cm (dD (dC (.bl false)))) cZ)
 (cB (fi (g8 (ay 0)) (aM 1) (cB (fQ (j3 (gT (wF "list" (ay 1)))) (cm (dD (dC (.bl false)))) cZ)
 (fi (g8 (ay 1)) (aM 2) (cB (fQ (CU (j3 (gT (wF "tuple" (ay 2)))) (gT (bh (KH true) (lR jy (aJ (ay 2) a7)) (dC (.int 3))))) (cm (dD (dC (.bl false)))) cZ)
 (fQ (j3 (gT (lR Hu (aJ (dg 1 [] (g8 (ay 2)) (aM 0) none (bH cJ (aJ (ay 0) a7))) a7)))) (cm (dD (dC (.bl false)))) cZ)))))
 (cm (dD (dC (.bl true))))))
noncomputable def c6:lS:=fun ds G Q _=>∃ rows:Rows,ds=[enc rows]/\Q (.bl true) G
theorem kE(ds:List D)(G:Gp)(Q:DK)(h:c6 ds G Q fun _ _=>False):gv (fun _ _=>False) (ends Q) (bb 3 ds) G:=by
 obtain⟨rows,rfl,q⟩:=h;unfold gv;simp only [cB,fQ,j3,bb,az,a9,ao,av,aT,aP,a5,cm,dD,dC,ends,cZ,fi,cw,ay,aa,dA,jS];refine Ba (IsL.enc rows) ?_;simp only [beq_self_eq_true,bS,bO,aB,if_false];refine c8 ?_;refine ef (xs:=rows) (fun pre τ G'=>eY G G'/\∃ b c,τ=[some (enc rows),b,c]) ⟨.refl G,_,_,rfl⟩ (fun _ _ _ _=>trivial) ?_ ?_
 ·rintro pre r post τ G1 N e ⟨l1,b,c,rfl⟩ hN;simp only [aM,cB,fQ,j3,au,aj,cm,dD,dC,cZ,fi,cw,ay,af,aa,dA,jS];refine Ba (IsL.enc r) ?_;simp only [beq_self_eq_true,bS,bO,aB,if_false];refine c8 ?_;refine ef (xs:=r) (fun pre τ G'=>eY G G'/\∃ b c,τ=[some (enc rows),b,c]) ⟨l1,_,_,rfl⟩ (fun _ _ _ _=>trivial) ?_ ?_
  ·rintro qO t HL τ G2 N2 e2 ⟨l2,b,c,rfl⟩ tZ;simp only [aM,cB,fQ,CU,j3,og,au,aj,cm,dD,dC,cZ,dA,lR,aJ,dg,a7,cw,ay,af,aa,wa,ao,av,if_true,bh,pF,jS,pq,beq_self_eq_true,bS,bO,aB,if_false];refine⟨_,_,.int _,.int _,?_⟩;simp only [oe,if_true,bS];refine⟨by decide,?_⟩;refine dN (xs:=[t.a,t.b,t.c]) (fun pre acc τ G'=>G2=G'/\acc=aT pre.length (D.bl true)/\∃ a,τ=[a]) ⟨rfl,rfl,_,rfl⟩ (fun _ _ _ _ _=>trivial) ?_ ?_
   ·rintro Np i HK acc τ G3 N3 e3 ⟨rfl,rfl,a,rfl⟩ Bl;simp only [aM,bH,aJ,ay,aj,aa,a7];refine⟨i,rfl,Bl _ _ _ ⟨rfl,?_,_,rfl⟩⟩;simp [FV]
   ·rintro acc τ G3 ⟨rfl,rfl,a,rfl⟩ p hp;refine⟨aT 3 true,?_,?_⟩
    ·unfold itemsOf; simp only [aG]; rfl
    ·simp only [aT,ao,av,bS];exact tZ _ _ ⟨l2.trans (.new hp),_,_,rfl⟩
  ·rintro τ G2 ⟨l2,b,c,rfl⟩;exact hN _ _ ⟨l2,_,_,rfl⟩
 ·rintro τ G1 ⟨l1,b,c,rfl⟩;simp only [cm,dD,dC];exact Hi l1 q
noncomputable def Hd(x y:T3):Bool:=lexLt [x.a,x.b] [y.a,y.b]
theorem o8{x y:T3}:Hd x y=true↔x.a < y.a\/(x.a=y.a/\x.b < y.b):=by
 unfold Hd;simp only [lexLt];by_cases h:x.a=y.a
 ·rw [if_pos h];by_cases h2:x.b=y.b
  ·rw [if_pos h2]; simp; lia
  ·rw [if_neg h2]; simp; lia
 ·rw [if_neg h]; simp; lia
theorem Hb{x y:T3}:aZ.lt x y=true↔x.a < y.a\/(x.a=y.a/\(x.b < y.b\/(x.b=y.b/\x.c < y.c))):=by
 show nH (fun a b:Int=>decide (a < b)) [x.a,x.b,x.c] [y.a,y.b,y.c]=true↔_;simp only [nH];by_cases h:x.a=y.a
 ·by_cases h2:x.b=y.b
  ·by_cases h3:x.c=y.c
   ·simp [h,h2,h3]
   ·simp [h,h2,h3]
  ·simp [h,h2]
 ·simp [h]
theorem LR{r:List T3}{k:Nat}(h:k < r.length):pG (r.map (enc:T3->D)) (k:Int)=some (enc (r.getD k z3)):=by
 have:=Ft h;rw [pT] at this; exact this
theorem getD_mem{r:List T3}{k:Nat}(h:k < r.length):r.getD k z3∈r:=by
 rw [aI,ai h]; exact bu h
theorem BN{r:List T3}(nd:(r.map T3.s).Nodup){b:Nat}(hb:b < r.length)(h:∀ k,k < r.length->Hd (r.getD k z3) (r.getD b z3)=false):pQ r b=dZ r:=by
 have kI:r≠[]:=fun z=>by rw [z] at hb; exact absurd hb (gc _)
 have hx:r.getD b z3=eO r:=by
  refine ph _ _ ?_ (iq (getD_mem hb));unfold sE;cases hz:aZ.lt (eO r) (r.getD b z3) with
  | false=>rfl
  | true =>
   exfalso;obtain⟨j,hj,ej⟩:=dR (eN kI);have h1:=h j hj;have e1:r.getD j z3=eO r:=by rw [aI,ai hj]; exact ej
   rw [e1] at h1;have h2:=Hb.mp hz;have h3:¬ ((eO r).a < (r.getD b z3).a\/((eO r).a=(r.getD b z3).a/\(eO r).b < (r.getD b z3).b)):=fun z=>by rw [o8.mpr z] at h1; cases h1
   have es:(eO r).s=(r.getD b z3).s:=by
    unfold T3.s;have h4:(eO r).a=(r.getD b z3).a:=by lia
    have h5:(eO r).b=(r.getD b z3).b:=by lia
    rw [h4,h5]
   have SG:j=b:=by
    by_cases PV:j=b
    ·exact PV
    ·exfalso;have pw:=List.pairwise_iff_getElem.mp nd;have g:∀ k (hk:k < r.length),(r.map T3.s)[k]'(by rw [ah]; exact hk)=(r.getD k z3).s:=fun k hk=>by
      rw [eh,aI,ai hk]; rfl
     rcases Nat.lt_or_gt_of_ne PV with q | q
     ·refine pw j b (by rw [ah]; exact hj) (by rw [ah]; exact hb) q ?_;rw [g j hj,g b hb,e1]; exact es
     ·refine pw b j (by rw [ah]; exact hb) (by rw [ah]; exact hj) q ?_;rw [g j hj,g b hb,e1]; exact es.symm
   subst SG;rw [e1,aZ.Cb] at hz;cases hz
 have Rb:r.Nodup:=by
  refine yX ?_ (List.pairwise_map.mp nd);intro a b h e;exact h (congrArg _ e)
 have e:r=r.take b++r.getD b z3 :: r.drop (b+1):=by
  conv=>lhs; rw [<-fR b r]
  rw [cD hb,aI,ai hb]; rfl
 have hn:r.getD b z3∉r.take b:=fun z=>by
  have Ka:=Rb;rw [e,jc] at Ka;exact Ka.2.2 _ z _ a0 rfl
 rw [rg hx e hn];unfold pQ;rw [cD hb];congr 1;rw [aI,ai hb]; rfl
noncomputable def qA:gx :=
 (cB (bV (dC (.int 0)) (aM 1))
 (cB (fi (sM (lR jy (aJ (ay 0) a7))) (aM 2) (fQ (gT (bh L7 (vh (bh nQ (ay 0) (ay 2)) dB (jR (dC (.int 2)))) (vh (bh nQ (ay 0) (ay 1)) dB (jR (dC (.int 2)))))) (bV (ay 2) (aM 1)) cZ))
 (cm (dD (bh iR (vh (ay 0) (jR (ay 1)) dB) (vh (ay 0) dB (jR (ay 1))))))))
noncomputable def jL:lS:=fun ds G Q _=>∃ r:List T3,ds=[enc r]/\(r.length<=1000/\(r.map T3.s).Nodup)/\Q (enc (dZ r)) G
theorem yx(ds:List D)(G:Gp)(Q:DK)(h:jL ds G Q fun _ _=>False):qA (fun _ _=>False) (ends Q) (bb 3 ds) G:=by
 obtain⟨r,rfl,⟨hl,nd⟩,q⟩:=h;unfold qA;simp only [ends,bb,az,a9,ao,av,aT,aP,a5,dI,bV,dC,aM,au,aj];refine gM (fun τ G'=>G=G'/\∃ (b:Nat) (x:Option D),τ=[some (enc r),some (.int b),x]/\b<=r.length/\pQ r b=dZ r) ?_ ?_
 ·intro N hN;simp only [fi,jx,lR,aJ,ay,aa,a7];refine lg (IsL.enc r) ?_;simp only [ah,ia];refine⟨by lia,by lia,?_⟩;unfold fe;refine ef (xs:=bK (r.length:Int).toNat) (f:=fun i:Nat=>D.int (0+(i:Int))) (fun ks τ G'=>G=G'/\∃ (b:Nat) (x:Option D),τ=[some (enc r),some (.int b),x]/\(b < r.length\/(r=[]/\b=0))/\∀ k∈ks,Hd (r.getD k z3) (r.getD b z3)=false) ⟨rfl,0,_,rfl,by cases r <;> simp,by simp⟩ (fun _ _ _ _=>trivial) ?_ ?_
  ·rintro ks k post τ G' N2 e ⟨rfl,b,x,rfl,hb,HW⟩ tZ;have hk:k < r.length:=by
    have:k∈bK (r.length:Int).toNat:=by rw [e]; simp
    have:=List.mem_range.mp this; lia
   have hb:b < r.length:=hb.resolve_right fun z=>by rw [z.1] at hk; exact absurd hk (gc _)
   simp only [aM,fQ,pT,au,aj,bV,ay,af,aa,cZ,dA,bh,vh,dB,iI,dC,gj];refine vS (IsL.enc r) (LR hk) ?_;simp only [og,rm,ao,av,LK];refine⟨by decide,?_⟩;refine vS (IsL.enc r) (LR hb) ?_;simp only [og,rm,ao,av,LK];refine⟨by decide,?_⟩;refine⟨[(r.getD k z3).a,(r.getD k z3).b],[(r.getD b z3).a,(r.getD b z3).b],rfl,rfl,?_⟩;simp only [bS];show if Hd (r.getD k z3) (r.getD b z3)=true then _ else _
   cases hc:Hd (r.getD k z3) (r.getD b z3) with
   | true =>
    simp only [if_true];refine tZ _ _ ⟨rfl,k,_,rfl,.inl hk,fun j hj=>?_⟩;rcases List.mem_append.mp hj with hj | hj
    ·cases hz:Hd (r.getD j z3) (r.getD k z3) with
     | false=>rfl
     | true =>
      have h1:=o8.mp hz;have h2:=o8.mp hc;have h3:Hd (r.getD j z3) (r.getD b z3)=true:=o8.mpr (by lia);rw [HW j hj] at h3; cases h3
    ·obtain rfl:=List.mem_singleton.mp hj;cases hz:Hd (r.getD j z3) (r.getD j z3) with
     | false=>rfl
     | true=>have:=o8.mp hz; lia
   | false =>
    simp only [aB,if_false];refine tZ _ _ ⟨rfl,b,_,rfl,.inl hb,fun j hj=>?_⟩;rcases List.mem_append.mp hj with hj | hj
    ·exact HW j hj
    ·obtain rfl:=List.mem_singleton.mp hj;exact hc
  ·rintro τ G' ⟨rfl,b,x,rfl,hb,HW⟩;refine hN _ _ ⟨rfl,b,x,rfl,?_⟩;rcases hb with hb | ⟨rfl,rfl⟩
   ·exact⟨by lia,BN nd hb fun k hk=>HW k (List.mem_range.mpr (by lia))⟩
   ·exact⟨aF _,rfl⟩
 ·rintro _ _ ⟨rfl,b,x,rfl,hb,e⟩;simp only [cm,dD,bh,vh,ay,aa,dB,iI,af,gj];refine DN (IsL.enc r) hb hl ?_;rw [e]; exact q
noncomputable def oQ:gx :=
 (cm (dD (dg 1 [] (g8 (ay 0)) (aM 0) none (bH jL (aJ (ay 0) a7)))))
noncomputable def fw:lS:=fun ds G Q _=>∃ rows:Rows,ds=[enc rows]/\(rows.length<=1000/\∀ r∈rows,r.length<=1000/\(r.map T3.s).Nodup)/\Q (enc (rows.map dZ)) G
theorem wM(ds:List D)(G:Gp)(Q:DK)(h:fw ds G Q fun _ _=>False):oQ (fun _ _=>False) (ends Q) (bb 1 ds) G:=by
 obtain⟨rows,rfl,⟨hl,hr⟩,q⟩:=h;unfold oQ;simp only [cm,dD,dg,bb,az,a9,ao,av,aP,a5,ends,cw,ay,aa];refine c8 ⟨ze (by rw [ah]; exact hl),?_⟩;refine dN (xs:=rows) (fun pre acc τ G'=>G=G'/\acc=(pre.map dZ).map enc/\∃ x,τ=[x]) ⟨rfl,rfl,_,rfl⟩ (fun _ _ _ _ _=>trivial) ?_ ?_
 ·rintro pre r post acc τ G' N e ⟨rfl,rfl,x,rfl⟩ hN;simp only [aM,bH,aJ,ay,aj,aa,a7];refine⟨r,rfl,hr r (by rw [e]; simp),hN _ _ _ ⟨rfl,by simp,_,rfl⟩⟩
 ·rintro acc τ G' ⟨rfl,rfl,x,rfl⟩ p hp;exact eX (xs:=rows.map dZ) (.new hp) hp aG q
end yL
end K2
end
section
namespace K2
open PySem (Str)
open Enc (enc)
namespace yL
open K2.P
open K2.yM (dZ eO eN iq)
open K2.BD (cJ dH z3 lG HR HR.fz)
open K2.K3 (DF eE)
noncomputable def nN:gx :=
 (cB (bV (fH a7) (aM 2))
 (cB (fi (g8 (ay 0)) (aM 3) (gw (w6 wX ng (ay 2) (aJ (dD (dg 1 [1] (g8 (ay 3)) (aM 0) none (qV (aJ (bh nQ (ay 1) (bh nQ (ay 0) (dC (.int 0)))) (aJ (bh nQ (ay 0) (dC (.int 1))) (aJ (bh nQ (ay 0) (dC (.int 2))) a7)))))) a7))))
 (cm (dD (ay 2)))))
noncomputable def eS:lS:=fun ds G Q _=>∃ (rows:Rows) (m:M),ds=[enc rows,.iC (bG m)]/\(rows.length<=1000/\∀ r∈rows,r.length<=1000/\Kn m r)/\Q (enc (rows.map (rX m))) G
theorem uH(ds:List D)(G:Gp)(Q:DK)(h:eS ds G Q fun _ _=>False):nN (fun _ _=>False) (ends Q) (bb 4 ds) G:=by
 obtain⟨rows,m,rfl,⟨hl,hk⟩,q⟩:=h;unfold nN;simp only [ends,bb,az,a9,ao,av,aT,aP,a5,dI,bV,fH,a7,aM,au,aj];refine⟨by decide,fun p hp=>?_⟩;refine gM (fun τ G'=>(∃ b,τ=[some (enc rows),some (.iC (bG m)),some (.ref p),b])/\eY G G'/\G' p=some (.lst ((rows.map (rX m)).map enc))) ?_ ?_
 ·intro N hN;simp only [fi,cw,ay,aa];refine c8 ?_;refine ef (xs:=rows) (fun pre τ G'=>(∃ b,τ=[some (enc rows),some (.iC (bG m)),some (.ref p),b])/\eY G G'/\G' p=some (.lst ((pre.map (rX m)).map enc))) ⟨⟨_,rfl⟩,.new hp,aG⟩ (fun _ _ _ _=>trivial) ?_ ?_
  ·rintro pre r post τ G' N2 e ⟨⟨b,rfl⟩,l,gp⟩ tZ;have ug:pre.length < rows.length:=by rw [e]; simp
   obtain⟨hr,RJ⟩:=hk r (by rw [e]; simp);simp only [aM,gw,w6,ay,au,aj,af,aa,i7,aJ,dD,dg,a7,iE,cw];refine⟨by rw [gp]; exact trivial,c8 ⟨ze (by rw [ah]; exact hr),?_⟩⟩;refine dN (xs:=r) (fun pr acc τ G2=>G'=G2/\(∃ a,τ=[a,some (.iC (bG m))])/\acc=(pr.map (IH m)).map enc) ⟨rfl,⟨_,rfl⟩,rfl⟩ (fun _ _ _ _ _=>trivial) ?_ ?_
   ·rintro pr t po acc τ G2 N3 e3 ⟨rfl,⟨a,rfl⟩,rfl⟩ Bl;obtain⟨v,hv⟩:=Option.isSome_iff_exists.mp (RJ t (by rw [e3]; simp));simp only [aM,qV,aJ,bh,ay,og,aj,af,aa,dC,a7,ao,av,jt,MC];refine HQ (k:=t.a) hv ?_;simp only [O1,at2];refine⟨by decide,Bl _ _ _ ⟨rfl,⟨_,rfl⟩,?_⟩⟩;rw [aK,aK];unfold IH;rw [iM,iM,hv]; rfl
   ·rintro acc τ G2 ⟨rfl,⟨a,rfl⟩,rfl⟩ p2 uh;refine eX (xs:=rX m r) (.new uh) uh aG ?_;simp only [gp];refine⟨DB (by rw [ah,ah]; lia),tZ _ _ ⟨⟨_,rfl⟩,l.put hp,?_⟩⟩;rw [aG,aK,aK]; rfl
  ·rintro τ G' ⟨⟨b,rfl⟩,l,gp⟩;exact hN _ _ ⟨⟨_,rfl⟩,l,gp⟩
 ·rintro _ G' ⟨⟨b,rfl⟩,l,gp⟩;simp only [cm,dD,ay,af,aa];exact eX (xs:=rows.map (rX m)) l hp gp q
noncomputable def r0:gx :=
 (cB (bV zY (aM 1))
 (cB (fi (g8 (ay 0)) (aM 2) (fi (g8 (ay 2)) (aM 3) (fQ (gT (bh (yJ true) (bh nQ (ay 3) (dC (.int 0))) (ay 1))) (bV (bh iR (lR jy (aJ (ay 1) a7)) (dC (.int 1))) (ER (ay 1) (bh nQ (ay 3) (dC (.int 0))))) cZ)))
 (cm (dD (ay 1)))))
noncomputable def kM:lS:=fun ds G Q _=>∃ rows:Rows,ds=[enc rows]/\rows.flatten.length<=100/\Q (.iC (bG (met rows.flatten))) G
theorem Ae(ds:List D)(G:Gp)(Q:DK)(h:kM ds G Q fun _ _=>False):r0 (fun _ _=>False) (ends Q) (bb 4 ds) G:=by
 obtain⟨rows,rfl,hl,q⟩:=h;unfold r0;simp only [ends,bb,az,a9,ao,av,aT,aP,a5,dI,bV,zY,aM,au,aj];intro d hd;refine gM (fun τ G'=>(∃ b c,τ=[some (enc rows),some (.ref d),b,c])/\eY G G'/\G' d=some (.iG (bG (met rows.flatten)))) ?_ ?_
 ·intro N hN;simp only [fi,cw,ay,aa];refine c8 ?_;refine ef (xs:=rows) (fun pre τ G'=>(∃ b c,τ=[some (enc rows),some (.ref d),b,c])/\eY G G'/\G' d=some (.iG (bG (met pre.flatten)))) ⟨⟨_,_,rfl⟩,.new hd,aG⟩ (fun _ _ _ _=>trivial) ?_ ?_
  ·rintro pre r post τ G' N2 e ⟨⟨b,c,rfl⟩,l,gd⟩ tZ;have hlen:pre.flatten.length+r.length<=rows.flatten.length:=by
    rw [e]; simp only [hV,cx,aU]; lia
   simp only [aM,fi,au,aj,cw,ay,af,aa];refine c8 ?_;refine ef (xs:=r) (fun pp τ G'=>(∃ c,τ=[some (enc rows),some (.ref d),some (enc r),c])/\eY G G'/\G' d=some (.iG (bG (met (pre.flatten++pp))))) ⟨⟨_,rfl⟩,l,by rw [dU]; exact gd⟩ (fun _ _ _ _=>trivial) ?_ ?_
   ·rintro pp t pt τ G4 N3 e4 ⟨⟨c,rfl⟩,l4,OP⟩ Bl;have Rz:pp.length < r.length:=by have:=congrArg du e4; simp at this; lia
    simp only [aM,aj,au];refine xN 3 1 rfl rfl OP (by rw [aU]; lia) fun G2 h2 g2=>Bl _ _ ⟨⟨_,rfl⟩,?_,by rw [<-gq]; exact g2⟩;rcases h2 with rfl | ⟨o,rfl⟩
    ·exact l4
    ·exact l4.put hd
   ·rintro τ G4 ⟨⟨c,rfl⟩,l4,OP⟩;exact tZ _ _ ⟨⟨_,_,rfl⟩,l4,by rw [hV,List.flatten_singleton]; exact OP⟩
  ·rintro τ G' ⟨⟨b,c,rfl⟩,l,gd⟩;exact hN _ _ ⟨⟨_,_,rfl⟩,l,gd⟩
 ·rintro _ G' ⟨⟨b,c,rfl⟩,l,gd⟩;simp only [cm,dD,ay,af,aa];exact ET l hd gd q
theorem Gq{r:List T3}{k:Nat}{G:Gp}{Q:DK}{d:D}(hd:IsL G d (r.map enc))(hk:k<=r.length)(hl:r.length<=1000)(q:∀ p G1,eY G G1->G p=none->G1 p=some (.lst ((pQ r k).map enc))->Q (.ref p) G1) :
  DV d (some (k:Int)) none G fun x G1=>DV d none (some (k:Int)) G1 fun y G2=>iR x y G2 Q:=by
 refine vP hd ?_;rw [k8,tE r k hk];intro p hp;refine vP (hd.mono (.new hp)) ?_;rw [k8,zZ r k hk];intro p2 uh;have EG:p≠p2:=fun z=>by rw [<-z,aG] at uh; cases uh
 have g1:cf (cf G p (.lst ((r.drop k).map enc))) p2 (.lst ((r.take k).map enc)) p=some (.lst ((r.drop k).map enc)):=by rw [cN EG,aG]
 have gl:eY G (cf (cf G p (.lst ((r.drop k).map enc))) p2 (.lst ((r.take k).map enc))):=(eY.new hp).trans (.new uh);show qp _ _ _ _;unfold qp;rw [gQ (IsL.ref (ds:=(r.drop k).map enc) g1),gQ (IsL.ref (ds:=(r.take k).map enc) aG)];refine⟨ze (by simp; lia),fun p3 FK=>?_⟩;refine q _ _ (gl.trans (.new FK)) (gl.free FK) ?_;rw [aG];unfold pQ;rw [aK]
theorem ES{G:Gp}{R:Nat->Bool}{d t:D}(h:Fz G R d t):∀ (ds:List D),yN G R (ds++[d]) (ds++[t]):=by
 intro ds;induction ds with
 | nil=>exact .cons h .nil
 | cons x ds ih=>exact .cons (.same x) ih
noncomputable def mw:gx :=
 (cB (bV (dD (fH (aJ (fH a7) a7))) (aM 1))
 (cB (fi (g8 (ay 0)) (aM 2) (cB (bV (fH a7) (aM 3))
 (cB (fi (g8 (ay 1)) (aM 4) (fi (sM (lR Ht (aJ (dC (.int 1)) (aJ (lR jy (aJ (ay 2) a7)) a7)))) (aM 5) (gw (w6 wX ng (ay 3) (aJ (dD (bh iR (ay 4) (fH (aJ (bh iR (vh (ay 2) (jR (ay 5)) dB) (vh (ay 2) dB (jR (ay 5)))) a7)))) a7)))))
 (bV (dD (ay 3)) (aM 1)))))
 (cm (dD (ay 1)))))
noncomputable def gL:lS:=fun ds G Q _=>∃ rows:Rows,ds=[enc rows]/\Sz rows/\Q (enc (kD rows)) G
theorem tQ(ds:List D)(G:Gp)(Q:DK)(h:gL ds G Q fun _ _=>False):mw (fun _ _=>False) (ends Q) (bb 6 ds) G:=by
 obtain⟨rows,rfl,hz,q⟩:=h;have hn:=hz.n;have hm:∀ m∈rows.map j5,m.length<=24:=fun m hm=>by
  obtain⟨r,hr,rfl⟩:=List.mem_map.mp hm;rw [mT];have:=hz.row hr;lia
 unfold mw;simp only [ends,bb,az,a9,ao,av,aT,aP,a5,dI,bV,dD,fH,aJ,a7,aM,au,aj];refine⟨by decide,fun pa fa=>⟨by decide,fun pb fb=>?_⟩⟩;refine n6 ((eY.new fa).trans (.new fb)) ((eY.new fa).free fb) aG (.cons (.ref ((eY.new fb) _ _ aG) (by simp [fa]) .nil) .nil) ?_;refine gM (fun τ G'=>G=G'/\∃ a b c d,τ=[some (enc rows),some (enc (kD rows)),a,b,c,d]) ?_ ?_
 ·intro N hN;simp only [fi,cw,ay,aa];refine c8 ?_;refine ef (xs:=rows) (fun pre τ G'=>G=G'/\∃ a b c d,τ=[some (enc rows),some (enc (kD pre)),a,b,c,d]) ⟨rfl,_,_,_,_,rfl⟩ (fun _ _ _ _=>trivial) ?_ ?_
  ·rintro pre r post τ G' N2 e ⟨rfl,a,b,c,d,rfl⟩ tZ;have ug:pre.length<=2:=by have:=congrArg du e; simp at this; lia
   have hr:r.length<=24:=hz.row (by rw [e]; simp);have Me:(kD pre).length<=576:=by
    refine bx (oX (k:=24) _ fun x hx=>hm x ?_) (bx (qL (by decide) (by rw [ah]; exact ug)) (by decide));rw [e,aK]; exact gz _ hx
   simp only [aM,au,aj,kh,bV,fH,a7,av];refine⟨by decide,fun p3 f3=>?_⟩;simp only [fi];simp only [cw,ay,af,aa];refine c8 ?_;refine ef (xs:=kD pre) (fun qO τ G2=>eY G G2/\G2 p3=some (.lst ((qO.flatMap (AR (j5 r))).map enc))/\∃ c d,τ=[some (enc rows),some (enc (kD pre)),some (enc r),some (.ref p3),c,d]) ⟨.new f3,aG,_,_,rfl⟩ (fun _ _ _ _=>trivial) ?_ ?_
   ·rintro qO a2 HL τ G2 N3 e2 ⟨l2,g2,c,d,rfl⟩ Bl;have RG:qO.length < (kD pre).length:=by rw [e2]; simp
    have OG:a2.length=pre.length:=by have:=uW _ a2 (show a2∈pick (pre.map j5) from by rw [show pick (pre.map j5)=kD pre from rfl,e2]; simp); rw [this,ah]
    simp only [aM,fi,au,aj,jx,lR,aJ,dC,ay,af,aa,a7];refine lg (IsL.enc r) ?_;simp only [Ht,ah,ia];have Oq:(if (1:Int) < (r.length:Int) then (r.length:Int) else 1)=((max 1 r.length:Nat):Int):=by split <;> lia
    rw [Oq];refine⟨by lia,by lia,?_⟩;unfold fe;refine ef (xs:=bK ((max 1 r.length:Nat):Int).toNat) (f:=fun i:Nat=>D.int (0+(i:Int))) (fun ks τ G3=>eY G G3/\G3 p3=some (.lst ((qO.flatMap (AR (j5 r))++(ks.map (pQ r)).map (CV a2)).map enc))/\∃ d,τ=[some (enc rows),some (enc (kD pre)),some (enc r),some (.ref p3),some (enc a2),d]) ⟨l2,by rw [g2]; simp,_,rfl⟩ (fun _ _ _ _=>trivial) ?_ ?_
    ·rintro ks k HK τ G3 N4 e3 ⟨l3,g3,d,rfl⟩ OJ;have Mo:k < max 1 r.length:=by
      have:k∈bK ((max 1 r.length:Nat):Int).toNat:=by rw [e3]; simp
      have:=List.mem_range.mp this; lia
     have HW:ks.length<=24:=by
      have:=congrArg du e3;rw [cK,aU,ao] at this; lia
     simp only [aM,gw,w6,ay,pT,au,aj,af,aa,i7,aJ,dD,bh,fH,vh,dB,a7,ao,av,iE,iI,gj];refine⟨by rw [g3]; exact trivial,Gq (IsL.enc r) (by lia) (by lia) fun p4 G4 l4 f4 g4=>⟨by decide,fun p5 f5=>?_⟩⟩;refine Bz (IsL.enc a2) (IsL.ref aG) (JZ (by rw [ah,OG]; show _+1<=100000; lia)) fun p6 f6=>?_;have l6:eY G4 (cf (cf G4 p5 (.lst [.ref p4])) p6 (.lst (a2.map enc++[.ref p4]))):=(eY.new f5).trans (.new f6);refine n6 (ss:=(CV a2 (pQ r k)).map enc) (l4.trans l6) (l4.free ((eY.new f5).free f6)) aG ?_ ?_
     ·unfold CV;rw [aK];exact ES (.ref (l6 _ _ g4) (by simp [f4]) (yN.same _)) _
     ·simp only [g3];refine⟨JZ ?_,?_⟩
      ·rw [ah,aU,oW,mT,ah,ah];have:max 1 r.length * qO.length<=24 * 576:=q4 (by lia) (by lia);lia
      ·refine OJ _ _ ⟨l3.put f3,?_,_,rfl⟩;rw [aG];have:∀ (a b:Cs) (x:Rows),(a++(b++[x])).map (enc:Rows->D)=(a++b).map enc++[enc x]:=fun a b x=>by simp
       rw [aK (f:=pQ r),aK (f:=CV a2)];exact congrArg (fun l=>some (GO.lst l)) (this _ _ (CV a2 (pQ r k))).symm
    ·rintro τ G3 ⟨l3,g3,d,rfl⟩;refine Bl _ _ ⟨l3,?_,_,_,rfl⟩;rw [g3,List.flatMap_append,Dh]; rfl
   ·rintro τ G2 ⟨l2,g2,c,d,rfl⟩;simp only [bV,dD,ay,af,aa,aM,au,aj];refine eX (xs:=(kD pre).flatMap (AR (j5 r))) l2 f3 g2 ?_;refine tZ _ _ ⟨rfl,some (enc r),some (.ref p3),c,d,?_⟩;unfold kD;rw [aK,iM,uV]
  ·rintro τ G' ⟨rfl,a,b,c,d,rfl⟩;exact hN _ _ ⟨rfl,_,_,_,_,rfl⟩
 ·rintro _ _ ⟨rfl,a,b,c,d,rfl⟩;simp only [cm,dD,ay,af,aa];exact mL q
end yL
end K2
end
section
namespace K2
open PySem (Str)
open Enc (enc)
namespace yL
open K2.P
open K2.yM (dZ eO eN iq)
open K2.BD (cJ dH z3 lG HR HR.fz)
open K2.K3 (DF eE gk cV)
theorem EO{G G1:Gp}{p:Nat}{o:GO}(l:eY G G1):eY (cf G p o) (cf G1 p o):=fun a ob e=>by
 by_cases ha:a=p
 ·subst ha; rw [aG] at e ⊢; exact e
 ·rw [cN ha] at e ⊢; exact l a ob e
theorem Bi{G G1:Gp}{p0 p1:Nat}{as:List Nat}{rs:Rows}{o:GO}(h:HR G G1 p0 as rs)(f:G1 p1=none):HR (cf G p1 o) (cf G1 p1 o) p0 as rs:=by
 have n0:p0≠p1:=by rintro rfl; rw [h.gp] at f; cases f
 have na:∀ a∈as,a≠p1:=fun a ha=>by
  rintro rfl;obtain⟨i,hi⟩:=List.getElem?_of_mem ha;have h1:i < rs.length:=by rw [<-h.len]; exact(List.getElem?_eq_some_iff.mp hi).1
  rw [h.at' i a rs[i] hi (ai h1)] at f; cases f
 exact⟨EO h.le,by rw [cN n0]; exact h.fp,by rw [cN n0]; exact h.gp,h.np,h.nd,fun a ha=>by rw [cN (na a ha)]; exact h.fr a ha,h.len,fun i a r h1 h2=>by
  rw [cN (na a (dw h1))]; exact h.at' i a r h1 h2⟩
theorem Hh{G B G1:Gp}{p0:Nat}{as:List Nat}{rs:Rows}(l:eY G B)(h:HR B G1 p0 as rs):HR G G1 p0 as rs :=
 ⟨l.trans h.le,l.free h.fp,h.gp,h.np,h.nd,fun a ha=>l.free (h.fr a ha),h.len,h.at'⟩
theorem JJ(n:Nat):DF (aT n ([]:List T3)).flatten:=by
 have:(aT n ([]:List T3)).flatten=[]:=by simp
 rw [this];exact⟨cP,(fun p h=>by cases h),(fun p h=>by cases h),(fun p h=>by cases h)⟩
theorem eq_int(a b:Int):fy (.int a) (.int b)=decide (a=b):=rfl
noncomputable def Tj(G:Gp)(ns:List Int)(τ:fk)(G':Gp):Prop:=∃ (f:Int) (p0:Nat) (as:List Nat) (p1:Nat) (cs:List Int) (B:Gp),τ=[some (.cO (ns.map D.int)),some (.int f),some (.ref p0),some (.ref p1),none]/\HR B G' p0 as (aT as.length [])/\eY G B/\B p1=some (.lst (cs.map D.int))/\cs.length<=12/\1<=as.length/\as.length<=3
noncomputable def oR:gx :=
 (cB (bV (bH dH (aJ (ay 0) (aJ (dC (.int 0)) a7))) (aM 1))
 (cB (bV (dg 1 [] (sM (bh iR (dC (.int 1)) (bh nG (ay 1) (dC (.int 3))))) (aM 0) none (fH a7)) (aM 2))
 (cB (bV (vh (ay 0) (jR (dC (.int 1))) (jR (dC (.int 7)))) (aM 3))
 (cB (fQ (gT (bh (KH false) (bh nG (bh uU (ay 1) (dC (.int 3))) (dC (.int 8))) (dC (.int 1)))) (cB (bV (fH (aJ (fH a7) a7)) (aM 2))
 (bV (dg 1 [0] (sM (bh iR (dC (.int 7)) (bh nG (bh uU (ay 1) (dC (.int 24))) (dC (.int 6))))) (aM 0) none (bh iR (bH dH (aJ (ay 1) (aJ (bh iR (dC (.int 1)) (ay 0)) a7))) (bh xC (bh xC (dC (.int 7919)) (ay 0)) (ay 0)))) (aM 3))) cZ)
 (cB (fi (g8 (ay 3)) (aM 4) (gw (bH eE (aJ (ay 2) (aJ (ay 4) a7)))))
 (cm (dD (ay 2))))))))
noncomputable def i8:lS:=fun ds G Q _=>∃ ns:List Int,ds=[.cO (ns.map D.int)]/\ns.length<=63/\∀ rows:Rows,Sz rows->DF rows.flatten->Q (enc rows) G
theorem wN(ds:List D)(G:Gp)(Q:DK)(h:i8 ds G Q fun _ _=>False):oR (fun _ _=>False) (ends Q) (bb 5 ds) G:=by
 obtain⟨ns,rfl,zI,q⟩:=h;unfold oR;simp only [ends,bb,az,a9,ao,av,aT,aP,a5,dI,bV,bH,aJ,ay,aa,dC,a7,aM,au,aj,dg,vh,rn,iI,gj,jx,bh,af];refine⟨ns,0,rfl,by decide,?_⟩;simp only [eK,eL,ia];have k1:1<=1+lG ns 0 % 3:=by lia
 have k3:1+lG ns 0 % 3<=3:=by lia
 refine⟨by decide,?_⟩;generalize 1+lG ns 0 % 3=k at *;generalize lG ns 0=f at *;refine⟨by lia,by lia,ze (by unfold fe; rw [ah,cK]; lia),?_⟩;unfold fe;refine dN (xs:=bK k.toNat) (fun pre acc τ G'=>(∃ a,τ=[a])/\∃ as:List Nat,acc=as.map D.ref/\as.length=pre.length/\as.Nodup/\(∀ a∈as,G a=none/\G' a=some (.lst []))/\eY G G') ⟨⟨_,rfl⟩,[],rfl,rfl,cP,(fun a h=>by cases h),.refl G⟩ (fun _ _ _ _ _=>trivial) ?_ ?_
 ·rintro pre x post acc τ G' N e ⟨⟨a,rfl⟩,as,rfl,hl,hn,ha,le⟩ hN;simp only [aM,fH,a7,av,aj];refine⟨by decide,fun p hp=>?_⟩;refine hN _ _ _ ⟨⟨_,rfl⟩,as++[p],by simp,by simp [hl],?_,?_,le.trans (.new hp)⟩
  ·rw [jc];refine⟨hn,by simp,fun a h b hb e=>?_⟩;rw [lJ] at hb;subst hb e;rw [(ha a h).2] at hp; cases hp
  ·intro a h0;rcases List.mem_append.mp h0 with h | h
   ·refine⟨(ha a h).1,?_⟩;rw [cN (fun z=>by rw [<-z,(ha a h).2] at hp; cases hp)];exact(ha a h).2
   ·rw [lJ] at h;subst h;exact⟨le.free hp,aG⟩
 rintro acc τ G1 ⟨⟨a,rfl⟩,as,rfl,hl,hn,ha,le⟩ p0 CP;rw [cK] at hl;have PN:HR G (cf G1 p0 (.lst (as.map D.ref))) p0 as (aT as.length []):=by
  refine⟨le.trans (.new CP),le.free CP,aG,fun z=>?_,hn,fun a h=>(ha a h).1,by simp,fun i b r hb hr=>?_⟩
  ·rw [(ha p0 z).2] at CP; cases CP
  ·have zK:=dw hb;have:r=[]:=List.eq_of_mem_replicate (dw hr);subst this;rw [cN (by rintro rfl; rw [(ha b zK).2] at CP; cases CP)];exact(ha b zK).2
 generalize cf G1 p0 (.lst (as.map D.ref))=G2 at *;intro p1 f1;have ec:cut (ns.map D.int) (some 1) (some 7)=(cut ns (some 1) (some 7)).map D.int:=k8 _ _ _ _;have Lu:(cut ns (some 1) (some 7)).length<=12:=by
  unfold cut fY;simp only;rw [nW];have h1:min (7:Int).toNat ns.length<=7:=Nat.min_le_left _ _;simp;lia
 rw [ec];generalize cut ns (some 1) (some 7)=cs at *;have PM:=Bi (o:=.lst (cs.map D.int)) PN f1;have b1:(cf G p1 (.lst (cs.map D.int))) p1=some (.lst (cs.map D.int)):=aG;have fG:G p1=none:=PN.le.free f1;have lB:eY G (cf G p1 (.lst (cs.map D.int))):=.new fG;generalize cf G2 p1 (.lst (cs.map D.int))=G3 at *;generalize cf G p1 (.lst (cs.map D.int))=B at *;refine gM (Tj G ns) ?_ ?_
 ·intro N hN;simp only [fQ,dI,bV,fH,aJ,a7,av,ao,aM,dg,au,aj,jx,bh,dC,ay,af,aa,mY,eK,eL,ia,cZ,dA];refine⟨by decide,by decide,by decide,_,_,.int _,.int _,?_⟩;rw [eq_int];simp only [aB,if_false,bS];by_cases hc:f / 3 % 8=1
  ·simp only [hc,decide_true,if_true];refine⟨by decide,fun pa fa=>⟨by decide,fun pb fb=>?_⟩⟩;have Sd:eY G G3:=lB.trans PM.le;have Pz:pa≠pb:=fun z=>by rw [<-z,aG] at fb; cases fb
   have PL:HR G3 (cf (cf G3 pa (.lst [])) pb (.lst [.ref pa])) pb [pa] [[]]:=by
    refine⟨(eY.new fa).trans (.new fb),(eY.new fa).free fb,aG,by simpa using Pz.symm,by simp,fun a h=>by rw [List.mem_singleton.mp h]; exact fa,rfl,fun i b r hb hr=>?_⟩;have hi:i=0:=by have:=(List.getElem?_eq_some_iff.mp hb).1; simp at this; lia
    subst hi;simp at hb hr;subst hb hr;rw [cN Pz,aG]; rfl
   generalize cf (cf G3 pa (.lst [])) pb (.lst [.ref pa])=G4 at *;refine⟨by decide,by decide,by decide,?_⟩;have n1:7<=7+f / 24 % 6:=by lia
   have n2:7+f / 24 % 6<=12:=by lia
   generalize 7+f / 24 % 6=n at *;refine⟨by lia,by lia,ze (by unfold fe; rw [ah,cK]; lia),?_⟩;unfold fe;refine dN (xs:=bK n.toNat) (f:=fun i:Nat=>D.int (0+(i:Int))) (fun pre acc τ G'=>G4=G'/\(∃ a,τ=[a,some (.cO (ns.map D.int))])/\∃ cs:List Int,acc=cs.map D.int/\cs.length=pre.length) ⟨rfl,⟨_,rfl⟩,[],rfl,rfl⟩ (fun _ _ _ _ _=>trivial) ?_ ?_
   ·rintro pre j post acc τ G' N2 e ⟨rfl,⟨a,rfl⟩,cs,rfl,Bj⟩ tZ;have hj:j < n.toNat:=by
     have:j∈bK n.toNat:=by rw [e]; simp
     exact List.mem_range.mp this
    simp only [aM,bh,bH,aJ,ay,pT,aj,af,aa,dC,a7,my,eL];refine⟨ns,1+j,rfl,by lia,?_⟩;simp only [eL];refine⟨.inl ⟨by decide,by decide⟩,.inr ⟨by lia,by lia⟩,tZ _ _ _ ⟨rfl,⟨_,rfl⟩,cs++[lG ns (1+(j:Int))+7919 * (j:Int) * (j:Int)],?_,?_⟩⟩
    ·rw [aK]; rfl
    ·rw [aU,aU,Bj]; rfl
   ·rintro acc τ G' ⟨rfl,⟨a,rfl⟩,cs,rfl,Bj⟩ p5 f5;rw [cK] at Bj;refine hN _ _ ⟨f,pb,[pa],p5,cs,_,rfl,Bi PL f5,Sd.trans (.new (PL.le.free f5)),aG,by lia,by show 1<=1; decide,by show 1<=3; decide⟩
  ·simp only [hc,decide_false,aB,if_false];exact hN _ _ ⟨f,p0,as,p1,cs,B,rfl,PM,lB,b1,Lu,by lia,by lia⟩
 ·rintro _ G5 ⟨f,p0,as,p1,cs,B,rfl,hr,lB,gp,Lu,a1,a3⟩;refine gM (fun τ G'=>(∃ a,τ=[some (.cO (ns.map D.int)),some (.int f),some (.ref p0),some (.ref p1),a])/\∃ rows:Rows,HR B G' p0 as rows/\Sz rows/\DF rows.flatten) ?_ ?_
  ·intro N hN;simp only [fi,cw,ay,af,aa];refine BD.wb (IsL.ref gp) hr.le fun ok bY=>?_;refine ef (xs:=cs) (fun pre τ G'=>(∃ a,τ=[some (.cO (ns.map D.int)),some (.int f),some (.ref p0),some (.ref p1),a])/\∃ rows:Rows,HR B G' p0 as rows/\DF rows.flatten/\rows.flatten.length=2 * pre.length/\rows.length=as.length) ⟨⟨_,rfl⟩,_,hr,JJ _,by simp,by simp⟩ (fun _ _ _ h=>by obtain⟨_,_,h,_⟩:=h; exact bY _ h.le) ?_ ?_
   ·rintro pre c post τ G' N2 e ⟨⟨a,rfl⟩,rows,hr,df,fl,Nd⟩ tZ;have ug:pre.length < 12:=by have:=congrArg du e; simp at this; lia
    simp only [aM,gw,bH,aJ,ay,au,aj,af,aa,a7];refine⟨B,p0,as,rows,c,rfl,hr,⟨by lia,by lia,by lia⟩,fun xu m hd G4 h1 h2 h3 h4 h5=>?_⟩;refine tZ _ _ ⟨⟨_,rfl⟩,xu,h5,(df.add h3 h4).perm h2,?_,by lia⟩;have:=h2.length_eq;rw [ao,ao] at this;rw [aU,fS]; lia
   ·rintro τ G' ⟨⟨a,rfl⟩,rows,hr,df,fl,Nd⟩;exact hN _ _ ⟨⟨_,rfl⟩,rows,hr,⟨by lia,by lia⟩,df⟩
  ·rintro _ G6 ⟨⟨a,rfl⟩,rows,hr,sz,df⟩;simp only [cm,dD,ay,af,aa];exact(Hh lB hr).fz (q rows sz df)
end yL
end K2
end
section
namespace K2
open PySem (Str)
open Enc (enc)
namespace yL
open K2.P
open K2.yM (dZ eO eN iq)
open K2.BD (cJ)
open K2.K3 (DF gk cV)
variable {rows c:Rows}
theorem OX{α:Type} [DecidableEq α] [Enc α]{neg:Bool}{x y:α}{G:Gp}{Q:DK}(hd:Enc.dep α<=8)(q:Q (.bl (if neg then !decide (x=y) else decide (x=y))) G):qN neg (enc x) (enc y) G Q :=
 .inl ⟨_,_,Enc.sn G 8 x hd,Enc.sn G 8 y hd,by rw [Enc.eqv]; exact q⟩
theorem Hl{α:Type} [DecidableEq α] [Enc α]{neg:Bool}{xs ys:List α}{a:Nat}{G:Gp}{Q:DK}(hd:Enc.dep α<=6)(h:G a=some (.lst (xs.map enc)))(q:Q (.bl (if neg then !decide (xs=ys) else decide (xs=ys))) G):qN neg (.ref a) (enc ys) G Q :=
 .inl ⟨_,_,.ref h (pW G 7 (by lia) xs),Enc.sn (α:=List α) G 8 ys (by show Enc.dep α+1<=8; lia),by
  have:=Enc.eqv xs ys;rw [show (D.cO (xs.map enc))=enc xs from rfl,this]; exact q⟩
theorem M7(df:DF rows.flatten)(ro:Ro rows c):(c.flatten.map T3.s).Nodup:=(ro.perm.map _).nodup_iff.mpr df.nd
theorem DM{r:List T3}(h:(c.flatten.map T3.s).Nodup)(hr:r∈c):(r.map T3.s).Nodup:=by
 refine List.Sublist.nodup (List.Sublist.map _ ?_) h;obtain⟨a,b,rfl⟩:=List.append_of_mem hr;rw [hV,cx];exact(List.sublist_append_left _ _).trans (List.sublist_append_right _ _)
theorem v5(ro:Ro rows c){r:List T3}(hr:r∈rows):Kn (met c.flatten) r:=fun t ht=>Ef _ t (ro.perm.mem_iff.mpr (List.mem_flatten.mpr ⟨r,hr,ht⟩))
theorem Gi{m:M}(gd:Gd m){rows c:Rows}(ro:Ro rows c):(∀ r∈rows,Kn m r)->(∀ r∈rows,(r.map T3.s).Nodup)->(rows.map (rX m)).map dZ=(c.map (rX m)).map dZ:=by
 induction ro with
 | nil=>intro _ _; rfl
 | cons q _ ih =>
  intro kn nd;obtain⟨k,_,rfl⟩:=q;simp only [az];rw [Gn,DH (DQ gd (kn _ a0) (nd _ a0)),ih (fun r hr=>kn r (aw _ hr)) fun r hr=>nd r (aw _ hr)]
theorem DG(df:DF rows.flatten)(ro:Ro rows c):(rows.map (rX (met c.flatten))).map dZ=sm c :=
 Gi (vY _) ro (fun r hr=>v5 ro hr) fun r hr=>DM df.nd hr
theorem keys_eq(ro:Ro rows c):BL ((met c.flatten).map (·.1))=gk rows:=by
 unfold gk;refine IA ?_;rw [xO];refine(List.perm_ext_iff_of_nodup (K3.zU _ _ cP) (K3.zU _ _ cP)).mpr fun x=>?_;rw [K3.pC,K3.pC,(ro.perm.map _).mem_iff]
theorem Cm{m:M}(h:(m.map (·.1)).Nodup):qT m m=true:=by
 unfold qT;rw [aA];refine⟨by simp,List.all_eq_true.mpr fun p hp=>?_⟩;rw [qF h hp]; simp
theorem vk(sz:Sz c)(m:M)(kn:∀ r∈c,Kn m r):c.length<=1000/\∀ r∈c,r.length<=1000/\Kn m r:=⟨by have:=sz.n; lia,fun r hr=>⟨by have:=sz.row hr; lia,kn r hr⟩⟩
theorem xp(sz:Sz c){m:M}(gd:Gd m)(kn:∀ r∈c,Kn m r)(nd:(c.flatten.map T3.s).Nodup):(c.map (rX m)).length<=1000/\∀ r∈c.map (rX m),r.length<=1000/\(r.map T3.s).Nodup:=by
 refine⟨by rw [ah]; have:=sz.n; lia,fun r hr=>?_⟩;obtain⟨r',Ld,rfl⟩:=List.mem_map.mp hr;exact⟨by rw [AK]; have:=sz.row Ld; lia,DQ gd (kn r' Ld) (DM nd Ld)⟩
noncomputable def DS:gx :=
 (cB (bV (bH i8 (aJ (ay 0) a7)) (aM 1))
 (cB (Fb 2 (bV (dg 1 [] (g8 (ay 1)) (aM 0) none (dD (lR tH (aJ (ay 0) a7)))) (aM 2)))
 (cB (bV (bH gr (aJ (ay 2) a7)) (aM 3))
 (cB (fQ (CU (j3 (gT (wF "tuple" (ay 3)))) (CU (gT (bh (qN true) (lR jy (aJ (ay 3) a7)) (dC (.int 2)))) (gT (bh (qN true) (ay 2) (ay 1))))) (cm (dD (dC (.bl false)))) cZ)
 (cB (bV (ay 3) (Cg (mK (aM 4) (mK (aM 5) zL))))
 (cB (fQ (CU (j3 (gT (bH c6 (aJ (ay 4) a7)))) (j3 (gT (wF "dict" (ay 5))))) (cm (dD (dC (.bl false)))) cZ)
 (cB (fQ (CU (gT (bh (qN true) (lR nt (aJ (ay 5) a7)) (bH cV (aJ (ay 1) a7)))) (j3 (gT (lR Hu (aJ (dg 1 [] (EA (ay 5)) (aM 0) none (dD (bH cJ (aJ (ay 0) a7)))) a7))))) (cm (dD (dC (.bl false)))) cZ)
 (cB (fQ (CU (gT (bh (qN true) (ay 4) (bH fw (aJ (bH eS (aJ (ay 1) (aJ (ay 5) a7))) a7)))) (gT (bh (qN true) (bH kL (aJ (ay 2) a7)) (ay 4)))) (cm (dD (dC (.bl false)))) cZ)
 (cB (bV (dC (.bl false)) (aM 6))
 (cB (fi (g8 (bH gL (aJ (ay 1) a7))) (aM 7) (cB (bV (bH kM (aJ (ay 7) a7)) (aM 8))
 (cB (bV (Ho (ay 6) (bh (qN false) (ay 8) (ay 5))) (aM 6))
 (fQ (gT (bh Gs (bH fw (aJ (bH eS (aJ (ay 7) (aJ (ay 8) a7))) a7)) (ay 4))) (cm (dD (dC (.bl false)))) cZ))))
 (cm (dD (ay 6)))))))))))))
theorem JW(ds:List D)(G:Gp)(Q:DK)(h:uQ ds G Q fun _ _=>False):DS (fun _ _=>False) (ends Q) (bb 9 ds) G:=by
 obtain⟨ns,rfl,zI,hG,q⟩:=h;unfold DS;simp only [ends,bb,az,a9,ao,av,aT,aP,a5,dI,bV,bH,aJ,ay,aa,a7,aM,au,aj];refine⟨ns,rfl,zI,fun rows sz df=>?_⟩;have ro:=Fd (Fs rows);have Kw:=sz.ro ro;have z1:=sz.n;have z2:=sz.f;have z3:=Kw.f;simp only [kh,Fb,bV,dg,aM,au,aj,af,aa,bH,aJ,ay,a7,cw];refine c8 ⟨ze (by rw [ah]; lia),?_⟩;refine dN (xs:=rows) (fun pre acc τ G'=>G=G'/\(∃ a,τ=[a])/\acc=pre.map enc) ⟨rfl,⟨_,rfl⟩,rfl⟩ (fun _ _ _ _ _=>trivial) ?_ ?_
 ·rintro pre r post acc τ G' N e ⟨rfl,⟨a,rfl⟩,rfl⟩ hN;simp only [aM,dD,lR,aJ,ay,aj,aa,a7];refine Fi (IsL.enc r) fun p hp=>eX (xs:=r) (.new hp) hp aG (hN _ _ _ ⟨rfl,⟨_,rfl⟩,?_⟩);rw [aK]; rfl
 rintro acc τ G' ⟨rfl,⟨a,rfl⟩,rfl⟩ p hp;refine eX (xs:=rows) (.new hp) hp aG ?_;refine⟨rows,rfl,sz,?_⟩;unfold tp;simp only [fQ,CU,j3,cm,dD,dC,cZ,kh,bV,ay,af,aa,if_true,dA,bh,lR,aJ,a7,pF,ao,av,jS,pq,beq_self_eq_true,bS,bO,aB,if_false];refine DX ?_;simp only [if_true,bS];refine OX (x:=rows) (y:=rows) (by decide) ?_;simp only [decide_true,bO,if_true,Cg,mK,aM,zL,au,aj,bS,aB,if_false];refine⟨_,rfl,?_⟩;simp only [cm,dD,dC,cZ,if_true,j3,dA,jS,ay,af,aa,Et,beq_self_eq_true,bS,bO,aB,if_false];simp only [show BJ (D.bl true) G=some true from rfl,bO,aB,if_false];simp only [kh,fQ,CU,cm,dD,dC,cZ,bV,aM,au,aj,if_true,dA,bh,bH,aJ,ay,af,aa,a7,j3,lR,dg,nt];have Ot:=A1 (bc rows).flatten;refine⟨(met (bc rows).flatten).map (·.1),by unfold bG; rw [hX,hX]; rfl,by rw [ah]; lia,fun p2 uh=>?_⟩;refine⟨_,rows,rfl,K3.Cz.enc rows,by lia,?_⟩;refine Hl (by decide) aG ?_;rw [keys_eq ro];simp only [decide_true,bO,if_true,EA,ay,af,aa,Be,bS,aB,if_false];have Mo:ku (bG (met (bc rows).flatten))=true:=by
  unfold ku bG;rw [h8];exact List.all_eq_true.mpr fun _ _=>rfl
 have hv:(bG (met (bc rows).flatten)).map (·.2)=((met (bc rows).flatten).map (·.2)).map enc:=by unfold bG; rw [hX,hX]; rfl
 rw [hv];refine⟨Mo,ze (by rw [ah,ah]; lia),?_⟩;refine dN (xs:=(met (bc rows).flatten).map (·.2)) (fun pre acc τ G'=>cf G p2 (.lst ((gk rows).map enc))=G'/\acc=aT pre.length (D.bl true)/\∃ a,τ=[a]) ⟨rfl,rfl,_,rfl⟩ (fun _ _ _ _ _=>trivial) ?_ ?_
 ·rintro Np i HK acc τ G3 N3 e3 ⟨rfl,rfl,a,rfl⟩ Bl;simp only [aM,dD,bH,aJ,ay,aj,aa,a7];refine⟨i,rfl,mL (Bl _ _ _ ⟨rfl,?_,_,rfl⟩)⟩;simp [FV]
 rintro acc τ G3 ⟨rfl,rfl,a,rfl⟩ p3 FK;have l3:eY G (cf (cf G p2 (.lst ((gk rows).map enc))) p3 (.lst (aT ((met (bc rows).flatten).map (·.2)).length (D.bl true)))):=(eY.new uh).trans (.new FK);refine⟨aT ((met (bc rows).flatten).map (·.2)).length true,?_,?_⟩
 ·unfold itemsOf; simp only [aG]; simp
 have er:∀ n,(aT n true).all id=true:=fun n=>by simp
 rw [er];generalize cf (cf G p2 (.lst ((gk rows).map enc))) p3 _=G3 at *;simp only [bS,bO,aB,if_false];refine⟨rows,_,rfl,vk sz _ fun r hr=>v5 ro hr,?_⟩;refine⟨_,rfl,xp sz (vY _) (fun r hr=>v5 ro hr) df.nd,?_⟩;rw [DG df ro];refine OX (x:=sm (bc rows)) (y:=sm (bc rows)) (by decide) ?_;simp only [decide_true,bO,if_true,bS,aB,if_false];refine⟨rows,rfl,sz,?_⟩;refine OX (x:=sm (bc rows)) (y:=sm (bc rows)) (by decide) ?_;simp only [decide_true,bO,if_true,bS,aB,if_false];simp only [fi];simp only [cw,bH,aJ,ay,af,aa,a7];refine⟨rows,rfl,sz,c8 ?_⟩
 let ev:=fun c:Rows=>qT (met c.flatten) (met (bc rows).flatten)
 refine ef (xs:=kD rows) (fun pre τ G'=>G3=G'/\∃ a b,τ=[some (.cO (ns.map D.int)),some (enc rows),some (enc rows),some (.tup [enc (sm (bc rows)),.iC (bG (met (bc rows).flatten))]),some (enc (sm (bc rows))),some (.iC (bG (met (bc rows).flatten))),some (.bl (pre.any ev)),a,b]) ⟨rfl,_,_,rfl⟩ (fun _ _ _ _=>trivial) ?_ ?_
 ·rintro pre c post τ G' N e ⟨rfl,a1,a2,rfl⟩ hN;have hc:c∈kD rows:=by rw [e]; simp
  have Pm:=Fd hc;have Kw:=sz.ro Pm;have hf:=Kw.f;simp only [aM,au,aj,kh,bV,bH,aJ,ay,af,aa,a7,fQ,cm,dD,dC,cZ,dA,bh,wD,bS];refine⟨c,rfl,by lia,?_⟩;have ea:(pre++[c]).any ev=(pre.any ev||qT (met c.flatten) (met (bc rows).flatten)):=by rw [List.any_append]; simp [ev]
  rw [ea] at hN;have go:∀ b:Bool,(∀ τ G2,(G3=G2/\∃ a a',τ=[some (.cO (ns.map D.int)),some (enc rows),some (enc rows),some (.tup [enc (sm (bc rows)),.iC (bG (met (bc rows).flatten))]),some (enc (sm (bc rows))),some (.iC (bG (met (bc rows).flatten))),some (.bl b),a,a'])->N τ G2) ->
    eS [enc c,.iC (bG (met c.flatten))] G3 (fun x G1=>fw [x] G1 (fun y G2=>Gs y (enc (sm (bc rows))) G2 fun z G4=>qv z G4 fun k G5=>if k=true then FO G5 (.bl false) Q else N [some (.cO (ns.map D.int)),some (enc rows),some (enc rows),some (.tup [enc (sm (bc rows)),.iC (bG (met (bc rows).flatten))]),some (enc (sm (bc rows))),some (.iC (bG (met (bc rows).flatten))),some (.bl b),some (enc c),some (.iC (bG (met c.flatten)))] G5) fun _ _=>False) fun _ _=>False:=by
   intro b hN;have nd:=M7 df Pm;refine⟨c,_,rfl,vk Kw _ fun r hr=>zE hr,?_⟩;refine⟨_,rfl,xp Kw (vY _) (fun r hr=>zE hr) nd,?_⟩;refine DW (x:=sm c) (y:=sm (bc rows)) (by decide) ?_;rw [JQ hc];exact hN _ _ ⟨rfl,_,_,rfl⟩
  cases hp:pre.any ev with
  | true =>
   rw [hp,Bool.true_or] at hN;exact go true hN
  | false =>
   rw [hp,tY] at hN;refine DY Ki.iC Ki.iC ?_;exact go _ hN
 ·rintro τ G' ⟨rfl,a1,a2,rfl⟩;have ht:(kD rows).any ev=true:=List.any_eq_true.mpr ⟨bc rows,Fs rows,Cm (vY _).nd⟩;rw [ht];exact mL (q _)
end yL
end K2
end
namespace Fin
open PySem PySem.Spec PyProof.Rows L2 K2
open K2.BD (dH qH mx cJ pK kN)
open K2.K3 (cV pL kO iB qG mr eE pM kP)
open K2.yM (fv vA cI mV pZ jr)
open K2.yL
open K2.P
noncomputable def top(i:Nat):Stmt:=PySem.Challenge.pw_knotwise_k72_settling_is_the_least_choic.main.body.getD i (.Pass ⟨0,0,0,0⟩)
section
variable {P:bf} {w:World} {K:ag} {mg:Str->Option Value} {base:Heap}
theorem xq:bL ["_law_script","_law_k"] ["_law_script","_law_k"] (aO (top 16)):=rh
theorem x9 {f:Addr} {fd:aE} (F:nv K "_law_cell" "_law_cell" (top 16) f fd) (cE:mg "len" = none):eR P w K mg base fJ 1 f fd ["_law_script","_law_k"] (di K dH) :=
 uj F xq qH fun _ _ _ _ _ _ hr=>have hu:=hr.units; have Jn:=hr.Du; (aN (ff (eZ (D9 Jn) (bE 1) (cy dE rfl cE iT (ax (bE 0) aL)) (jw _)) (aS (bC (bB (fg hu (bE 0) (bE 1) (fun _ _=>rfl))))) cX)
 (aS (bC (bB a8))))
theorem oK:bL ["_law_rows","_law_used","_law_row","_law_passing"] ["_law_rows"] (aO (top 21)):=rh
theorem wm {f:Addr} {fd:aE} (F:nv K "_law_names" "_law_names" (top 21) f fd) (jf:mg "sorted" = none):eR P w K mg base fJ 1 f fd ["_law_rows"] (di K cV) :=
 uj F oK pL fun _ _ _ _ _ _ hr=>have nd:=oK.nd; have hu:=hr.units; (aN (oU (i:=1) nd rfl (dM aL))
 (aN (dJ br rfl (cA (bE 0)) (mB (i:=2) nd rfl) (aS (dJ br rfl (cA (bE 2)) (mB (i:=3) nd rfl) (aS (ff (eZ (qa hu) (fg hu (bE 3) a8 (fun _ _=>rfl)) (bE 1) (by with_unfolding_all rfl)) (aS (iD (mC cu lI lH iA nY (bE 1) (ax (fg hu (bE 3) a8 (fun _ _=>rfl)) aL)))) cX)))))
 (aS (bC (bB (cy (wI rfl hu) rfl jf vo (ax (bE 1) aL)))))))
theorem qy:bL ["_law_rows","_law_cell_here","_law_name_here"] ["_law_rows","_law_cell_here"] (aO (top 22)):=rh
theorem x8 {f:Addr} {fd:aE} (F:nv K "_law_name" "_law_name" (top 22) f fd) {mO:Addr} {mS:aE} (dP:qI P w K mg base fJ 1 mO mS "_law_names" ["_law_rows"] (di K cV)):eR P w K mg base fJ 2 f fd ["_law_rows","_law_cell_here"] (di K iB) :=
 uj F qy qG fun _ _ _ _ _ _ hr=>have nd:=qy.nd; have hu:=hr.units; (aN (oU (i:=2) nd rfl (bN ee a8 (bN fx (bN fx (bN mZ (bE 1) a8) a8) a8)))
 (aN (BS br (eZ (IY hu) (bE 2) (bz dP.ok (hr.mono (by decide)) rfl dP.mg dP.kp dP.bi (ax (bE 0) aL)) (by with_unfolding_all rfl)) (aS (oU (i:=2) nd rfl (bN ee (bN fx (bE 2) a8) a8))))
 (aS (bC (bB (bE 2))))))
theorem oN:bL ["_law_rows","_law_cell_here","_law_name_here","_law_hand","_law_over","_law_under"] ["_law_rows","_law_cell_here"] (aO (top 23)):=rh
theorem wt {f:Addr} {fd:aE} (F:nv K "_law_cross" "_law_cross" (top 23) f fd) (cE:mg "len" = none) {zQ:Addr} {zW:aE} (lb:qI P w K mg base fJ 2 zQ zW "_law_name" ["_law_rows","_law_cell_here"] (di K iB)):eR P w K mg base fJ 3 f fd ["_law_rows","_law_cell_here"] (di K eE) :=
 uj F oN pM fun _ _ _ _ _ _ hr=>have nd:=oN.nd; have hu:=hr.units; (aN (oU (i:=2) nd rfl (bz lb.ok (hr.mono (by decide)) rfl lb.mg lb.kp lb.bi (ax (bE 0) (ax (bE 1) aL))))
 (aN (oU (i:=3) nd rfl (bN GL (bN mZ a8 (bN fx (bE 1) a8)) a8))
 (aN (oU (i:=4) nd rfl (fg hu (bE 0) (bN fx (bN o3 (bE 1) a8) (cy dE rfl cE iT (ax (bE 0) aL))) (fun _ _=>rfl)))
 (aN (iD (mC cu yA yy iA sk (bE 4) (ax (bN fx (bN fx (bN mZ (bE 1) a8) a8) (bN ee (cy dE rfl cE iT (ax (bE 4) aL)) a8)) (ax (oY (ax (bE 2) (ax a8 (ax (bE 3) aL)))) aL))))
 (aN (oU (i:=5) nd rfl (fg hu (bE 0) (bN fx (bN o3 (bE 1) a8) (cy dE rfl cE iT (ax (bE 0) aL))) (fun _ _=>rfl)))
 (aS (iD (mC cu yA yy iA sk (bE 5) (ax (bN fx (bN fx (bN mZ (bE 1) a8) a8) (bN ee (cy dE rfl cE iT (ax (bE 5) aL)) a8)) (ax (oY (ax (bE 2) (ax a8 (ax (bE 3) aL)))) aL))))))))))
theorem oM:bL ["_law_script","_law_first","_law_rows","_law_cells","_law_cell_here"] ["_law_script"] (aO (top 27)):=rh
theorem wo {f:Addr} {fd:aE} (F:nv K "_law_drawn" "_law_drawn" (top 27) f fd) (ez:mg "range" = none) {zR:Addr} {zX:aE} (fj:qI P w K mg base fJ 1 zR zX "_law_cell" ["_law_script","_law_k"] (di K dH)) {yc:Addr} {ym:aE} (jU:qI P w K mg base fJ 3 yc ym "_law_cross" ["_law_rows","_law_cell_here"] (di K eE)):eR P w K mg base fJ 4 f fd ["_law_script"] (di K i8) :=
 uj F oM wN fun _ _ _ _ _ _ hr=>have nd:=oM.nd; have hu:=hr.units; (aN (oU (i:=1) nd rfl (bz fj.ok (hr.mono (by decide)) rfl fj.mg fj.kp fj.bi (ax (bE 0) (ax a8 aL))))
 (aN (oV ["_law_k"] (sc:=aO (top 27)) (XN:=["_law_script","_law_first","_law_rows","_law_cells","_law_cell_here"]) (i:=2) nd rfl rfl (ju rfl ez (bN ee a8 (bN fx (bE 1) a8))) (fun _ _ _ _=>(mB (i:=0) (show (["_law_k"]:List Str).Nodup by decide +kernel) rfl)) (fun _ _ _ _=>.none) (fun _ _ _ _=>(dM aL)))
 (aN (oU (i:=3) nd rfl (et (bE 0) (eM a8) (eM a8)))
 (aN (ff (eZ (Ea hu) (bN fx (bN o3 (bE 1) a8) a8) a8 (jw _)) (aN (oU (i:=2) nd rfl (dM (ax (dM aL) aL)))
 (aS (oV ["_law_k","_law_script"] (sc:=aO (top 27)) (XN:=["_law_script","_law_first","_law_rows","_law_cells","_law_cell_here"]) (i:=3) nd rfl rfl (ju rfl ez (bN ee a8 (bN fx (bN o3 (bE 1) a8) a8))) (fun _ _ _ _=>(mB (i:=0) (show (["_law_k","_law_script"]:List Str).Nodup by decide +kernel) rfl)) (fun _ _ _ _=>.none) (fun _ _ _ _=>(bN ee (bz fj.ok (hr.mono (by decide)) rfl fj.mg fj.kp fj.bi (ax (bE 1) (ax (bN ee a8 (bE 0)) aL))) (bN mZ (bN mZ a8 (bE 0)) (bE 0))))))) cX)
 (aN (dJ br rfl (cA (bE 3)) (mB (i:=4) nd rfl) (aS (iD (bz jU.ok (hr.mono (by decide)) rfl jU.mg jU.kp jU.bi (ax (bE 2) (ax (bE 4) aL))))))
 (aS (bC (bB (bE 2)))))))))
theorem md:bL ["lists","picked","members","longer","ahead"] ["lists"] (aO (top 5)):=rh
theorem sU {f:Addr} {fd:aE} (F:nv K "one_of_each" "one_of_each" (top 5) f fd):eR P w K mg base fJ 1 f fd ["lists"] (di K gK) :=
 uj F md tP fun _ _ _ _ _ _ hr=>have nd:=md.nd; (aN (oU (i:=1) nd rfl (bB (dM (ax (dM aL) aL))))
 (aN (dJ br rfl (cA (bE 0)) (mB (i:=2) nd rfl) (aN (oU (i:=3) nd rfl (dM aL))
 (aN (dJ br rfl (cA (bE 1)) (mB (i:=4) nd rfl) (aS (iD (mC cu yB yz iA so (bE 3) (ax (fP ["member","ahead"] (sc:=aO (top 5)) (XN:=["lists","picked","members","longer","ahead"]) (cA (bE 2)) (fun _ _ _ _=>(mB (i:=0) (show (["member","ahead"]:List Str).Nodup by decide +kernel) rfl)) (fun _ _ _ _=>.none) (fun _ _ _ _=>(bB (bN ee (bE 1) (dM (ax (bE 0) aL)))))) aL)))))
 (aS (oU (i:=1) nd rfl (bB (bE 3)))))))
 (aS (bC (bB (bE 1))))))
theorem ud:bL ["row"] ["row"] (aO (top 10)):=rh
theorem um {f:Addr} {fd:aE} (F:nv K "beginnings" "beginnings" (top 10) f fd) (cE:mg "len" = none) (ez:mg "range" = none):eR P w K mg base fJ 1 f fd ["row"] (di K ik) :=
 uj F ud uI fun _ _ _ _ _ _ hr=>(aN (ff (ip (eT (bE 0))) (aS (bC (bB (dM (ax (dM aL) aL))))) cX)
 (aS (bC (bB (fP ["start","row"] (sc:=aO (top 10)) (XN:=["row"]) (ju rfl ez (cy dE rfl cE iT (ax (bE 0) aL))) (fun _ _ _ _=>(mB (i:=0) (show (["start","row"]:List Str).Nodup by decide +kernel) rfl)) (fun _ _ _ _=>.none) (fun _ _ _ _=>(bB (bN ee (et (bE 1) (eM (bE 0)) fO) (et (bE 1) fO (eM (bE 0)))))))))))
theorem ma:bL ["rows","passings","row"] ["rows"] (aO (top 1)):=rh
theorem sT {f:Addr} {fd:aE} (F:nv K "passings_of" "passings_of" (top 1) f fd):eR P w K mg base fJ 1 f fd ["rows"] (di K gJ) :=
 uj F ma tO fun _ _ _ _ _ _ hr=>have nd:=ma.nd; (aN (oU (i:=1) nd rfl (dM aL))
 (aN (dJ br rfl (cA (bE 0)) (mB (i:=2) nd rfl) (aS (iD (mC cu yB yz iA so (bE 1) (ax (bE 2) aL)))))
 (aS (bC (bB (bE 1))))))
theorem lx:bL ["rows","numbers","passing"] ["rows"] (aO (top 11)):=rh
theorem qR {f:Addr} {fd:aE} (F:nv K "names_as_met" "names_as_met" (top 11) f fd) (cE:mg "len" = none) {ur:Addr} {uB:aE} (ix:qI P w K mg base fJ 1 ur uB "passings_of" ["rows"] (di K gJ)):eR P w K mg base fJ 2 f fd ["rows"] (di K fX) :=
 uj F lx qX fun _ _ _ _ _ _ hr=>have nd:=lx.nd; have hu:=hr.units; (aN (oU (i:=1) nd rfl AX)
 (aN (dJ br rfl (cA (bz ix.ok (hr.mono (by decide)) rfl ix.mg ix.kp ix.bi (ax (bE 0) aL))) (mB (i:=2) nd rfl) (aS (ff (eZ (qa hu) (fg hu (bE 2) a8 (fun _ _=>rfl)) (bE 1) (by with_unfolding_all rfl)) (aS (vT (bN ee (cy dE rfl cE iT (ax (bE 1) aL)) a8) (AV hu (bE 1) (fg hu (bE 2) a8 (fun _ _=>rfl))))) cX)))
 (aS (bC (bB (bE 1))))))
theorem uS:bL ["row","start"] ["row"] (aO (top 2)):=rh
theorem Ci {f:Addr} {fd:aE} (F:nv K "seated" "seated" (top 2) f fd) (qb:mg "min" = none):eR P w K mg base fJ 1 f fd ["row"] (di K fv) :=
 uj F uS vA fun _ _ _ _ _ _ hr=>have nd:=uS.nd; have hu:=hr.units; (aN (ff (ip (eT (bE 0))) (aS (bC (bB (dM aL)))) cX)
 (aN (oU (i:=1) nd rfl (mC cu yV PySem.F.type_list_index iA (BY hu) (bE 0) (ax (cy (Ct rfl hu) rfl qb JN (ax (bE 0) aL)) aL)))
 (aS (bC (bB (bN ee (et (bE 0) (eM (bE 1)) fO) (et (bE 0) fO (eM (bE 1)))))))))
theorem rT:bL ["rows"] ["rows"] (aO (top 3)):=rh
theorem sR {f:Addr} {fd:aE} (F:nv K "seated_rows" "seated_rows" (top 3) f fd) {EX:Addr} {E6:aE} (pE:qI P w K mg base fJ 1 EX E6 "seated" ["row"] (di K fv)):eR P w K mg base fJ 2 f fd ["rows"] (di K cI) :=
 uj F rT mV fun _ _ _ _ _ _ hr=>(aS (bC (bB (fP ["row"] (sc:=aO (top 3)) (XN:=["rows"]) (cA (bE 0)) (fun _ _ _ _=>(mB (i:=0) (show (["row"]:List Str).Nodup by decide +kernel) rfl)) (fun _ _ _ _=>.none) (fun _ _ _ _=>(bz pE.ok (hr.mono (by decide)) rfl pE.mg pE.kp pE.bi (ax (bE 0) aL)))))))
theorem rU:bL ["row","names"] ["row","names"] (aO (top 7)):=rh
theorem sS {f:Addr} {fd:aE} (F:nv K "renamed_row" "renamed_row" (top 7) f fd):eR P w K mg base fJ 1 f fd ["row","names"] (di K gH) :=
 uj F rU tN fun _ _ _ _ _ _ hr=>have hu:=hr.units; (aS (bC (bB (fP ["name","way","hand","names"] (sc:=aO (top 7)) (XN:=["row","names"]) (cA (bE 0)) (fun _ _ _ _=>(AU rfl (km (mB (i:=0) (show (["name","way","hand","names"]:List Str).Nodup by decide +kernel) rfl) (km (mB (i:=1) (show (["name","way","hand","names"]:List Str).Nodup by decide +kernel) rfl) (km (mB (i:=2) (show (["name","way","hand","names"]:List Str).Nodup by decide +kernel) rfl) xG))) (kz (kz (kz x4))))) (fun _ _ _ _=>.none) (fun _ _ _ _=>(oY (ax (fg hu (bE 3) (bE 0) (fun _ _=>rfl)) (ax (bE 1) (ax (bE 2) aL)))))))))
theorem qM:bL ["drawing","names"] ["drawing","names"] (aO (top 8)):=rh
theorem qQ {f:Addr} {fd:aE} (F:nv K "renamed_rows" "renamed_rows" (top 8) f fd) {uq:Addr} {uA:aE} (iw:qI P w K mg base fJ 1 uq uA "renamed_row" ["row","names"] (di K gH)):eR P w K mg base fJ 2 f fd ["drawing","names"] (di K fW) :=
 uj F qM qW fun _ _ _ _ _ _ hr=>(aS (bC (bB (fP ["row","names"] (sc:=aO (top 8)) (XN:=["drawing","names"]) (cA (bE 0)) (fun _ _ _ _=>(mB (i:=0) (show (["row","names"]:List Str).Nodup by decide +kernel) rfl)) (fun _ _ _ _=>.none) (fun _ _ _ _=>(bz iw.ok (hr.mono (by decide)) rfl iw.mg iw.kp iw.bi (ax (bE 0) (ax (bE 1) aL))))))))
theorem kj:bL ["rows","names"] ["rows"] (aO (top 12)):=rh
theorem qk {f:Addr} {fd:aE} (F:nv K "settling_from" "settling_from" (top 12) f fd) {sY:Addr} {tu:aE} (gW:qI P w K mg base fJ 2 sY tu "names_as_met" ["rows"] (di K fX)) {uo:Addr} {ux:aE} (iu:qI P w K mg base fJ 2 uo ux "seated_rows" ["rows"] (di K cI)) {sX:Addr} {tm:aE} (gU:qI P w K mg base fJ 2 sX tm "renamed_rows" ["drawing","names"] (di K fW)):eR P w K mg base fJ 3 f fd ["rows"] (di K fu) :=
 uj F kj qt fun _ _ _ _ _ _ hr=>have nd:=kj.nd; (aN (oU (i:=1) nd rfl (bz gW.ok (hr.mono (by decide)) rfl gW.mg gW.kp gW.bi (ax (bE 0) aL)))
 (aS (bC (bB (oY (ax (bz iu.ok (hr.mono (by decide)) rfl iu.mg iu.kp iu.bi (ax (bz gU.ok (hr.mono (by decide)) rfl gU.mg gU.kp gU.bi (ax (bE 0) (ax (bE 1) aL))) aL)) (ax (bE 1) aL)))))))
theorem qw:bL ["drawing","made"] ["drawing"] (aO (top 13)):=rh
theorem x5 {f:Addr} {fd:aE} {Pt:Addr} {ct:Addr} (hl:wO mg base ct Pt) (w4:fd.code=.ref ct) (F:nv K "settling" "settling" (top 13) f fd) (qb:mg "min" = none) {uv:Addr} {uC:aE} (iy:qI P w K mg base fJ 1 uv uC "one_of_each" ["lists"] (di K gK)) {wx:Addr} {wC:aE} (jb:qI P w K mg base fJ 1 wx wC "beginnings" ["row"] (di K ik)) {qS:Addr} {qU:aE} (fZ:qI P w K mg base fJ 3 qS qU "settling_from" ["rows"] (di K fu)):eR P w K mg base fJ 4 f fd ["drawing"] (kg (Tb Pt "settling.<locals>.<lambda>") K gr) :=
 OT F qw yw fun _ _ _ _ _ _ hc hT hr=>by
  have e:=w4.symm.trans hc; subst e; have nd:=qw.nd; exact(aN (AQ (oV ["rows"] (sc:=aO (top 13)) (XN:=["drawing","made"]) (i:=1) nd rfl rfl (cA (bz iy.ok (hr.mono (by decide)) rfl iy.mg iy.kp iy.bi (ax (bB (fP ["row"] (sc:=aO (top 13)) (XN:=["drawing","made"]) (cA (bE 0)) (fun _ _ _ _=>(mB (i:=0) (show (["row"]:List Str).Nodup by decide +kernel) rfl)) (fun _ _ _ _=>.none) (fun _ _ _ _=>(bz jb.ok (hr.mono (by decide)) rfl jb.mg jb.kp jb.bi (ax (bE 0) aL))))) aL))) (fun _ _ _ _=>(mB (i:=0) (show (["rows"]:List Str).Nodup by decide +kernel) rfl)) (fun _ _ _ _=>.none) (fun _ _ _ _=>(bz fZ.ok (hr.mono (by decide)) rfl fZ.mg fZ.kp fZ.bi (ax (bE 0) aL)))))
 (aS (bC (bB (D5 hT (wO.lam hl) (hr.mono (by decide)) rfl qb (bE 1))))))
theorem vJ:bL ["_law_found"] ["_law_found"] (aO (top 17)):=rh
theorem wg {f:Addr} {fd:aE} (F:nv K "_law_whole" "_law_whole" (top 17) f fd) (vU:mg "bool" = none) (zt:mg "int" = none) (bU:mg "isinstance" = none):eR P w K mg base fJ 1 f fd ["_law_found"] (di K cJ) :=
 uj F vJ pK fun _ _ _ _ _ _ hr=>(aS (bC (bB (GG (kQ "int" (by decide) rfl bU rfl zt JP (bE 0)) (AW (GD (kQ "bool" (by decide) rfl bU rfl vU Hw (bE 0))))))))
theorem gu:bL ["_law_found","_law_row","_law_passing"] ["_law_found"] (aO (top 18)):=rh
theorem kC {f:Addr} {fd:aE} (F:nv K "_law_rows_of_passings" "_law_rows_of_passings" (top 18) f fd) (qc:mg "all" = none) (bU:mg "isinstance" = none) (cE:mg "len" = none) (kS:mg "list" = none) (kq:mg "tuple" = none) {mM:Addr} {mR:aE} (dO:qI P w K mg base fJ 1 mM mR "_law_whole" ["_law_found"] (di K cJ)):eR P w K mg base fJ 2 f fd ["_law_found"] (di K c6) :=
 uj F gu kE fun _ _ _ _ _ _ hr=>have nd:=gu.nd; have hu:=hr.units; (aN (ff (ip (eT (kQ "list" (by decide) rfl bU rfl kS wJ (bE 0)))) (aS (bC (bB jv))) cX)
 (aN (dJ br rfl (cA (bE 0)) (mB (i:=1) nd rfl) (aN (ff (ip (eT (kQ "list" (by decide) rfl bU rfl kS wJ (bE 1)))) (aS (bC (bB jv))) cX)
 (aS (dJ br rfl (cA (bE 1)) (mB (i:=2) nd rfl) (aN (ff (FN.pt (p7 (ip (eT (kQ "tuple" (by decide) rfl bU rfl kq yp (bE 2)))) (oT (eZ (D8 hu) (cy dE rfl cE iT (ax (bE 2) aL)) a8 (jw _))))) (aS (bC (bB jv))) cX)
 (aS (ff (ip (eT (cy (vm rfl) rfl qc Fo (ax (fP ["_law_number"] (sc:=aO (top 18)) (XN:=["_law_found","_law_row","_law_passing"]) (cA (bE 2)) (fun _ _ _ _=>(mB (i:=0) (show (["_law_number"]:List Str).Nodup by decide +kernel) rfl)) (fun _ _ _ _=>.none) (fun _ _ _ _=>(bz dO.ok (hr.mono (by decide)) rfl dO.mg dO.kp dO.bi (ax (bE 0) aL)))) aL)))) (aS (bC (bB jv))) cX)))))))
 (aS (bC (bB jv)))))
theorem qx:bL ["_law_row","_law_best","_law_k"] ["_law_row"] (aO (top 19)):=rh
theorem x6 {f:Addr} {fd:aE} (F:nv K "_law_seat" "_law_seat" (top 19) f fd) (cE:mg "len" = none) (ez:mg "range" = none):eR P w K mg base fJ 1 f fd ["_law_row"] (di K jL) :=
 uj F qx yx fun _ _ _ _ _ _ hr=>have nd:=qx.nd; have hu:=hr.units; have Jn:=hr.Du; (aN (oU (i:=1) nd rfl a8)
 (aN (dJ br rfl (ju rfl ez (cy dE rfl cE iT (ax (bE 0) aL))) (mB (i:=2) nd rfl) (aS (ff (eZ (D9 Jn) (et (fg hu (bE 0) (bE 2) (fun _ _=>rfl)) fO (eM a8)) (et (fg hu (bE 0) (bE 1) (fun _ _=>rfl)) fO (eM a8)) (jw _)) (aS (oU (i:=1) nd rfl (bE 2))) cX)))
 (aS (bC (bB (bN ee (et (bE 0) (eM (bE 1)) fO) (et (bE 0) fO (eM (bE 1)))))))))
theorem vK:bL ["_law_rows"] ["_law_rows"] (aO (top 20)):=rh
theorem wj {f:Addr} {fd:aE} (F:nv K "_law_seats" "_law_seats" (top 20) f fd) {zP:Addr} {zV:aE} (k9:qI P w K mg base fJ 1 zP zV "_law_seat" ["_law_row"] (di K jL)):eR P w K mg base fJ 2 f fd ["_law_rows"] (di K fw) :=
 uj F vK wM fun _ _ _ _ _ _ hr=>(aS (bC (bB (fP ["_law_row"] (sc:=aO (top 20)) (XN:=["_law_rows"]) (cA (bE 0)) (fun _ _ _ _=>(mB (i:=0) (show (["_law_row"]:List Str).Nodup by decide +kernel) rfl)) (fun _ _ _ _=>.none) (fun _ _ _ _=>(bz k9.ok (hr.mono (by decide)) rfl k9.mg k9.kp k9.bi (ax (bE 0) aL)))))))
theorem nM:bL ["_law_rows","_law_names_here","_law_made","_law_row"] ["_law_rows","_law_names_here"] (aO (top 24)):=rh
theorem uk {f:Addr} {fd:aE} (F:nv K "_law_called" "_law_called" (top 24) f fd):eR P w K mg base fJ 1 f fd ["_law_rows","_law_names_here"] (di K eS) :=
 uj F nM uH fun _ _ _ _ _ _ hr=>have nd:=nM.nd; have hu:=hr.units; (aN (oU (i:=2) nd rfl (dM aL))
 (aN (dJ br rfl (cA (bE 0)) (mB (i:=3) nd rfl) (aS (iD (mC cu lI lH iA nY (bE 2) (ax (bB (fP ["_law_passing","_law_names_here"] (sc:=aO (top 24)) (XN:=["_law_rows","_law_names_here","_law_made","_law_row"]) (cA (bE 3)) (fun _ _ _ _=>(mB (i:=0) (show (["_law_passing","_law_names_here"]:List Str).Nodup by decide +kernel) rfl)) (fun _ _ _ _=>.none) (fun _ _ _ _=>(oY (ax (fg hu (bE 1) (fg hu (bE 0) a8 (fun _ _=>rfl)) (fun _ _=>rfl)) (ax (fg hu (bE 0) a8 (fun _ _=>rfl)) (ax (fg hu (bE 0) a8 (fun _ _=>rfl)) aL))))))) aL)))))
 (aS (bC (bB (bE 2))))))
theorem zi:bL ["drawing"] ["drawing"] (aO (top 14)):=rh
theorem zN {f:Addr} {fd:aE} {Pt:Addr} (F:nv K "settled" "settled" (top 14) f fd) {n8:Addr} {oi:aE} (eF:qI P w K mg base fJ 4 n8 oi "settling" ["drawing"] (kg (Tb Pt "settling.<locals>.<lambda>") K gr)):eR P w K mg base fJ 5 f fd ["drawing"] (kg (Tb Pt "settling.<locals>.<lambda>") K kL) :=
 OT F zi Ac fun _ _ _ _ _ _ _ hT hr=>have hu:=hr.units; (aS (bC (bB (fg hu (p8 hT eF.ok (hr.mono (by decide)) rfl eF.mg eF.kp eF.bi (ax (bE 0) aL)) a8 (fun _ _=>rfl)))))
theorem me:bL ["_law_rows","_law_found","_law_row","_law_longer","_law_one","_law_at"] ["_law_rows"] (aO (top 25)):=rh
theorem sV {f:Addr} {fd:aE} (F:nv K "_law_choices" "_law_choices" (top 25) f fd) (cE:mg "len" = none) (zr:mg "max" = none) (ez:mg "range" = none):eR P w K mg base fJ 1 f fd ["_law_rows"] (di K gL) :=
 uj F me tQ fun _ _ _ _ _ _ hr=>have nd:=me.nd; have hu:=hr.units; (aN (oU (i:=1) nd rfl (bB (dM (ax (dM aL) aL))))
 (aN (dJ br rfl (cA (bE 0)) (mB (i:=2) nd rfl) (aN (oU (i:=3) nd rfl (dM aL))
 (aN (dJ br rfl (cA (bE 1)) (mB (i:=4) nd rfl) (aS (dJ br rfl (ju rfl ez (cy (Cu rfl hu) rfl zr JO (ax a8 (ax (cy dE rfl cE iT (ax (bE 2) aL)) aL)))) (mB (i:=5) nd rfl) (aS (iD (mC cu lI lH iA nY (bE 3) (ax (bB (bN ee (bE 4) (dM (ax (bN ee (et (bE 2) (eM (bE 5)) fO) (et (bE 2) fO (eM (bE 5)))) aL)))) aL)))))))
 (aS (oU (i:=1) nd rfl (bB (bE 3)))))))
 (aS (bC (bB (bE 1))))))
theorem rV:bL ["_law_rows","_law_names_here","_law_row","_law_passing"] ["_law_rows"] (aO (top 26)):=rh
theorem zO {f:Addr} {fd:aE} (F:nv K "_law_met" "_law_met" (top 26) f fd) (cE:mg "len" = none):eR P w K mg base fJ 1 f fd ["_law_rows"] (di K kM) :=
 uj F rV Ae fun _ _ _ _ _ _ hr=>have nd:=rV.nd; have hu:=hr.units; (aN (oU (i:=1) nd rfl AX)
 (aN (dJ br rfl (cA (bE 0)) (mB (i:=2) nd rfl) (aS (dJ br rfl (cA (bE 2)) (mB (i:=3) nd rfl) (aS (ff (eZ (qa hu) (fg hu (bE 3) a8 (fun _ _=>rfl)) (bE 1) (by with_unfolding_all rfl)) (aS (vT (bN ee (cy dE rfl cE iT (ax (bE 1) aL)) a8) (AV hu (bE 1) (fg hu (bE 3) a8 (fun _ _=>rfl))))) cX)))))
 (aS (bC (bB (bE 1))))))
theorem DI:bL ["_law_script","_law_rows","_law_handed","_law_found","_law_made","_law_names_here","_law_met_here","_law_begun","_law_by_meeting"] ["_law_script"] (aO (top 28)):=rh
theorem JG {f:Addr} {fd:aE} {Pt:Addr} (F:nv K "law" "law" (top 28) f fd) (qc:mg "all" = none) (no_dict:mg "dict" = none) (bU:mg "isinstance" = none) (cE:mg "len" = none) (kS:mg "list" = none) (jf:mg "sorted" = none) (kq:mg "tuple" = none) {yb:Addr} {yk:aE} (jT:qI P w K mg base fJ 4 yb yk "_law_drawn" ["_law_script"] (di K i8)) {n8:Addr} {oi:aE} (eF:qI P w K mg base fJ 4 n8 oi "settling" ["drawing"] (kg (Tb Pt "settling.<locals>.<lambda>") K gr)) {kZ:Addr} {k7:aE} (dj:qI P w K mg base fJ 2 kZ k7 "_law_rows_of_passings" ["_law_found"] (di K c6)) {mO:Addr} {mS:aE} (dP:qI P w K mg base fJ 1 mO mS "_law_names" ["_law_rows"] (di K cV)) {mM:Addr} {mR:aE} (dO:qI P w K mg base fJ 1 mM mR "_law_whole" ["_law_found"] (di K cJ)) {ya:Addr} {yj:aE} (eD:qI P w K mg base fJ 2 ya yj "_law_seats" ["_law_rows"] (di K fw)) {wu:Addr} {wB:aE} (dQ:qI P w K mg base fJ 1 wu wB "_law_called" ["_law_rows","_law_names_here"] (di K eS)) {Cj:Addr} {Cp:aE} (nk:qI P w K mg base fJ 5 Cj Cp "settled" ["drawing"] (kg (Tb Pt "settling.<locals>.<lambda>") K kL)) {uw:Addr} {uD:aE} (iz:qI P w K mg base fJ 1 uw uD "_law_choices" ["_law_rows"] (di K gL)) {Ck:Addr} {Cr:aE} (nq:qI P w K mg base fJ 1 Ck Cr "_law_met" ["_law_rows"] (di K kM)):eR P w K mg base fJ 6 f fd ["_law_script"] (kg (Tb Pt "settling.<locals>.<lambda>") K K2.uQ) :=
 OT F DI JW fun _ _ _ _ _ _ _ hT hr=>have nd:=DI.nd; have hu:=hr.units; (aN (oU (i:=1) nd rfl (bz jT.ok (hr.mono (by decide)) rfl jT.mg jT.kp jT.bi (ax (bE 0) aL)))
 (aN (AQ (oV ["_law_row"] (sc:=aO (top 28)) (XN:=["_law_script","_law_rows","_law_handed","_law_found","_law_made","_law_names_here","_law_met_here","_law_begun","_law_by_meeting"]) (i:=2) nd rfl rfl (cA (bE 1)) (fun _ _ _ _=>(mB (i:=0) (show (["_law_row"]:List Str).Nodup by decide +kernel) rfl)) (fun _ _ _ _=>.none) (fun _ _ _ _=>(bB (zk z0 rfl kS wJ (ax (bE 0) aL))))))
 (aN (oU (i:=3) nd rfl (p8 hT eF.ok (hr.mono (by decide)) rfl eF.mg eF.kp eF.bi (ax (bE 2) aL)))
 (aN (ff (FN.pt (p7 (ip (eT (kQ "tuple" (by decide) rfl bU rfl kq yp (bE 3)))) (p7 (eZ (oZ hu) (cy dE rfl cE iT (ax (bE 3) aL)) a8 (jw _)) (oT (eZ (oZ hu) (bE 2) (bE 1) (jw _)))))) (aS (bC (bB jv))) cX)
 (aN (vT (bE 3) (AU rfl (km (mB (i:=4) nd rfl) (km (mB (i:=5) nd rfl) xG)) (kz (kz x4))))
 (aN (ff (FN.pt (p7 (ip (eT (bz dj.ok (hr.mono (by decide)) rfl dj.mg dj.kp dj.bi (ax (bE 4) aL)))) (oT (ip (eT (kQ "dict" (by decide) rfl bU rfl no_dict Hv (bE 5))))))) (aS (bC (bB jv))) cX)
 (aN (ff (FN.pt (p7 (eZ (oZ hu) (cy (tG rfl hu) rfl jf vo (ax (bE 5) aL)) (bz dP.ok (hr.mono (by decide)) rfl dP.mg dP.kp dP.bi (ax (bE 1) aL)) (jw _)) (oT (ip (eT (cy (vm rfl) rfl qc Fo (ax (fP ["_law_name_here"] (sc:=aO (top 28)) (XN:=["_law_script","_law_rows","_law_handed","_law_found","_law_made","_law_names_here","_law_met_here","_law_begun","_law_by_meeting"]) (D1 (bE 5)) (fun _ _ _ _=>(mB (i:=0) (show (["_law_name_here"]:List Str).Nodup by decide +kernel) rfl)) (fun _ _ _ _=>.none) (fun _ _ _ _=>(bB (bz dO.ok (hr.mono (by decide)) rfl dO.mg dO.kp dO.bi (ax (bE 0) aL))))) aL))))))) (aS (bC (bB jv))) cX)
 (aN (ff (FN.pt (p7 (eZ (oZ hu) (bE 4) (bz eD.ok (hr.mono (by decide)) rfl eD.mg eD.kp eD.bi (ax (bz dQ.ok (hr.mono (by decide)) rfl dQ.mg dQ.kp dQ.bi (ax (bE 1) (ax (bE 5) aL))) aL)) (jw _)) (oT (eZ (oZ hu) (p8 hT nk.ok (hr.mono (by decide)) rfl nk.mg nk.kp nk.bi (ax (bE 2) aL)) (bE 4) (jw _))))) (aS (bC (bB jv))) cX)
 (aN (oU (i:=6) nd rfl jv)
 (aN (dJ br rfl (cA (bz iz.ok (hr.mono (by decide)) rfl iz.mg iz.kp iz.bi (ax (bE 1) aL))) (mB (i:=7) nd rfl) (aN (oU (i:=8) nd rfl (bz nq.ok (hr.mono (by decide)) rfl nq.mg nq.kp nq.bi (ax (bE 7) aL)))
 (aN (oU (i:=6) nd rfl (IQ (bE 6) (AW (GF (GQ hu) (bE 8) (bE 5) (jw _)))))
 (aS (ff (eZ (GP hu) (bz eD.ok (hr.mono (by decide)) rfl eD.mg eD.kp eD.bi (ax (bz dQ.ok (hr.mono (by decide)) rfl dQ.mg dQ.kp dQ.bi (ax (bE 7) (ax (bE 8) aL))) aL)) (bE 4) (jw _)) (aS (bC (bB jv))) cX)))))
 (aS (bC (bB (bE 6))))))))))))))
end
theorem all_mk {cL Pt:Addr} {l:PySem.W.OpenLaw} {w:World} {K:ag} {h:Heap} {mg:Str->Option Value} {fa:Addr} (X:K.In h) (G:h.Ns bp mg) (RS:mg "law" = some (.ref fa))
  {f0:Addr} {d0:aE} (F0:At K "_law_cell" (top 16) f0 d0)
  {f1:Addr} {d1:aE} (F1:At K "_law_names" (top 21) f1 d1)
  {f2:Addr} {d2:aE} (F2:At K "_law_name" (top 22) f2 d2)
  {f3:Addr} {d3:aE} (F3:At K "_law_cross" (top 23) f3 d3)
  {f4:Addr} {d4:aE} (F4:At K "_law_drawn" (top 27) f4 d4)
  {f5:Addr} {d5:aE} (F5:At K "one_of_each" (top 5) f5 d5)
  {f6:Addr} {d6:aE} (F6:At K "beginnings" (top 10) f6 d6)
  {f7:Addr} {d7:aE} (F7:At K "passings_of" (top 1) f7 d7)
  {f8:Addr} {d8:aE} (F8:At K "names_as_met" (top 11) f8 d8)
  {f9:Addr} {d9:aE} (F9:At K "seated" (top 2) f9 d9)
  {SE:Addr} {S0:aE} (MT:At K "seated_rows" (top 3) SE S0)
  {SD:Addr} {SY:aE} (MS:At K "renamed_row" (top 7) SD SY)
  {SA:Addr} {SX:aE} (MR:At K "renamed_rows" (top 8) SA SX)
  {Sy:Addr} {SW:aE} (MQ:At K "settling_from" (top 12) Sy SW)
  {Sw:Addr} {Qb:aE} (Kk:At K "settling" (top 13) Sw Qb)
  {Sv:Addr} {SV:aE} (Kj:At K "_law_whole" (top 17) Sv SV)
  {Su:Addr} {SU:aE} (MP:At K "_law_rows_of_passings" (top 18) Su SU)
  {Ss:Addr} {SS:aE} (MO:At K "_law_seat" (top 19) Ss SS)
  {Sr:Addr} {SR:aE} (MN:At K "_law_seats" (top 20) Sr SR)
  {Sq:Addr} {SQ:aE} (MM:At K "_law_called" (top 24) Sq SQ)
  {So:Addr} {SO:aE} (ML:At K "settled" (top 14) So SO)
  {Sm:Addr} {SM:aE} (MK:At K "_law_choices" (top 25) Sm SM)
  {Sl:Addr} {SK:aE} (MJ:At K "_law_met" (top 26) Sl SK)
  {Sk:Addr} {SJ:aE} (Qi:At K "law" (top 28) Sk SJ)
  (Ko:autoParam (cR K bp "len" = some none) Aq._auto_1) (Dq:autoParam (cR K bp "sorted" = some none) Aq._auto_1) (Gb:autoParam (cR K bp "range" = some none) Aq._auto_1) (Kl:autoParam (cR K bp "min" = some none) Aq._auto_1) (Ip:autoParam (cR K bp "bool" = some none) Aq._auto_1) (Kq:autoParam (cR K bp "int" = some none) Aq._auto_1) (vE:autoParam (cR K bp "isinstance" = some none) Aq._auto_1) (Kr:autoParam (cR K bp "all" = some none) Aq._auto_1) (Im:autoParam (cR K bp "list" = some none) Aq._auto_1) (Ga:autoParam (cR K bp "tuple" = some none) Aq._auto_1) (Km:autoParam (cR K bp "max" = some none) Aq._auto_1) (Io:autoParam (cR K bp "dict" = some none) Aq._auto_1) (RW:autoParam (Qb.code=.ref cL) Ar._auto_1) :
  ∃ fd:aE,(∀ (s:ak) (v:Value),BindsTo s fd ⟨[v],[]⟩ [("_law_script",v)])/\∀ base:Heap,K.In base->base.Ns bp mg->wO mg base cL Pt->eR l.prog w K mg base fJ 6 fa fd ["_law_script"] (kg (Tb Pt "settling.<locals>.<lambda>") K K2.uQ):=by
 have e:=RS.symm.trans (PySem.W.mg_of X G Qi.a);cases e;have b0:=F0.F.binds (ps:=["_law_script","_law_k"]) fun _ _ _ _ _ _ us hl=>by obtain⟨_,_,rfl⟩:=B3 hl; rfl
 have b1:=F1.F.binds (ps:=["_law_rows"]) fun _ _ _ _ _ _ us hl=>by obtain⟨_,rfl⟩:=lM hl; rfl
 have b2:=F2.F.binds (ps:=["_law_rows","_law_cell_here"]) fun _ _ _ _ _ _ us hl=>by obtain⟨_,_,rfl⟩:=B3 hl; rfl
 have b3:=F3.F.binds (ps:=["_law_rows","_law_cell_here"]) fun _ _ _ _ _ _ us hl=>by obtain⟨_,_,rfl⟩:=B3 hl; rfl
 have b4:=F4.F.binds (ps:=["_law_script"]) fun _ _ _ _ _ _ us hl=>by obtain⟨_,rfl⟩:=lM hl; rfl
 have b5:=F5.F.binds (ps:=["lists"]) fun _ _ _ _ _ _ us hl=>by obtain⟨_,rfl⟩:=lM hl; rfl
 have b6:=F6.F.binds (ps:=["row"]) fun _ _ _ _ _ _ us hl=>by obtain⟨_,rfl⟩:=lM hl; rfl
 have b7:=F7.F.binds (ps:=["rows"]) fun _ _ _ _ _ _ us hl=>by obtain⟨_,rfl⟩:=lM hl; rfl
 have b8:=F8.F.binds (ps:=["rows"]) fun _ _ _ _ _ _ us hl=>by obtain⟨_,rfl⟩:=lM hl; rfl
 have b9:=F9.F.binds (ps:=["row"]) fun _ _ _ _ _ _ us hl=>by obtain⟨_,rfl⟩:=lM hl; rfl
 have Td:=MT.F.binds (ps:=["rows"]) fun _ _ _ _ _ _ us hl=>by obtain⟨_,rfl⟩:=lM hl; rfl
 have Tc:=MS.F.binds (ps:=["row","names"]) fun _ _ _ _ _ _ us hl=>by obtain⟨_,_,rfl⟩:=B3 hl; rfl
 have Ta:=MR.F.binds (ps:=["drawing","names"]) fun _ _ _ _ _ _ us hl=>by obtain⟨_,_,rfl⟩:=B3 hl; rfl
 have S9:=MQ.F.binds (ps:=["rows"]) fun _ _ _ _ _ _ us hl=>by obtain⟨_,rfl⟩:=lM hl; rfl
 have Qd:=Kk.F.binds (ps:=["drawing"]) fun _ _ _ _ _ _ us hl=>by obtain⟨_,rfl⟩:=lM hl; rfl
 have Qc:=Kj.F.binds (ps:=["_law_found"]) fun _ _ _ _ _ _ us hl=>by obtain⟨_,rfl⟩:=lM hl; rfl
 have S8:=MP.F.binds (ps:=["_law_found"]) fun _ _ _ _ _ _ us hl=>by obtain⟨_,rfl⟩:=lM hl; rfl
 have S7:=MO.F.binds (ps:=["_law_row"]) fun _ _ _ _ _ _ us hl=>by obtain⟨_,rfl⟩:=lM hl; rfl
 have S6:=MN.F.binds (ps:=["_law_rows"]) fun _ _ _ _ _ _ us hl=>by obtain⟨_,rfl⟩:=lM hl; rfl
 have S5:=MM.F.binds (ps:=["_law_rows","_law_names_here"]) fun _ _ _ _ _ _ us hl=>by obtain⟨_,_,rfl⟩:=B3 hl; rfl
 have S4:=ML.F.binds (ps:=["drawing"]) fun _ _ _ _ _ _ us hl=>by obtain⟨_,rfl⟩:=lM hl; rfl
 have S3:=MK.F.binds (ps:=["_law_rows"]) fun _ _ _ _ _ _ us hl=>by obtain⟨_,rfl⟩:=lM hl; rfl
 have S2:=MJ.F.binds (ps:=["_law_rows"]) fun _ _ _ _ _ _ us hl=>by obtain⟨_,rfl⟩:=lM hl; rfl
 have cE:=bP X G Ko;have jf:=bP X G Dq;have ez:=bP X G Gb;have qb:=bP X G Kl;have vU:=bP X G Ip;have zt:=bP X G Kq;have bU:=bP X G vE;have qc:=bP X G Kr;have kS:=bP X G Im;have kq:=bP X G Ga;have zr:=bP X G Km;have no_dict:=bP X G Io;obtain⟨Fa,Fl⟩:=Qi;obtain⟨oc,od,kV,doc,pm,an,i0,ct,CM,rfl,lk,w4⟩:=Fl.ex;refine⟨gY "law" "law" (jQ (top 28)) (fA (top 28)) (aO (top 28)) .none kV doc pm an i0 ct,fun s v=>.of_eq rfl,fun base _ _ hl=>?_⟩;have Q7:=x9 (P:=l.prog) (w:=w) (mg:=mg) (base:=base) F0.F cE;have Pu:=wm (P:=l.prog) (w:=w) (mg:=mg) (base:=base) F1.F jf;have Pr:=x8 (P:=l.prog) (w:=w) (mg:=mg) (base:=base) F2.F ⟨Pu,F1.mg X G,F1.F.kp,b1⟩;have KQ:=wt (P:=l.prog) (w:=w) (mg:=mg) (base:=base) F3.F cE ⟨Pr,F2.mg X G,F2.F.kp,b2⟩;have Q6:=wo (P:=l.prog) (w:=w) (mg:=mg) (base:=base) F4.F ez ⟨Q7,F0.mg X G,F0.F.kp,b0⟩ ⟨KQ,F3.mg X G,F3.F.kp,b3⟩;have Q5:=sU (P:=l.prog) (w:=w) (mg:=mg) (base:=base) F5.F;have Q4:=um (P:=l.prog) (w:=w) (mg:=mg) (base:=base) F6.F cE ez;have Q3:=sT (P:=l.prog) (w:=w) (mg:=mg) (base:=base) F7.F;have Q0:=qR (P:=l.prog) (w:=w) (mg:=mg) (base:=base) F8.F cE ⟨Q3,F7.mg X G,F7.F.kp,b7⟩;have QZ:=Ci (P:=l.prog) (w:=w) (mg:=mg) (base:=base) F9.F qb;have NG:=sR (P:=l.prog) (w:=w) (mg:=mg) (base:=base) MT.F ⟨QZ,F9.mg X G,F9.F.kp,b9⟩;have NF:=sS (P:=l.prog) (w:=w) (mg:=mg) (base:=base) MS.F;have ND:=qQ (P:=l.prog) (w:=w) (mg:=mg) (base:=base) MR.F ⟨NF,MS.mg X G,MS.F.kp,Tc⟩;have NC:=qk (P:=l.prog) (w:=w) (mg:=mg) (base:=base) MQ.F ⟨Q0,F8.mg X G,F8.F.kp,b8⟩ ⟨NG,MT.mg X G,MT.F.kp,Td⟩ ⟨ND,MR.mg X G,MR.F.kp,Ta⟩;have KS:=x5 (P:=l.prog) (w:=w) (mg:=mg) (base:=base) hl RW Kk.F qb ⟨Q5,F5.mg X G,F5.F.kp,b5⟩ ⟨Q4,F6.mg X G,F6.F.kp,b6⟩ ⟨NC,MQ.mg X G,MQ.F.kp,S9⟩;have KR:=wg (P:=l.prog) (w:=w) (mg:=mg) (base:=base) Kj.F vU zt bU;have NB:=kC (P:=l.prog) (w:=w) (mg:=mg) (base:=base) MP.F qc bU cE kS kq ⟨KR,Kj.mg X G,Kj.F.kp,Qc⟩;have NA:=x6 (P:=l.prog) (w:=w) (mg:=mg) (base:=base) MO.F cE ez;have Nz:=wj (P:=l.prog) (w:=w) (mg:=mg) (base:=base) MN.F ⟨NA,MO.mg X G,MO.F.kp,S7⟩;have Ny:=uk (P:=l.prog) (w:=w) (mg:=mg) (base:=base) MM.F;have Nx:=zN (P:=l.prog) (w:=w) (mg:=mg) (base:=base) ML.F ⟨KS,Kk.mg X G,Kk.F.kp,Qd⟩;have Nw:=sV (P:=l.prog) (w:=w) (mg:=mg) (base:=base) MK.F cE zr ez;have Nv:=zO (P:=l.prog) (w:=w) (mg:=mg) (base:=base) MJ.F cE;exact JG Fl qc no_dict bU cE kS jf kq ⟨Q6,F4.mg X G,F4.F.kp,b4⟩ ⟨KS,Kk.mg X G,Kk.F.kp,Qd⟩ ⟨NB,MP.mg X G,MP.F.kp,S8⟩ ⟨Pu,F1.mg X G,F1.F.kp,b1⟩ ⟨KR,Kj.mg X G,Kj.F.kp,Qc⟩ ⟨Nz,MN.mg X G,MN.F.kp,S6⟩ ⟨Ny,MM.mg X G,MM.F.kp,S5⟩ ⟨Nx,ML.mg X G,ML.F.kp,S4⟩ ⟨Nw,MK.mg X G,MK.F.kp,S3⟩ ⟨Nv,MJ.mg X G,MJ.F.kp,S2⟩
section
open PySem.W PySem.Calls
noncomputable def hC (n:Str) (t:Nat) (l:List Value):Obj:=⟨.type "code",none,.fields (.str n t :: .str n (t+1) :: .str "/claim/cut.py" (t+2) :: l).toArray,#[]⟩
noncomputable def hI(n:Int):Value:=.int n 0
noncomputable def hR(n:Nat):Value:=.ref n
noncomputable def hN:Value:=.none
noncomputable def hT:Value:=.bool true
noncomputable def hS (n:Nat):Value:=.str "/claim/cut.py" n
noncomputable def hD(n:Str)(t:Nat)(l a:Int)(r:Nat)(x y z:Value)(u:Nat):Obj:=hC n t [hI l,hI a,hI 0,hI 0,hI 3,hR r,hT,hI 181,hR (r+1),hN,x,y,z,hI (u - 1),hI l,hS u]
noncomputable abbrev hF (i:Nat) (n:Str) (m c:Value):Obj:=⟨.type "function",none,.func (gY n n (jQ (top i)) (fA (top i)) (aO (top i)) .none .none .none m none c .none),#[]⟩
noncomputable abbrev hE(P:Params)(s:Str)(t:Nat)(v:Value):kd:=⟨PyData.keyHash P s,.str s t,v⟩
noncomputable def hQ:bf:=PySem.W.view PySem.Challenge.pw_knotwise_k72_settling_is_the_least_choic [1,2,3,5,7,8,10,11,12,13,14,16,17,18,19,20,21,22,23,24,25,26,27,28]
noncomputable def hK (P:Params):ag:=(nat_lit 3,⟨(.type "dict"),none,(.dict #[hE P "__name__" 165 (.str "law_knotwise_k72_settling_is_the_least_choic" 272),hE P "__doc__" 166 .none,hE P "__package__" 167 .none,hE P "__loader__" 168 (.builtin "__main__.__loader__#opaque"),hE P "__spec__" 169 .none,hE P "__annotations__" 170 (.ref 6),hE P "__builtins__" 171 (.ref 4),hE P "__file__" 173 (.str "/claim/cut.py" 172),hE P "__cached__" 174 .none,hE P "passings_of" 197 (.ref 21),hE P "seated" 205 (.ref 28),hE P "seated_rows" 211 (.ref 33),hE P "one_of_each" 219 (.ref 38),hE P "renamed_row" 227 (.ref 43),hE P "renamed_rows" 233 (.ref 48),hE P "beginnings" 241 (.ref 53),hE P "names_as_met" 250 (.ref 60),hE P "settling_from" 258 (.ref 67),hE P "settling" 264 (.ref 72),hE P "settled" 271 (.ref 79),hE P "_law_cell" 281 (.ref 86),hE P "_law_whole" 288 (.ref 93),hE P "_law_rows_of_passings" 294 (.ref 98),hE P "_law_seat" 303 (.ref 105),hE P "_law_seats" 309 (.ref 110),hE P "_law_names" 319 (.ref 117),hE P "_law_name" 328 (.ref 124),hE P "_law_cross" 340 (.ref 131),hE P "_law_called" 346 (.ref 136),hE P "_law_choices" 358 (.ref 143),hE P "_law_met" 368 (.ref 150),hE P "_law_drawn" 374 (.ref 155),hE P "law" 380 (.ref 160)] 33),#[]⟩) ::
(nat_lit 20,hD "passings_of" 189 2 1 15 (hR 17) (hR 18) (hR 19) 196) ::
(nat_lit 21,hF 1 "passings_of" (.str "knotwise.drawings" 187) (.ref 20)) ::
(nat_lit 27,hD "seated" 198 7 1 22 (hR 24) (hR 25) (hR 26) 204) ::
(nat_lit 28,hF 2 "seated" (.str "knotwise.drawings" 187) (.ref 27)) ::
(nat_lit 32,hD "seated_rows" 206 12 1 29 hN hN (hR 31) 210) ::
(nat_lit 33,hF 3 "seated_rows" (.str "knotwise.drawings" 187) (.ref 32)) ::
(nat_lit 37,hD "one_of_each" 214 15 1 34 hN hN (hR 36) 218) ::
(nat_lit 38,hF 5 "one_of_each" (.str "knotwise.groups" 212) (.ref 37)) ::
(nat_lit 42,hD "renamed_row" 222 24 2 39 hN hN (hR 41) 226) ::
(nat_lit 43,hF 7 "renamed_row" (.str "knotwise.makings" 220) (.ref 42)) ::
(nat_lit 47,hD "renamed_rows" 228 26 2 44 hN hN (hR 46) 232) ::
(nat_lit 48,hF 8 "renamed_rows" (.str "knotwise.makings" 220) (.ref 47)) ::
(nat_lit 52,hD "beginnings" 236 29 1 49 hN hN (hR 51) 240) ::
(nat_lit 53,hF 10 "beginnings" (.str "knotwise.settled" 234) (.ref 52)) ::
(nat_lit 59,hD "names_as_met" 242 33 1 54 (hR 56) (hR 57) (hR 58) 249) ::
(nat_lit 60,hF 11 "names_as_met" (.str "knotwise.settled" 234) (.ref 59)) ::
(nat_lit 66,hD "settling_from" 251 39 1 61 (hR 63) (hR 64) (hR 65) 257) ::
(nat_lit 67,hF 12 "settling_from" (.str "knotwise.settled" 234) (.ref 66)) ::
(nat_lit 71,hD "settling" 259 42 1 68 hN hN (hR 70) 263) ::
(nat_lit 72,hF 13 "settling" (.str "knotwise.settled" 234) (.ref 71)) ::
(nat_lit 78,hD "settled" 265 45 1 73 (hR 75) (hR 76) (hR 77) 270) ::
(nat_lit 79,hF 14 "settled" (.str "knotwise.settled" 234) (.ref 78)) ::
(nat_lit 85,hD "_law_cell" 274 48 2 80 (hR 82) (hR 83) (hR 84) 280) ::
(nat_lit 86,hF 16 "_law_cell" (.str "law_knotwise_k72_settling_is_the_least_choic" 272) (.ref 85)) ::
(nat_lit 92,hD "_law_whole" 282 52 1 87 (hR 89) (hR 90) (hR 91) 287) ::
(nat_lit 93,hF 17 "_law_whole" (.str "law_knotwise_k72_settling_is_the_least_choic" 272) (.ref 92)) ::
(nat_lit 97,hD "_law_rows_of_passings" 289 54 1 94 hN hN (hR 96) 293) ::
(nat_lit 98,hF 18 "_law_rows_of_passings" (.str "law_knotwise_k72_settling_is_the_least_choic" 272) (.ref 97)) ::
(nat_lit 104,hD "_law_seat" 295 66 1 99 (hR 101) (hR 102) (hR 103) 302) ::
(nat_lit 105,hF 19 "_law_seat" (.str "law_knotwise_k72_settling_is_the_least_choic" 272) (.ref 104)) ::
(nat_lit 109,hD "_law_seats" 304 72 1 106 hN hN (hR 108) 308) ::
(nat_lit 110,hF 20 "_law_seats" (.str "law_knotwise_k72_settling_is_the_least_choic" 272) (.ref 109)) ::
(nat_lit 116,hD "_law_names" 310 74 1 111 (hR 113) (hR 114) (hR 115) 318) ::
(nat_lit 117,hF 21 "_law_names" (.str "law_knotwise_k72_settling_is_the_least_choic" 272) (.ref 116)) ::
(nat_lit 123,hD "_law_name" 320 81 2 118 (hR 120) (hR 121) (hR 122) 327) ::
(nat_lit 124,hF 22 "_law_name" (.str "law_knotwise_k72_settling_is_the_least_choic" 272) (.ref 123)) ::
(nat_lit 130,hD "_law_cross" 329 86 2 125 (hR 127) (hR 128) (hR 129) 339) ::
(nat_lit 131,hF 23 "_law_cross" (.str "law_knotwise_k72_settling_is_the_least_choic" 272) (.ref 130)) ::
(nat_lit 135,hD "_law_called" 341 93 2 132 hN hN (hR 134) 345) ::
(nat_lit 136,hF 24 "_law_called" (.str "law_knotwise_k72_settling_is_the_least_choic" 272) (.ref 135)) ::
(nat_lit 142,hD "_law_choices" 347 98 1 137 (hR 139) (hR 140) (hR 141) 357) ::
(nat_lit 143,hF 25 "_law_choices" (.str "law_knotwise_k72_settling_is_the_least_choic" 272) (.ref 142)) ::
(nat_lit 149,hD "_law_met" 359 107 1 144 (hR 146) (hR 147) (hR 148) 367) ::
(nat_lit 150,hF 26 "_law_met" (.str "law_knotwise_k72_settling_is_the_least_choic" 272) (.ref 149)) ::
(nat_lit 154,hD "_law_drawn" 369 114 1 151 hN hN (hR 153) 373) ::
(nat_lit 155,hF 27 "_law_drawn" (.str "law_knotwise_k72_settling_is_the_least_choic" 272) (.ref 154)) ::
(nat_lit 159,hD "law" 375 124 1 156 hN hN (hR 158) 379) ::
(nat_lit 160,hF 28 "law" (.str "law_knotwise_k72_settling_is_the_least_choic" 272) (.ref 159)) :: []
noncomputable def hA:List Addr:=[3,20,21,27,28,32,33,37,38,42,43,47,48,52,53,59,60,66,67,71,72,78,79,85,86,92,93,97,98,104,105,109,110,116,117,123,124,130,131,135,136,142,143,149,150,154,155,159,160]
noncomputable def hL:List Str:=[]
theorem JC(w:World)(os:OsState):(topFrom treeTable (PySem.Challenge.rw_knotwise_k72_settling_is_the_least_choic).row.prog w 1596 ⟨boot_heap w.params,Array.mk [],boot_drawn,boot_toks,os⟩).map (fun s=>(openSeen hQ hL (C8 (PySem.Challenge.rw_knotwise_k72_settling_is_the_least_choic).row.prog.main.body) (Ks PySem.Challenge.rw_knotwise_k72_settling_is_the_least_choic hQ) true s,hA.map s.heap.get?))=some (openGood hQ hL,(hK w.params).map fun p=>some p.2):=by kernel_rfl
theorem JB:(PySem.Challenge.rw_knotwise_k72_settling_is_the_least_choic).wellSaid=true:=by kernel_rfl
theorem JA:AB PySem.Challenge.rw_knotwise_k72_settling_is_the_least_choic hQ=true:=by kernel_rfl
end
end Fin
end Internal
open Internal
open PySem PySem.W PyProof.Rows
set_option maxRecDepth 100000 in
set_option maxHeartbeats 0 in
theorem PySem.Challenge.cw_knotwise_k72_settling_is_the_least_choic_holds : PySem.Challenge.rw_knotwise_k72_settling_is_the_least_choic.Holds := by
 w_on
 refine K2.Ce (q:=Fin.hQ) (K:=Fin.hK) (as:=Fin.hA) (N:=1596) Fin.JB (by kernel_rfl) (by kernel_rfl) (fun _=>by kernel_rfl) (fun _=>by kernel_rfl) Fin.JC (by rfl) (by rfl) (by rfl) (by rfl) Fin.JA ⟨rfl,rfl,rfl,rfl,rfl,by decide +kernel⟩ ?hw ?hc
 (case hw=>w_witness2)
 k_fill
 refine K2.B6 (c:=71) (P:=69) (y:="settling") (qn:="settling.<locals>.<lambda>") (l:=PySem.Challenge.rw_knotwise_k72_settling_is_the_least_choic) (k:=6) (x:="_law_script") rfl rfl ⟨rfl,by decide,by decide⟩ (fun w h Y=>Y) (by kernel_rfl) (fun _=>by kernel_rfl) (fun _=>by kernel_rfl) ?F
 case F =>
  intro w mg fa h KX G Li;exact Fin.all_mk KX G Li K2.e6 K2.e6 K2.e6 K2.e6 K2.e6 K2.e6 K2.e6 K2.e6 K2.e6 K2.e6 K2.e6 K2.e6 K2.e6 K2.e6 K2.e6 K2.e6 K2.e6 K2.e6 K2.e6 K2.e6 K2.e6 K2.e6 K2.e6 K2.e6
