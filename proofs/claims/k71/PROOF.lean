import PyProof.Rows.All
import Wide.All
import OpenK.AllK
import Wide.FinOn
import Lean
import PyProof.EqAt
import PyProof.EqKinds
import PyProof.TupleCall
import PySem.Challenge.RW_knotwise_k71_settled_by_any_names
open Array renaming length_toList -> eW, getElem?_eq_getElem -> mL, getD -> Br
open Array.Perm renaming refl -> ki
open Bool renaming false_eq_true -> aw, and_eq_true -> aK, not_true -> bK, noConfusion -> bR, not_false -> c3, false_ne_true -> eK, and_eq_true_iff -> iw, or_eq_true -> qQ, false_and -> Bp, and_false -> Bq, false_or -> DE, beq_eq_decide_eq -> GB
open Classical renaming byContradiction -> wY
open False renaming elim -> bx
open ForInStep renaming yield -> oE
open Int renaming emod_lt_of_pos -> gQ, emod_nonneg -> jr, toNat_natCast -> jU, zero_add -> qW
open List renaming getElem?_cons_zero -> aa, getElem?_cons_succ -> ae, length_map -> af, set_cons_zero -> ag, length_cons -> ai, set_cons_succ -> aj, getElem?_eq_getElem -> aq, length_nil -> av, map_cons -> ay, mem_cons_of_mem -> aE, map_append -> aH, size_toArray -> aI, getD_eq_getElem?_getD -> aN, cons_append -> aO, length_append -> aP, nil_append -> aS, replicate -> aW, map_nil -> a7, mem_cons_self -> bb, getElem?_append_left -> bF, getElem?_append_right -> bL, range -> bP, flatten_cons -> bQ, nodup_nil -> bZ, mem_of_getElem? -> cj, mem_append_right -> cz, length_range -> cC, getElem_mem -> cP, getElem_map -> cQ, getElem?_map -> cT, drop_eq_getElem_cons -> cZ, getElem_of_mem -> c9, take_append_drop -> dc, length_singleton -> dg, append_assoc -> dh, find?_cons -> dD, length_drop -> dI, length -> dW, length_replicate -> eD, append_nil -> eE, nodup_append -> eS, flatten_append -> eZ, length_take -> fh, map_map -> fD, getElem_range -> fE, mem_append_left -> fK, nodup_cons -> fS, map -> gc, getElem?_set_self -> gH, mem_singleton -> gL, map_singleton -> gM, foldl_cons -> gY, getElem?_set_ne -> iu, all_eq_true -> iS, map_congr_left -> iU, length_set -> jm, getElem?_replicate -> jn, drop_eq_nil_of_le -> jD, getElem?_eq_none -> kg, getElem?_of_mem -> kP, any_cons -> k7, reverse_cons -> og, foldl_append -> oh, of_mem_zip -> qO, all_map -> qP, filterMap_cons -> sN, take_nil -> vi, mem_cons -> vj, drop_nil -> vk, all_cons -> vm, zipWith -> wW, set_nil -> wX, lookup_cons -> yj, length_zip -> zT, perm_ext_iff_of_nodup -> Ah, pairwise_mergeSort -> DB, map_take -> DC, map_drop -> DD, take_of_length_le -> D6, flatMap_singleton -> D7, find?_cons_of_pos -> D8, find?_cons_of_neg -> D9, idxOf_le_length -> GP
open List.Perm renaming eq_of_pairwise -> yk
open Nat renaming le_refl -> aG, lt_of_lt_of_le -> a8, ne_of_lt -> bh, le_trans -> bw, zero_le -> bS, lt_irrefl -> fF, not_lt_zero -> lL, lt_succ_of_lt -> oD, le_succ -> oZ, add_sub_cancel_left -> o3, succ_le_succ -> pC, lt_succ_self -> pD, le_of_succ_le_succ -> pL, pow_le_pow_right -> su, mul_le_mul -> sM, sub_self -> yh, ne_of_gt -> yi, le_of_lt -> GN
open Ne renaming symm -> mr
open Option renaming isSome_map -> jx, map_some -> yg
open Option.some renaming inj -> a6
open PyProof.Rows renaming callWith_type1 -> c8, seqObj -> jR, IntsAre -> jT, slot_tuple_getitem -> qN, callWith_builtin1 -> qU, subscriptTail_builtinR -> so, envOfC -> tO, AllBare -> w4, get?_update_seq -> D1
open PySem renaming Shared -> ak, wpAny_bind -> ar, FuncData -> aB, sizeLine -> aX, wpAny_pure -> a0, starEach -> bA, wpAny_loadPart' -> bB, Program -> bC, mainGlobals -> bG, sizeLine_eq -> cf, Around -> cF, compareOp -> cX, wpAny_Call_Name_kw -> c6, bootBuiltins -> c7, wpAny_holding -> dQ, plainId_quiet -> e6, wpAny_tryCatch -> e9, ReadsAll -> fC, mem_of_lookup -> fZ, wpAny_updateSeq -> gi, codeAny_builtin -> gj, sysModules -> gX, wpAny_passesOwn -> ix, wpAny_truthy_bool -> iP, wpAny_newObj_type -> iQ, binaryOp -> iR, wpAny_seqItems -> jc, backTo -> jd, wpAny_letGo -> jq, codeAmong -> jS, richCompare -> kM, foldedSetIterable -> kN, valueAt -> kO, sliceBounds -> mT, argBest -> mV, tupleKind_room_in1 -> oH, rawInt -> oJ, NameKind -> oK, wpAny_pyIter_list -> pH, wpAny_mono -> pI, builtinsNs -> pJ, richCompare_meets_room -> sr, wpAny_execs_nil -> tL, letOwnedTupleGo -> tM, codeAny -> tP, call_meets -> vg, assignEach -> vh, wpAny_pyIter_tuple -> yv, seqItems? -> yw, wpAny_truthy_dict -> z0, spliced -> z8, relabel -> z9, holding -> Aa, closureFor -> Ab, wpAny_callSpecialIfBound?_slot -> Bk, valueAt -> DT, updateSeq -> DU, tupleKind -> DV, swapsWith -> DW, seqIndex_of -> DX, pyNext -> DY, importedModules -> D0, callerA -> D3, assign -> D4, Keyword -> Ea, Arguments -> Eb, recursionLimit -> GK
open PySem.Around renaming under_plainId -> dw
open PySem.AutoSeq1 renaming sub_tuple_tuple -> mw, sub_list_list -> An
open PySem.Builtin.Builtins renaming bindParams -> jo
open PySem.Builtin.List renaming listTooLong -> hV, listExtendWith -> jO, listSameRef -> vq, listItems -> wZ
open PySem.Builtin.Range renaming rangeSize -> vp
open PySem.Builtin.Slice renaming slicePlaces -> gO, sliceAdjust -> ko, sliceApplied -> sO
open PySem.Builtin.Tuple renaming tupleExact -> gZ, tupleCompareSizes -> pM
open PySem.Calls renaming spliced_cons -> gJ, spliced_nil -> jE, Name_function_global -> zU
open PySem.F renaming plainAttrs_list -> bq, type_list_append -> cK, slot_list_append -> cM, plain_min_loop -> dH, plain_min_loop -> gN, slot_tuple_lt -> jC, args_tuple_lt_2 -> mY, entry_tuple_lt -> oB, entry_min_loop -> oC, slot_list_lt -> pK, type_list_insert -> zO, type_list_extend -> zP, slot_list_insert -> zQ, slot_list_extend -> zR, args_tuple_add_2 -> zS, slot_list_index -> Af, entry_tuple_add -> Ag, entry_min_loop -> Am, slot_tuple_add -> Bn, args_list_lt_2 -> Bo, entry_list_lt -> Cz
open PySem.Heap renaming get?_push_of_some -> ax, lt_size -> aL, get?_push_size -> ba, get?_update_other -> cg, size_push -> iO, get?_update_self -> kh, size_update -> ym, SameBut -> GA, get?_none_of_le -> GQ
open PySem.Heap.SameBut renaming update -> oM
open PySem.NameKind renaming free -> iT
open PySem.Obj renaming mapSeq -> cU
open PySem.Paired renaming length -> sL
open PySem.PassesOwn renaming never -> bf
open PySem.PyData renaming depthAll -> bI, eqv -> mQ
open PySem.SeqAt renaming items_eqAt -> km, any_by_data -> mX, readOf -> v3
open PySem.Str renaming ofString -> qT
open PySem.Value renaming int -> dR, none -> k6, ref -> mW, bool -> vo
open PySem.W renaming Frag -> ah, mg_none_of -> cu, nsIn -> dB, kas_rev -> fg, kia_one -> gK, keepIn -> iq, kas_place -> iy, fnOf -> iN, kas_desc -> jl, findIn -> lK, kas_asc -> mU, kas_descPart -> tN, methodObj -> tQ, codeIn -> yx, cellsFrom_some -> Bm, kas_tail3 -> DZ, OpenLaw -> D5, callWith_K -> Gz, specialIn -> GL
open PySem.W.KasT renaming ret -> qV
open PySem.Walks renaming list -> Bl
open Sum renaming inr -> Ac, inl -> Ae
open True renaming intro -> iW
set_option Elab.async false
set_option linter.all false
set_option maxRecDepth 100000
set_option maxHeartbeats 4000000
set_option genSizeOf false
set_option genInjectivity false
set_option compiler.extract_closed false
namespace Internal
theorem Ad(h:0=0:=by decide):0=0:=h
theorem Ai(h:0=0:=by intro _; rfl):0=0:=h
theorem Aj(h:0=0:=by intros; rfl):0=0:=h
theorem Ak(h:0=0:=by decide +kernel):0=0:=h
theorem Al(h:0=0:=by intro _ _ _ _ h; repeat (first | (cases h.1; rfl) | (cases h <;> rename_i h))):0=0:=h
theorem Ao(h:0=0:=by first | exact .inl rfl | exact .inr rfl | exact .inr (.inl rfl) | exact .inr (.inr rfl) | assumption):0=0:=h
theorem Aq(h:0=0:=by k_is):0=0:=h
theorem Ar(h:0=0:=by rfl):0=0:=h
namespace L2
open PySem PySem.Spec PyProof.Rows
noncomputable abbrev Key:=Sum Int Str
noncomputable def wA:Key->Value->Bool
 | .inl k,v=>Value.isInt k v
 | .inr x,v=>Value.isStrOf x v
noncomputable def Pk(w:World):Key->Int
 | .inl k=>hashInt k
 | .inr x=>hashStr w x
theorem eY:∀ {k:Key} {v:Value},wA k v=true->(∃ i t,k=Ae i/\v=dR i t)\/(∃ x t,k=Ac x/\v=Value.str x t)
 | .inl i,v,h=>by
  obtain⟨t,e⟩:=Value.isInt_shape (k:=i) (v:=v) h;exact .inl ⟨i,t,rfl,e⟩
 | .inr x,v,h=>by
  obtain⟨t,e⟩:=Value.isStrOf_shape (x:=x) (v:=v) h;exact .inr ⟨x,t,rfl,e⟩
theorem C4(i:Int)(t:Tok):wA (.inl i) (.int i t)=true:=by simp [wA,Value.isInt]
theorem C3(x:Str)(t:Tok):wA (.inr x) (.str x t)=true:=by simp [wA,Value.isStrOf]
theorem Fh(a b:Int):decide ((Ae a:Key)=Ae b)=(a == b):=by
 by_cases e:a=b
 ·subst e; simp
 ·have h:¬ (Ae a:Key)=Ae b:=fun q=>e (Sum.inl.inj q);rw [decide_eq_false h];exact(beq_eq_false_iff_ne.mpr e).symm
theorem Fg(a b:Str):decide ((Ac a:Key)=Ac b)=decide (a=b):=by
 by_cases e:a=b
 ·subst e; simp
 ·have h:¬ (Ac a:Key)=Ac b:=fun q=>e (Sum.inr.inj q);rw [decide_eq_false h,decide_eq_false e]
theorem J7(a:Int)(b:Str):decide ((Ae a:Key)=Ac b)=false:=decide_eq_false (fun q=>nomatch q)
theorem J4(a:Str)(b:Int):decide ((Ac a:Key)=Ae b)=false:=decide_eq_false (fun q=>nomatch q)
noncomputable def eP(prog:bC)(w:World):PySem.KeyKind prog w Key where
 is:=wA
 hash:=Pk w
 inj:=fun v a b ha hb=>by
  rcases eY ha with ⟨i,t,rfl,rfl⟩ | ⟨x,t,rfl,rfl⟩
  ·rcases eY hb with ⟨j,u,rfl,e⟩ | ⟨y,u,rfl,e⟩
   ·injection e with e1 _; rw [e1]
   ·exact nomatch e
  ·rcases eY hb with ⟨j,u,rfl,e⟩ | ⟨y,u,rfl,e⟩
   ·exact nomatch e
   ·injection e with e1 _; rw [e1]
 byValue:=fun k v h=>by
  rcases eY h with ⟨i,t,rfl,rfl⟩ | ⟨x,t,rfl,rfl⟩ <;> rfl
 pyHash:=fun hv h=>by
  rcases eY hv with ⟨i,t,rfl,rfl⟩ | ⟨x,t,rfl,rfl⟩
  ·exact wpAny_pyHash_int h
  ·exact wpAny_pyHash_str h
 eqBool:=fun hu hv h=>by
  rcases eY hu with ⟨i,t,rfl,rfl⟩ | ⟨x,t,rfl,rfl⟩
  ·rcases eY hv with ⟨j,u,rfl,rfl⟩ | ⟨y,u,rfl,rfl⟩
   ·rw [Fh] at h; exact wpAny_eqBool_int h
   ·rw [J7] at h; exact SeqAt.EqAt.int_str i t y u _ _ _ _ h
  ·rcases eY hv with ⟨j,u,rfl,rfl⟩ | ⟨y,u,rfl,rfl⟩
   ·rw [J4] at h; exact SeqAt.EqAt.str_int x t j u _ _ _ _ h
   ·rw [Fg] at h; exact wpAny_eqBool_str h
 «strs»:=fun k x t v h=>by
  rcases eY h with ⟨i,u,rfl,e⟩ | ⟨y,u,rfl,e⟩
  ·exact nomatch e
  ·injection e with e1 _
   subst e1;cases v <;> rfl
theorem yX(prog:bC)(w:World)(i:Int)(t:Tok):(eP prog w).is (.inl i) (.int i t)=true:=C4 i t
theorem yW(prog:bC)(w:World)(x:Str)(t:Tok):(eP prog w).is (.inr x) (.str x t)=true:=C3 x t
inductive V where
 | cR | bl (b:Bool) | int (i:Int) | str (x:Str) | KL (b:Array UInt8) | MQ (b:UInt64) | ref (a:Addr) | ty (n:String)
noncomputable def RelV:V->Value->Prop
 | .cR,u=>u=k6
 | .bl b,u=>u=vo b
 | .int i,u=>∃ t,u=dR i t
 | .str x,u=>∃ t,u=Value.str x t
 | .KL b,u=>∃ t,u=Value.bytes b t
 | .MQ b,u=>∃ t,u=Value.float b t
 | .ref a,u=>u=mW a
 | .ty n,u=>u=Value.type n
noncomputable abbrev Vals:List V->List Value->Prop:=Paired RelV
theorem Vals.length{xs:List V}{us:List Value}(r:Vals xs us):xs.length=us.length:=sL r
theorem Vals.get:∀ {xs:List V} {us:List Value} {i:Nat} {x:V},Vals xs us->xs[i]?=some x->∃ u,us[i]?=some u/\RelV x u:=by
 intro xs us i x h;induction h generalizing i with
 | nil=>intro e; cases e
 | cons r t ih =>
  intro e;cases i with
  | zero=>cases e; exact⟨_,rfl,r⟩
  | succ i=>exact ih e
theorem Vals.set{x:V}{u:Value}(r:RelV x u):∀ {xs:List V} {us:List Value} (i:Nat),Vals xs us->Vals (xs.set i x) (us.set i u):=by
 intro xs us i h;induction h generalizing i with
 | nil=>rw [wX,wX]; exact .nil
 | cons q t ih =>
  cases i with
  | zero=>exact .cons r t
  | succ i=>exact .cons q (ih i)
theorem Vals.append:∀ {xs ys:List V} {us ws:List Value},Vals xs us->Vals ys ws->Vals (xs++ys) (us++ws):=by
 intro xs ys us ws h s;induction h with
 | nil=>exact s
 | cons r t ih=>exact .cons r ih
theorem Vals.take:∀ {xs:List V} {us:List Value} (n:Nat),Vals xs us->Vals (xs.take n) (us.take n):=by
 intro xs us n h;induction h generalizing n with
 | nil=>rw [vi,vi]; exact .nil
 | cons r t ih =>
  cases n with
  | zero=>exact .nil
  | succ n=>exact .cons r (ih n)
theorem Vals.drop:∀ {xs:List V} {us:List Value} (n:Nat),Vals xs us->Vals (xs.drop n) (us.drop n):=by
 intro xs us n h;induction h generalizing n with
 | nil=>rw [vk,vk]; exact .nil
 | cons r t ih =>
  cases n with
  | zero=>exact .cons r t
  | succ n=>exact ih n
noncomputable def vX:Option V->Option Value->Prop
 | some v,some u=>RelV v u
 | none,none=>True
 | _,_=>False
noncomputable def KV{κ:Type}:List (κ×V)->List (κ×Value)->Prop:=Paired fun (p:κ×V) (q:κ×Value)=>p.1=q.1/\RelV p.2 q.2
noncomputable def kV:Key->V
 | .inl i=>.int i
 | .inr x=>.str x
inductive HO where
 | lst (xs:List V)
 | tup (xs:List V)
 | dK (aY:List (Key×V)) | dT (aY:List (List Key×V))
 | set (S:Int->Bool) (n:Nat)
 | ins (C dx:Addr) (fs:List (Str×V))
 | own (x:Addr)
 | xd (fs:List (Str×V))
 | met (f x:Addr)
 | Nm (lo hi:Int)
 | lH (o:Obj) (u:HO)
 | yn (q:Str)
 | ext (φ:Heap->Prop)
noncomputable abbrev Hp:=Addr->Option HO
noncomputable def upd(H:Hp)(a:Addr)(o:HO):Hp:=fun b=>if b=a then some o else H b
theorem cN{H:Hp}{a:Addr}{o:HO}:upd H a o a=some o:=by unfold upd; rw [if_pos rfl]
theorem bM{H:Hp}{a b:Addr}{o:HO}(h:b≠a):upd H a o b=H b:=by unfold upd; rw [if_neg h]
theorem L3{H:Hp}{a b:Addr}{o u:HO}(h:H a=some o)(h':H b=some u)(d:o≠u):a≠b:=by
 intro e; subst e; rw [h] at h'; exact d (a6 h')
theorem cy{H:Hp}{a b:Addr}{o:HO}(h:H a=some o)(h':H b=none):a≠b:=by
 intro e; subst e; rw [h] at h'; cases h'
section
variable (P:bC) (w:World)
noncomputable def fR(H:Hp)(h:Heap)(a:Addr):HO->Prop
 | .lst xs=>xs.length<=aX/\∃ (its:List Value) (n:Nat),Vals xs its/\h.get? a=some { cls:=.type "list",data:=.seq its.toArray n }
 | .tup xs=>xs.length<=aX/\∃ its:List Value,Vals xs its/\IsTup h a its.toArray
 | .dK aY=>aY.length<=aX/\(a == gX)=false/\∃ vs,KV aY vs/\h.DictOf (eP P w) a vs
 | .dT aY=>aY.length<=aX/\(a == gX)=false/\∃ xs:List (List Key×Addr×Value),
   Paired (fun (p:List Key×V) (q:List Key×Addr×Value)=>p.1=q.1/\H q.2.1=some (.tup (p.1.map kV))/\RelV p.2 q.2.2) aY xs /\
   ∃ o es ep,h.get? a=some o/\o.ExactDict/\o.data=.dict es ep/\es.toList=xs.map (entryOfKey (DV (eP P w)))/\(xs.map (·.1)).Nodup
 | .set S n=>h.SetOf (intKind P w) a S n
 | .ins C dx fs=>H dx=some (.own a)/\fs.length<=1000/\dx≠a/\h.get? a=some (PySem.W.instObj C dx) /\
   ∃ mA,h.Ns1 dx mA/\(∀ f,vX (fs.lookup f) (mA f))/\PySem.Within mA (fs.map (·.1))
 | .own _=>∃ o,h.get? a=some o
 | .xd fs=>∃ mA,h.Ns1 a mA/\∀ f,vX (fs.lookup f) (mA f)
 | .Nm lo hi=>∃ t u v,h.get? a=some { cls:=.type "range",data:=.fields #[.int lo t,.int hi u,.int 1 v] }
 | .lH o u=>h.get? a=some o/\fR H h a u
 | .yn q=>∃ ps,h.get? a=some { cls:=.none,data:=.fields ps }/\TriplesOk ps.toList/\∀ pos cv,jS pos ps.toList=some cv->∃ c',cv=.ref c'/\H c'=some (.own a)/\h.CodeRec (.ref c') q
 | .met f x=>h.get? a=some (tQ (.ref f) (.ref x))
 | .ext φ=>φ h/\(∃ o,h.get? a=some o)/\∀ h1 h2:Heap,φ h1->(∀ o,h1.get? a=some o->h2.get? a=some o)->φ h2
noncomputable def pG(H:Hp)(h:Heap):Prop:=∀ a o,H a=some o->fR P w H h a o
end
section
variable {P:bC} {w:World} {H H':Hp} {h h':Heap} {a:Addr} {o:HO}
theorem fR.lt(x:fR P w H h a o):a < h.objs.size:=by
 cases o with
 | lst xs=>obtain⟨_,_,_,_,e⟩:=x; exact aL e
 | tup xs=>obtain⟨_,_,_,p⟩:=x; exact p.lt
 | dK aY=>obtain⟨_,_,_,_,o,_,_,e,_⟩:=x; exact aL e
 | dT aY=>obtain⟨_,_,_,_,o,_,_,e,_⟩:=x; exact aL e
 | set S n=>obtain⟨o,_,_,_,e,_⟩:=x; exact aL e
 | ins C dx fs=>obtain⟨_,_,_,e,_⟩:=x; exact aL e
 | own y=>obtain⟨_,e⟩:=x; exact aL e
 | xd fs=>obtain⟨_,⟨_,_,_,e,_⟩,_⟩:=x; exact aL e
 | Nm lo hi=>obtain⟨_,_,_,e⟩:=x; exact aL e
 | lH ob u=>obtain⟨e,_⟩:=x; exact aL e
 | yn q=>obtain⟨_,e,_⟩:=x; exact aL e
 | met f y=>exact aL (show h.get? a=some _ from x)
 | ext φ=>obtain⟨_,⟨_,e⟩,_⟩:=x; exact aL e
theorem Paired.L6{α β:Type}{F G:α->β->Prop}:∀ {JZ:List α} {JY:List β},Paired F JZ JY->(∀ a b,F a b->G a b)->Paired G JZ JY:=by
 intro JZ JY h f;induction h with
 | nil=>exact .nil
 | cons r t ih=>exact .cons (f _ _ r) ih
theorem fR.k8(x:fR P w H h a o)(k:∀ b u,(b=a\/H b=some (.own a))->h.get? b=some u->h'.get? b=some u)
  (ho:∀ b,H b=some (.own a)->H' b=some (.own a)) (ht:∀ b xs,H b=some (.tup xs)->H' b=some (.tup xs)):fR P w H' h' a o:=by
 induction o with
 | lst xs=>obtain⟨z,its,n,r,e⟩:=x; exact⟨z,its,n,r,k _ _ (.inl rfl) e⟩
 | tup xs=>obtain⟨z,its,r,ob,e,c⟩:=x; exact⟨z,its,r,ob,k _ _ (.inl rfl) e,c⟩
 | dK aY=>obtain⟨z,y,vs,r,ob,es,ep,e,c⟩:=x; exact⟨z,y,vs,r,ob,es,ep,k _ _ (.inl rfl) e,c⟩
 | dT aY =>
  obtain⟨z,y,xs,r,ob,es,ep,e,c⟩:=x;exact⟨z,y,xs,Paired.L6 r fun p q z=>⟨z.1,ht _ _ z.2.1,z.2.2⟩,ob,es,ep,k _ _ (.inl rfl) e,c⟩
 | set S n=>obtain⟨ob,es,ep,t,e,c⟩:=x; exact⟨ob,es,ep,t,k _ _ (.inl rfl) e,c⟩
 | ins C dx fs =>
  obtain⟨d,z,ne,e,mA,⟨od,es,ep,e2,c⟩,r⟩:=x;exact⟨ho _ d,z,ne,k _ _ (.inl rfl) e,mA,⟨od,es,ep,k _ _ (.inr d) e2,c⟩,r⟩
 | own y=>obtain⟨ob,e⟩:=x; exact⟨ob,k _ _ (.inl rfl) e⟩
 | xd fs=>obtain⟨mA,⟨od,es,ep,e,c⟩,r⟩:=x; exact⟨mA,⟨od,es,ep,k _ _ (.inl rfl) e,c⟩,r⟩
 | Nm lo hi=>obtain⟨t,u,v,e⟩:=x; exact⟨t,u,v,k _ _ (.inl rfl) e⟩
 | lH ob u ih=>obtain⟨e,q⟩:=x; exact⟨k _ _ (.inl rfl) e,ih q⟩
 | yn q =>
  obtain⟨ps,e,t,z⟩:=x;refine⟨ps,k _ _ (.inl rfl) e,t,fun pos cv y=>?_⟩;obtain⟨c',e1,e2,c2,oc,vs,tq,e3,e4,r⟩:=z pos cv y;cases e3;exact⟨c',e1,ho _ e2,c',oc,vs,tq,rfl,k _ _ (.inr e2) e4,r⟩
 | met f y =>
  have e:h.get? a=some (tQ (.ref f) (.ref y)):=x;show h'.get? a=some (tQ (.ref f) (.ref y));exact k a _ (.inl rfl) e
 | ext φ=>obtain⟨p,⟨o,e⟩,st⟩:=x; exact⟨st _ _ p fun o q=>k _ _ (.inl rfl) q,⟨o,k _ _ (.inl rfl) e⟩,st⟩
theorem pG.lt(x:pG P w H h)(e:H a=some o):a < h.objs.size:=(x a o e).lt
theorem pG.fresh(x:pG P w H h)(e:h.objs.size<=a):H a=none:=by
 cases q:H a with
 | none=>rfl
 | some u=>exact absurd (a8 (x.lt q) e) (fF _)
theorem pG.kept(x:pG P w H h)(k:∀ b u,h.get? b=some u->h'.get? b=some u):pG P w H h':=fun a o e =>
 (x a o e).k8 (fun b u _ q=>k b u q) (fun _ q=>q) fun _ _ q=>q
theorem pG.laid(x:pG P w H h)(k:∀ b u,h.get? b=some u->h'.get? b=some u)(hp:h.objs.size<=a)(new:fR P w (upd H a o) h' a o):pG P w (upd H a o) h':=fun b u e=>by
 have hn:=x.fresh hp;by_cases hb:b=a
 ·subst hb; rw [cN] at e; cases e; exact new
 ·rw [bM hb] at e;exact(x b u e).k8 (fun c v _ q=>k c v q) (fun c q=>by rw [bM (cy q hn)]; exact q) fun c xs q=>by rw [bM (cy q hn)]; exact q
end
noncomputable def Rd(H:Hp)(a:Addr)(u:HO):Prop:=H a=some u\/∃ o,H a=some (.lH o u)
theorem Rd.ok{P:bC}{w:World}{H:Hp}{h:Heap}{a:Addr}{u:HO}(r:Rd H a u)(x:pG P w H h):fR P w H h a u:=by
 rcases r with r | ⟨o,r⟩
 ·exact x a u r
 ·obtain⟨_,q⟩:=x a _ r;exact q
noncomputable def Na:Option HO->Prop
 | some (.lst _)=>True
 | some (.dK _)=>True
 | some (.dT _)=>True
 | some (.set _ _)=>True
 | some (.ins _ _ _)=>True
 | some (.ext _)=>True
 | _=>False
section
variable {P:bC} {w:World} {H:Hp} {h h':Heap} {x e:Addr} {o':HO}
theorem pG.write(ok:pG P w H h)(mu:Na (H x))(he:e=x\/H e=some (.own x))(k:∀ b u,b≠e->h.get? b=some u->h'.get? b=some u)(Lg:∃ u,h'.get? e=some u)
  (new:fR P w (upd H x o') h' x o'):pG P w (upd H x o') h':=fun b u q=>by
 have LY:∀ c y,H c=some (.own y)->c≠x:=fun c y r z=>by subst z; rw [r] at mu; exact mu
 have O4:∀ c xs,H c=some (.tup xs)->c≠x:=fun c xs r z=>by subst z; rw [r] at mu; exact mu
 by_cases hb:b=x
 ·subst hb; rw [cN] at q; cases q; exact new
 ·rw [bM hb] at q;by_cases Kt:b=e
  ·have q':H b=some (.own x):=by
    rcases he with z | z
    ·exact absurd (Kt.trans z) hb
    ·rw [Kt]; exact z
   rw [q] at q'; cases q';obtain⟨v,hv⟩:=Lg;exact⟨v,by rw [Kt]; exact hv⟩
  ·refine(ok b u q).k8 (fun c v hc r=>k c v ?_ r) (fun c r=>by rw [bM (LY c b r)]; exact r) fun c xs r=>by rw [bM (O4 c xs r)]; exact r
   rcases hc with rfl | hc
   ·exact Kt
   ·rintro rfl;rcases he with z | z
    ·exact LY c b hc z
    ·rw [hc] at z; cases z; exact hb rfl
end
structure Un(fs ex:List Addr)(H H':Hp)(h h':Heap):Prop where
 keep:∀ b o,h.get? b=some o->H b=none->b∉fs->b∉ex->h'.get? b=some o
 slot:∀ b o,h.get? b=some o->H b=none->b∈fs->b∉ex->∃ sl,h'.get? b=some { o with slots:=sl }
 free:∀ b o,h.get? b=some o->H b=none->b∉ex->H' b=none
 there:∀ b o,h.get? b=some o->b∉ex->∃ o',h'.get? b=some o'
 vt:∀ b xs,H b=some (.tup xs)->H' b=some (.tup xs)
 uI:∀ b o u,H b=some (.lH o u)->H' b=some (.lH o u)
 qX:∀ b q,H b=some (.yn q)->H' b=some (.yn q)
section
variable {fs Vw ex Vy:List Addr} {H H1 H2:Hp} {h h1 h2 h':Heap} {a x e:Addr} {o:HO}
theorem Un.any(u:Un fs ex H H1 h h1){b:Addr}{ob:Obj}(q:h.get? b=some ob)(n:H b=none)(hx:b∉ex):∃ sl,h1.get? b=some { ob with slots:=sl }:=by
 by_cases hb:b∈fs
 ·exact u.slot b ob q n hb hx
 ·exact⟨ob.slots,u.keep b ob q n hb hx⟩
theorem Un.kept(k:∀ b u,h.get? b=some u->h'.get? b=some u):Un fs ex H H h h' :=
 ⟨fun b ob q _ _ _=>k b ob q,fun b ob q _ _ _=>⟨ob.slots,k b ob q⟩,fun _ _ _ n _=>n,fun b ob q _=>⟨ob,k b ob q⟩,fun _ _ q=>q,fun _ _ _ q=>q,fun _ _ q=>q⟩
theorem Un.refl:Un fs ex H H h h:=Un.kept fun _ _ q=>q
theorem Un.laid(k:∀ b u,h.get? b=some u->h'.get? b=some u)(hp:h.objs.size<=a)(hn:H a=none):Un fs ex H (upd H a o) h h' where
 keep:=fun b u q _ _ _=>k b u q
 slot:=fun b u q _ _ _=>⟨u.slots,k b u q⟩
 free:=fun b u q n _=>by rw [bM (bh (a8 (aL q) hp))]; exact n
 there:=fun b u q _=>⟨u,k b u q⟩
 vt:=fun b xs q=>by rw [bM (cy q hn)]; exact q
 uI:=fun b u xs q=>by rw [bM (cy q hn)]; exact q
 qX:=fun b ps q=>by rw [bM (cy q hn)]; exact q
theorem Un.write(mu:Na (H x))(he:e=x\/H e=some (.own x))(k:∀ b u,b≠e->h.get? b=some u->h'.get? b=some u)(Lg:∃ u,h'.get? e=some u):Un fs ex H (upd H x o) h h':=by
 have hx:∀ b,H b=none->b≠x:=fun b n z=>by subst z; rw [n] at mu; exact mu
 have hb:∀ b,H b=none->b≠e:=fun b n z=>by
  subst z;rcases he with r | r
  ·exact hx b n r
  ·rw [n] at r; cases r
 have hm:∀ b u,H b=some u->¬ Na (some u)->b≠x:=fun b u q nm z=>by subst z; rw [q] at mu; exact nm mu
 refine⟨fun b u q n _ _=>k b u (hb b n) q,fun b u q n _ _=>⟨u.slots,k b u (hb b n) q⟩,fun b u q n _=>by rw [bM (hx b n)]; exact n,fun b u q _=>?_,
  fun b xs q=>by rw [bM (hm b _ q fun z=>z)]; exact q,fun b u xs q=>by rw [bM (hm b _ q fun z=>z)]; exact q,fun b ps q=>by rw [bM (hm b _ q fun z=>z)]; exact q⟩
 by_cases Kt:b=e
 ·subst Kt; exact Lg
 ·exact⟨u,k b u Kt q⟩
end
noncomputable def Nh(h:Heap)(H:Hp):List Addr:=(bP h.objs.size).filter fun a=>(H a).isSome
noncomputable def vE(h:Heap)(H:Hp):Heap:=PySem.W.hideAll h (Nh h H)
theorem C7(h:Heap)(H:Hp):(vE h H).objs.size=h.objs.size:=PySem.W.hideAll_size _ _
theorem Fv{h:Heap}{H:Hp}{b:Addr}{o:Obj}(e:h.get? b=some o)(n:H b=none):(vE h H).get? b=some o :=
 PySem.W.hideAll_get _ e fun hm=>by
  have q:(H b).isSome=true:=(List.mem_filter.mp hm).2;rw [n] at q; simp at q
theorem HG{h:Heap}{H:Hp}{b:Addr}{o:Obj}(e:(vE h H).get? b=some o):h.get? b=some o/\H b=none:=by
 have e':h.get? b=some o:=PySem.W.of_hideAll (Nh h H) e;refine⟨e',?_⟩;cases q:H b with
 | none=>rfl
 | some x =>
  have hm:b∈Nh h H:=List.mem_filter.mpr ⟨List.mem_range.mpr (aL e'),by simp [q]⟩;have z:(vE h H).get? b=none:=PySem.W.hideAll_none (Nh h H) hm;rw [z] at e; cases e
noncomputable def oz(g h:Heap)(L:Addr):List (Addr×Obj):=(bP h.objs.size).filterMap fun a=>if a=L\/(g.get? a).isSome=true then none else (h.get? a).map fun o=>(a,o)
theorem rX{g h:Heap}{L a:Addr}{o:Obj}(h1:a≠L)(h2:g.get? a=none)(h3:h.get? a=some o):(a,o)∈oz g h L :=
 List.mem_filterMap.mpr ⟨a,List.mem_range.mpr (aL h3),by simp [h1,h2,h3]⟩
theorem t9{g h:Heap}{L:Addr}{p:Addr×Obj}(hp:p∈oz g h L):p.1≠L/\g.get? p.1=none/\h.get? p.1=some p.2:=by
 obtain⟨b,_,e⟩:=List.mem_filterMap.mp hp;split at e
 ·cases e
 ·rename_i hn;cases q:h.get? b with
  | none=>rw [q] at e; simp at e
  | some u =>
   rw [q] at e;simp only [yg,Option.some.injEq] at e;subst e;refine⟨fun z=>hn (.inl z),?_,q⟩;show g.get? b=none;cases r:g.get? b with
   | none=>rfl
   | some v=>exact(hn (.inr (by simp [r]))).elim
noncomputable def rest(g h:Heap)(L d:Addr):List (Addr×Obj):=(oz g h L).filter fun p=>decide (p.1≠d)
theorem yV{g h:Heap}{L:Addr}:News g L h (oz g h L):=fun p hp=>let ⟨a,b,c⟩:=t9 hp; ⟨c,a,b⟩
structure Mod(K:ah)(mg:Str->Option Value)(base:Heap):Prop where
 Nz:K.In base
 glob:base.Ns bG mg
 blt:∃ mb,base.Ns pJ mb/\∀ x:Str,x≠"__name__"->mb x=c7 x
 nolimit:base.NoLimit
structure Cx where
 prog:bC
 w:World
 K:ah
 mg:Str->Option Value
 base:Heap
 A:cF
 N:List Str
 kq:ak
 Bi:Hp
 env:Env
 outer:List Env
 stack:List Env
 ex:List Addr
 fn:Str->Bool
 calm:Bool
 pn:List (Addr×Obj)
 xe:Value->ak->Prop
noncomputable def DN(l:List Env):List Addr:=l.filterMap (·.frame)
noncomputable abbrev Cx.fs(X:Cx):List Addr:=DN X.outer
noncomputable def NX(sc:Scope)(x:Str):Prop:=sc.names.lookup x=some .local\/sc.names.lookup x=some .cell\/sc.names.lookup x=some .free
noncomputable def Loc(sc:Scope)(x:Str):Prop:=sc.names.lookup x=some .local\/sc.names.lookup x=some .cell
noncomputable def Look(env:Env)(h:Heap)(m:Str->Option Value)(x:Str)(u:Value):Prop :=
 (env.kindOf x=some .local/\m x=some u)\/((env.kindOf x=some .cell\/env.kindOf x=some .free)/\∃ c,env.cells.lookup x=some c/\h.IsCell c (some u))
structure Cx.Ok(X:Cx):Prop where
 mod:Mod X.K X.mg X.base
 kind:X.env.scope.kind=.function
 glob:X.env.globals=bG
 blt:X.env.builtins=pJ
 above:X.kq.heap.objs.size<=X.env.locals
 inj:∀ x y c,X.env.cells.lookup x=some c->X.env.cells.lookup y=some c->x=y
 has:∀ x,(X.env.kindOf x=some .cell\/X.env.kindOf x=some .free)->∃ c,X.env.cells.lookup x=some c
 MY:∀ x c,X.fn x=true->X.env.cells.lookup x=some c->X.kq.heap.objs.size<=c
 hd:X.calm=true->X.A.handled=none
 frames:X.A.frames=some X.stack
 Nk:X.stack=X.outer\/(X.stack=X.env :: X.outer/\X.env.frame=some X.env.locals)
 NS:∀ b∈X.ex,b≠X.env.locals/\∀ x c,X.env.cells.lookup x=some c->c≠b
 bs:∀ b o,X.base.get? b=some o->X.kq.heap.get? b=some o/\X.Bi b=none
 Iv:X.base.objs.size<=X.kq.heap.objs.size
 E5:∀ b o,X.base.get? b=some o->b∉X.ex
 FK:∀ b∈X.ex,b∉X.fs
 uH:X.kq.heap.FunFrames X.base X.outer
 Ll:∀ b∈X.fs,X.Bi b=none
structure Inv(X:Cx)(pins:List (Addr×Obj))(σ:List (Option V))(H:Hp)(s:ak):Prop where
 ok:X.Ok
 os:s.os=X.kq.os
 bare:w4 s.gens
 base:Un X.fs X.ex X.Bi H X.kq.heap s.heap
 loc:∃ m,s.heap.Ns X.env.locals m/\∀ (i:Nat) (x:Str) (v:V),X.N[i]?=some x->σ[i]?=some (some v)->NX X.env.scope x->∃ u,RelV v u/\Look X.env s.heap m x u
 cell:∀ x c,X.env.cells.lookup x=some c->∃ v,s.heap.IsCell c v
 free:H X.env.locals=none
 mG:∀ x c,X.env.cells.lookup x=some c->H c=none
 pin:∀ p∈X.pn++pins,s.heap.get? p.1=some p.2/\H p.1=none/\p.1≠X.env.locals/\p.1∉X.fs/\∀ v,p.2.data≠.cell v
 dA:pG X.prog X.w H s.heap
 len:σ.length=X.N.length
section
variable {X:Cx} {pins:List (Addr×Obj)} {σ:List (Option V)} {H H':Hp} {s:ak} {h':Heap}
theorem Cx.Ok.O6(ok:X.Ok){b:Addr}{o:Obj}(e:X.base.get? b=some o):b∉X.fs:=fun hb=>by
 have:=(ok.uH.mem hb).1;rw [e] at this; cases this
theorem Inv.bs(I:Inv X pins σ H s):∀ b o,X.base.get? b=some o->s.heap.get? b=some o/\H b=none:=fun b o e =>
 ⟨I.base.keep b o (I.ok.bs b o e).1 (I.ok.bs b o e).2 (I.ok.O6 e) (I.ok.E5 b o e),I.base.free b o (I.ok.bs b o e).1 (I.ok.bs b o e).2 (I.ok.E5 b o e)⟩
theorem Inv.bk(I:Inv X pins σ H s):∀ b o,X.base.get? b=some o->s.heap.get? b=some o:=fun b o e=>(I.bs b o e).1
theorem Inv.mod(I:Inv X pins σ H s):Mod X.K X.mg X.base:=I.ok.mod
theorem Inv.B0(I:Inv X pins σ H s):X.K.In s.heap:=I.ok.mod.Nz.keeps I.bk
theorem Inv.nolimit(I:Inv X pins σ H s):s.heap.NoLimit:=I.ok.mod.nolimit.keeps I.bk
theorem Inv.fr(I:Inv X pins σ H s):∃ m,Fr X.base X.env.locals s.heap m :=
 let ⟨m,hn,_⟩:=I.loc
 ⟨m,hn,I.bk,bw I.ok.Iv I.ok.above⟩
theorem Inv.lt(I:Inv X pins σ H s):X.env.locals < s.heap.objs.size:=let ⟨_,hn,_⟩:=I.loc; hn.lt
theorem Inv.sz(I:Inv X pins σ H s):X.kq.heap.objs.size<=s.heap.objs.size:=bw I.ok.above (GN I.lt)
theorem Inv.O5(I:Inv X pins σ H s){a:Addr}(h:s.heap.objs.size<=a):a∉X.fs:=fun hb=>by
 obtain⟨_,o,ho,_⟩:=I.ok.uH.mem hb;exact absurd (a8 (aL ho) (bw I.sz h)) (fF _)
theorem Inv.KI(I:Inv X pins σ H s):∀ x c,X.env.cells.lookup x=some c->c≠X.env.locals:=fun x c e z=>by
 obtain⟨v,o,ho,hd⟩:=I.cell x c e;obtain⟨m,⟨o',es,ep,H0,C9,_⟩,_⟩:=I.loc;rw [z,H0] at ho; cases ho; rw [C9] at hd; cases hd
theorem Inv.uH(I:Inv X pins σ H s):s.heap.FunFrames X.base X.outer:=by
 have all:∀ (l:List Env),(∀ b∈DN l,b∈X.fs)->X.kq.heap.FunFrames X.base l->s.heap.FunFrames X.base l:=by
  intro l;induction l with
  | nil=>intro _ _; trivial
  | cons env r ih =>
   intro hs hl;obtain⟨hk,⟨L,o,hf,hn,ho,hd⟩,hr⟩:=hl;have hL:L∈X.fs:=hs L (by unfold DN; rw [sN,hf]; exact bb);obtain⟨sl,e⟩:=I.base.slot L o ho (I.ok.Ll L hL) hL fun z=>I.ok.FK L z hL;exact⟨hk,⟨L,_,hf,hn,e,hd⟩,ih (fun b hb=>hs b (by unfold DN; rw [sN,hf]; exact aE _ hb)) hr⟩
 exact all X.outer (fun _ hb=>hb) I.ok.uH
theorem Inv.stack(I:Inv X pins σ H s):s.heap.FunFrames X.base X.stack:=by
 rcases I.ok.Nk with e | ⟨e,hf⟩
 ·rw [e]; exact I.uH
 ·rw [e];obtain⟨m,hn,_⟩:=I.loc;refine .cons (by rw [I.ok.kind]; decide) hf hn ?_ I.uH;exact GQ (bw I.ok.Iv I.ok.above)
theorem Inv.Aw(I:Inv X pins σ H s):∀ b∈DN X.stack,b∈X.env.locals :: X.fs:=fun b hb=>by
 rcases I.ok.Nk with e | ⟨e,hf⟩
 ·rw [e] at hb; exact aE _ hb
 ·rw [e] at hb;unfold DN at hb;rw [sN,hf] at hb;exact hb
theorem Inv.Bw(I:Inv X pins σ H s):∀ b∈DN X.stack,H b=none:=fun b hb=>by
 rcases List.mem_cons.mp (I.Aw b hb) with e | hb
 ·rw [e]; exact I.free
 ·obtain⟨_,o,ho,_⟩:=I.ok.uH.mem hb;exact I.base.free b o ho (I.ok.Ll b hb) fun z=>I.ok.FK b z hb
theorem Inv.step{g':Array GenState}{t':Nat}{d':Drawn}{ch:List Addr}(I:Inv X pins σ H s)
  (IZ:∀ b∈ch,(b∈X.ex\/X.kq.heap.objs.size<=b)/\b≠X.env.locals/\(∀ x c,X.env.cells.lookup x=some c->c≠b)/\∀ p∈X.pn++pins,p.1≠b)
  (keep:∀ b o,b≠X.env.locals->b∉X.fs->b∉ch->s.heap.get? b=some o->H b=none->h'.get? b=some o)
  (slot:∀ b o,b≠X.env.locals->b∈X.fs->b∉ch->s.heap.get? b=some o->H b=none->∃ sl,h'.get? b=some { o with slots:=sl }) (free:∀ b o,b∉ch->s.heap.get? b=some o->H b=none->H' b=none)
  (there:∀ b o,b∉ch->s.heap.get? b=some o->∃ o',h'.get? b=some o')
  (vt:∀ b xs,H b=some (.tup xs)->H' b=some (.tup xs)) (uI:∀ b o u,H b=some (.lH o u)->H' b=some (.lH o u)) (qX:∀ b q,H b=some (.yn q)->H' b=some (.yn q))
  (ns:∀ m,s.heap.Ns X.env.locals m->h'.Ns X.env.locals m) (dA:pG X.prog X.w H' h') (hg:w4 g') :
  Inv X pins σ H' { s with heap:=h',gens:=g',drawn:=d',toks:=t' }:=by
 have QB:∀ b o,X.kq.heap.get? b=some o->b≠X.env.locals:=fun b o e=>bh (a8 (aL e) I.ok.above);have Nx:∀ b o,X.kq.heap.get? b=some o->b∉X.ex->b∉ch:=fun b o e hx hb=>by
  rcases (IZ b hb).1 with z | z
  ·exact hx z
  ·exact absurd (a8 (aL e) z) (fF _)
 have cellK:∀ x c,X.env.cells.lookup x=some c->∀ v,s.heap.IsCell c v->h'.IsCell c v:=fun x c e v ⟨o,ho,hd⟩=>by
  have L4:c∉ch:=fun z=>(IZ c z).2.2.1 x c e rfl;by_cases hc:c∈X.fs
  ·obtain⟨sl,q⟩:=slot c o (I.KI x c e) hc L4 ho (I.mG x c e);exact⟨_,q,hd⟩
  ·exact⟨o,keep c o (I.KI x c e) hc L4 ho (I.mG x c e),hd⟩
 refine⟨I.ok,I.os,hg,⟨fun b o e n hb hx=>?_,fun b o e n hb hx=>?_,fun b o e n hx=>?_,fun b o e hx=>?_,fun b xs e=>vt b xs (I.base.vt b xs e),fun b o xs e=>uI b o xs (I.base.uI b o xs e),fun b ps e=>?_⟩,?_,fun x c e=>?_,?_,fun x c e=>?_,fun p hp=>?_,dA,I.len⟩
 ·exact keep b o (QB b o e) hb (Nx b o e hx) (I.base.keep b o e n hb hx) (I.base.free b o e n hx)
 ·obtain⟨sl,e1⟩:=I.base.slot b o e n hb hx;obtain⟨RR,e2⟩:=slot b _ (QB b o e) hb (Nx b o e hx) e1 (I.base.free b o e n hx);exact⟨RR,e2⟩
 ·obtain⟨o',e1⟩:=I.base.there b o e hx;exact free b o' (Nx b o e hx) e1 (I.base.free b o e n hx)
 ·obtain⟨o',e1⟩:=I.base.there b o e hx;exact there b o' (Nx b o e hx) e1
 ·exact qX b _ (I.base.qX b ps e)
 ·obtain⟨m,hn,hl⟩:=I.loc;refine⟨m,ns m hn,fun i x v e1 e2 e3=>?_⟩;obtain⟨u,r,l⟩:=hl i x v e1 e2 e3;refine⟨u,r,?_⟩;rcases l with l | ⟨k,c,e,z⟩
  ·exact .inl l
  ·exact .inr ⟨k,c,e,cellK x c e _ z⟩
 ·obtain⟨v,z⟩:=I.cell x c e;exact⟨v,cellK x c e v z⟩
 ·obtain⟨m,⟨o,_,_,ho,_⟩,_⟩:=I.loc;exact free _ o (fun z=>(IZ _ z).2.1 rfl) ho I.free
 ·obtain⟨v,o,ho,hd⟩:=I.cell x c e;exact free c o (fun z=>(IZ c z).2.2.1 x c e rfl) ho (I.mG x c e)
 ·obtain⟨e,n,ne,nf,d⟩:=I.pin p hp;have L4:p.1∉ch:=fun z=>(IZ p.1 z).2.2.2 p hp rfl;exact⟨keep p.1 p.2 ne nf L4 e n,free p.1 p.2 L4 e n,ne,nf,d⟩
theorem Inv.un{t':Nat}(I:Inv X pins σ H s)(u:Un X.fs [] H H' s.heap h')(dA:pG X.prog X.w H' h'):Inv X pins σ H' { s with heap:=h',toks:=t' }:=by
 obtain⟨m,⟨o,es,ep,ho,r⟩,_⟩:=id I.loc;obtain⟨sl,hL⟩:=u.any ho I.free (by simp);exact I.step (g':=s.gens) (d':=s.drawn) (ch:=[]) (fun _ z=>nomatch z) (fun b o _ hb _ e n=>u.keep b o e n hb (by simp)) (fun b o _ hb _ e n=>u.slot b o e n hb (by simp)) (fun b o _ e n=>u.free b o e n (by simp)) (fun b o _ e=>u.there b o e (by simp)) u.vt u.uI u.qX (fun m' hm=>by
  obtain⟨o',P8,P9,H0,r'⟩:=hm;rw [ho] at H0; cases H0;exact⟨_,P8,P9,hL,r'⟩) dA I.bare
theorem Inv.call{g':Array GenState}{t':Nat}{d':Drawn}{ch:List Addr}(I:Inv X pins σ H s)(u:Un (DN X.stack) ch H H' s.heap h')(dA:pG X.prog X.w H' h')(hg:w4 g')
  (IZ:∀ b∈ch,(b∈X.ex\/X.kq.heap.objs.size<=b)/\b≠X.env.locals/\(∀ x c,X.env.cells.lookup x=some c->c≠b)/\∀ p∈X.pn++pins,p.1≠b) :
  Inv X pins σ H' { s with heap:=h',gens:=g',drawn:=d',toks:=t' }:=by
 obtain⟨m,⟨o,es,ep,ho,r⟩,_⟩:=id I.loc;obtain⟨sl,hL⟩:=u.any ho I.free fun z=>(IZ _ z).2.1 rfl;exact I.step (ch:=ch) IZ (fun b o hL hb hc e n=>u.keep b o e n (fun z=>(List.mem_cons.mp (I.Aw b z)).elim hL hb) hc) (fun b o _ _ hc e n=>u.any e n hc) (fun b o hc e n=>u.free b o e n hc) (fun b o hc e=>u.there b o e hc) u.vt u.uI u.qX (fun m' hm=>by
  obtain⟨o',P8,P9,H0,r'⟩:=hm;rw [ho] at H0; cases H0;exact⟨_,P8,P9,hL,r'⟩) dA hg
theorem Inv.turned{t':Nat}{it:Addr}(I:Inv X pins σ H s)(k:∀ b o,b≠it->s.heap.get? b=some o->h'.get? b=some o)(hn:H it=none)(hL:it≠X.env.locals)
  (h1:it∈X.ex\/X.kq.heap.objs.size<=it) (h2:∀ x c,X.env.cells.lookup x=some c->c≠it) (h3:∀ p∈X.pn++pins,p.1≠it):Inv X pins σ H { s with heap:=h',toks:=t' }:=by
 have QA:∀ b u,H b=some u->b≠it:=fun b u e z=>by rw [z,hn] at e; cases e
 refine I.step (g':=s.gens) (d':=s.drawn) (ch:=[it]) (fun b hb=>?_) (fun b o _ _ hc e _=>k b o (fun z=>hc (by simp [z])) e) (fun b o _ _ hc e _=>⟨o.slots,k b o (fun z=>hc (by simp [z])) e⟩) (fun _ _ _ _ n=>n)
  (fun b o hc e=>⟨o,k b o (fun z=>hc (by simp [z])) e⟩) (fun _ _ e=>e) (fun _ _ _ e=>e) (fun _ _ e=>e) (fun m hm=>?_) (fun b u e=>?_) I.bare
 ·have e:b=it:=by simpa using hb
  subst e;exact⟨h1,hL,h2,h3⟩
 ·obtain⟨o,es,ep,ho,r⟩:=hm;exact⟨o,es,ep,k _ o (mr hL) ho,r⟩
 ·refine(I.dA b u e).k8 (fun c v hc q=>k c v ?_ q) (fun _ q=>q) fun _ _ q=>q;rcases hc with z | z
  ·rw [z]; exact QA b u e
  ·exact QA c _ z
theorem Inv.tok(I:Inv X pins σ H s)(t:Nat):Inv X pins σ H { s with toks:=t }:=I.un (h':=s.heap) (t':=t) Un.refl I.dA
theorem Inv.kept{t':Nat}(I:Inv X pins σ H s)(k:∀ b u,s.heap.get? b=some u->h'.get? b=some u):Inv X pins σ H { s with heap:=h',toks:=t' }:=I.un (Un.kept k) (I.dA.kept k)
theorem Inv.laid{a:Addr}{o:HO}{t':Nat}(I:Inv X pins σ H s)(k:∀ b u,s.heap.get? b=some u->h'.get? b=some u)(hp:s.heap.objs.size<=a)(new:fR X.prog X.w (upd H a o) h' a o) :
  Inv X pins σ (upd H a o) { s with heap:=h',toks:=t' }:=I.un (Un.laid k hp (I.dA.fresh hp)) (I.dA.laid k hp new)
theorem Inv.write{x e:Addr}{o:HO}{t':Nat}(I:Inv X pins σ H s)(mu:Na (H x))(he:e=x\/H e=some (.own x))(k:∀ b u,b≠e->s.heap.get? b=some u->h'.get? b=some u)(Lg:∃ u,h'.get? e=some u)
  (new:fR X.prog X.w (upd H x o) h' x o):Inv X pins σ (upd H x o) { s with heap:=h',toks:=t' }:=I.un (Un.write mu he k Lg) (I.dA.write mu he k Lg new)
theorem Inv.BL{IM:List (Addr×Obj)}(I:Inv X pins σ H s)(h:∀ p∈IM,s.heap.get? p.1=some p.2/\H p.1=none/\p.1≠X.env.locals/\p.1∉X.fs/\∀ v,p.2.data≠.cell v):Inv X IM σ H s :=
 ⟨I.ok,I.os,I.bare,I.base,I.loc,I.cell,I.free,I.mG,fun p hp=>(List.mem_append.mp hp).elim (fun z=>I.pin p (fK _ z)) (h p),I.dA,I.len⟩
theorem yU{N:List Str}(hN:N.Nodup){i j:Nat}{x:Str}(a:N[i]?=some x)(b:N[j]?=some x):i=j:=by
 obtain⟨h1,e1⟩:=List.getElem?_eq_some_iff.mp a;obtain⟨h2,e2⟩:=List.getElem?_eq_some_iff.mp b;exact(List.getElem_inj hN).mp (e1.trans e2.symm)
theorem v8{M:Model}{A:cF}{E:Value->ak->Prop}{i:Nat}{x:Str}{v:V}{u:Value}{Q:Unit->ak->Prop}(I:Inv X pins σ H s)(hN:X.N.Nodup)(hi:X.N[i]?=some x)(hx:Loc X.env.scope x)(r:RelV v u)
  (h:∀ s',Inv X pins (σ.set i (some v)) H s'->(∃ a,GA a s.heap s'.heap/\(a=X.env.locals\/X.env.cells.lookup x=some a))->Q () s') (hf:autoParam (X.fn x=true\/X.env.scope.names.lookup x=some .local) Ao._auto_1):wpAny M A (storeName X.env x u) Q E s:=by
 obtain⟨m,hn,hl⟩:=id I.loc;have PT:(X.env.scope.kind == .class||(X.env.scope.kind == .module&&X.env.locals != X.env.globals))=false:=by rw [I.ok.kind]; rfl
 have Ms:i < σ.length:=by rw [I.len]; exact(List.getElem?_eq_some_iff.mp hi).1
 have KI:=I.KI;have tracked:∀ {a:Addr} {h':Heap},(∃ o,s.heap.get? a=some o/\H a=none)->GA a s.heap h'->pG X.prog X.w H h':=fun {a h'} ha hs b ob e=>by
  obtain⟨_,_,j8⟩:=ha;refine(I.dA b ob e).k8 (fun c w' hc q=>(hs.2 c ?_).trans q) (fun _ q=>q) fun _ _ q=>q;rintro rfl;rcases hc with rfl | hc
  ·rw [j8] at e; cases e
  ·rw [j8] at hc; cases hc
 rcases hx with hk | hk
 ·refine wpAny_storeName_local hk hn (fun h' NJ hs=>?_) PT;obtain⟨oL,_,_,S7,_⟩:=id hn;refine h _ ⟨I.ok,I.os,I.bare,⟨fun b o e n hb hx=>?_,fun b o e n hb hx=>?_,I.base.free,fun b o e hx=>?_,I.base.vt,I.base.uI,I.base.qX⟩,⟨_,NJ,fun j y v' e1 e2 e3=>?_⟩,fun y c e=>?_,I.free,I.mG,fun p hp=>?_,tracked ⟨oL,S7,I.free⟩ hs,by simpa using I.len⟩ ⟨_,hs,.inl rfl⟩
  ·exact(hs.2 b (bh (a8 (aL e) I.ok.above))).trans (I.base.keep b o e n hb hx)
  ·obtain⟨sl,e1⟩:=I.base.slot b o e n hb hx;exact⟨sl,(hs.2 b (bh (a8 (aL e) I.ok.above))).trans e1⟩
  ·obtain⟨o',e1⟩:=I.base.there b o e hx;exact⟨o',(hs.2 b (bh (a8 (aL e) I.ok.above))).trans e1⟩
  ·by_cases hj:j=i
   ·subst hj;rw [hi] at e1; cases e1;rw [gH Ms] at e2;cases e2;exact⟨u,r,.inl ⟨hk,by simp⟩⟩
   ·rw [iu (mr hj)] at e2;obtain⟨u',r',q⟩:=hl j y v' e1 e2 e3;refine⟨u',r',?_⟩;rcases q with ⟨k,e⟩ | ⟨k,c,e,z⟩
    ·refine .inl ⟨k,?_⟩;have:y≠x:=fun e=>hj (yU hN e1 (e ▸ hi));simp [this,e]
    ·exact .inr ⟨k,c,e,z.sameBut hs (KI y c e)⟩
  ·obtain⟨w',z⟩:=I.cell y c e;exact⟨w',z.sameBut hs (KI y c e)⟩
  ·obtain⟨e,n,ne,nf,d⟩:=I.pin p hp;exact⟨(hs.2 p.1 ne).trans e,n,ne,nf,d⟩
 ·have PL:X.fn x=true:=by
   rcases hf with z | z
   ·exact z
   ·rw [z] at hk; cases hk
  obtain⟨c,hc⟩:=I.ok.has x (.inl hk);obtain⟨w',z⟩:=I.cell x c hc;refine wpAny_storeName_cell I.ok.kind hk hc z (fun h' ME hs=>?_);obtain⟨oc,Lf,PF⟩:=id z;refine h { s with heap:=h' } ⟨I.ok,I.os,I.bare,⟨fun b o e n hb hx=>?_,fun b o e n hb hx=>?_,I.base.free,fun b o e hx=>?_,I.base.vt,I.base.uI,I.base.qX⟩,⟨m,hn.sameBut hs (mr (KI x c hc)),fun j y v' e1 e2 e3=>?_⟩,fun y c' e=>?_,I.free,I.mG,fun p hp=>?_,tracked ⟨oc,Lf,I.mG x c hc⟩ hs,by simpa using I.len⟩ ⟨c,hs,.inr hc⟩
  ·exact(hs.2 b (bh (a8 (aL e) (I.ok.MY x c PL hc)))).trans (I.base.keep b o e n hb hx)
  ·obtain⟨sl,e1⟩:=I.base.slot b o e n hb hx;exact⟨sl,(hs.2 b (bh (a8 (aL e) (I.ok.MY x c PL hc)))).trans e1⟩
  ·obtain⟨o',e1⟩:=I.base.there b o e hx;exact⟨o',(hs.2 b (bh (a8 (aL e) (I.ok.MY x c PL hc)))).trans e1⟩
  ·by_cases hj:j=i
   ·subst hj;rw [hi] at e1; cases e1;rw [gH Ms] at e2;cases e2;exact⟨u,r,.inr ⟨.inl hk,c,hc,ME⟩⟩
   ·rw [iu (mr hj)] at e2;obtain⟨u',r',q⟩:=hl j y v' e1 e2 e3;refine⟨u',r',?_⟩;rcases q with q | ⟨k,c',e,z'⟩
    ·exact .inl q
    ·refine .inr ⟨k,c',e,z'.sameBut hs ?_⟩;rintro rfl;exact hj (yU hN e1 (I.ok.inj _ _ _ e hc ▸ hi))
  ·by_cases Q3:c'=c
   ·subst Q3; exact⟨_,ME⟩
   ·obtain⟨w2,z2⟩:=I.cell y c' e;exact⟨w2,z2.sameBut hs Q3⟩
  ·obtain⟨e,n,ne,nf,d⟩:=I.pin p hp;refine⟨(hs.2 p.1 ?_).trans e,n,ne,nf,d⟩;intro q;rw [q,Lf] at e;have q':oc=p.2:=a6 e;exact d w' (by rw [<-q']; exact PF)
theorem yC{M:Model}{A:cF}{E:Value->ak->Prop}{i:Nat}{x:Str}{v:V}{u:Value}{Q:Unit->ak->Prop}(I:Inv X pins σ H s)(hN:X.N.Nodup)(hi:X.N[i]?=some x)(hx:Loc X.env.scope x)(r:RelV v u)
  (h:∀ s',Inv X pins (σ.set i (some v)) H s'->Q () s') (hf:autoParam (X.fn x=true\/X.env.scope.names.lookup x=some .local) Ao._auto_1):wpAny M A (storeName X.env x u) Q E s :=
 v8 I hN hi hx r (fun s' I' _=>h s' I') hf
end
noncomputable abbrev XK:=Value->Option Addr->Hp->Prop
noncomputable abbrev St:=List (Option V)
noncomputable abbrev VK:=V->Hp->Prop
noncomputable abbrev TE:=St->Hp->VK->Prop
noncomputable abbrev TT:=St->Hp->(Bool->Hp->Prop)->Prop
noncomputable abbrev TA:=St->Hp->(List V->Hp->Prop)->Prop
structure Ends where
 nx:St->Hp->Prop
 rt:VK
 bk:St->Hp->Prop:=fun _ _=>False
 ct:St->Hp->Prop:=fun _ _=>False
noncomputable abbrev TS:=Ends->St->Hp->Prop
noncomputable def EP(X:Cx)(pins:List (Addr×Obj))(σ:St)(Q:VK)(u:Value)(s':ak):Prop:=∃ v H',Inv X pins σ H' s'/\RelV v u/\Q v H'
noncomputable def TP(X:Cx)(pins:List (Addr×Obj))(σ:St)(Q:Bool->Hp->Prop)(b:Bool)(s':ak):Prop:=∃ H',Inv X pins σ H' s'/\Q b H'
noncomputable def SP(X:Cx)(pins:List (Addr×Obj))(D:Ends)(f:Flow)(s':ak):Prop :=
 match f with
 | .next=>∃ hW H',Inv X pins hW H' s'/\D.nx hW H'
 | .brk=>∃ hW H',Inv X pins hW H' s'/\D.bk hW H'
 | .cont=>∃ hW H',Inv X pins hW H' s'/\D.ct hW H'
 | .ret u=>∃ v hW H',Inv X pins hW H' s'/\RelV v u/\D.rt v H'
noncomputable def PE(X:Cx)(e:Expr)(t:TE):Prop :=
 ∀ (pins:List (Addr×Obj)) (s:ak) (σ:St) (H:Hp) (Q:VK),Inv X pins σ H s->t σ H Q->wpAny (model X.prog X.w) X.A (eval e X.env) (EP X pins σ Q) X.xe s
noncomputable def Lo(X:Cx)(st:List Stmt)(t:TS):Prop :=
 ∀ (pins:List (Addr×Obj)) (s:ak) (σ:St) (H:Hp) (D:Ends),Inv X pins σ H s->t D σ H->wpAny (model X.prog X.w) X.A (execs st X.env) (SP X pins D) X.xe s
theorem fG{α:Type}{t:Sem α}{Q Q':α->ak->Prop}{M:Model}{A:cF}{E:Value->ak->Prop}{s:ak}(h:wpAny M A t Q E s)(hQ:∀ a s,Q a s->Q' a s):wpAny M A t Q' E s:=pI h hQ fun _ _ x=>x
section
variable {X:Cx}
noncomputable def Ov(i:Nat):TE:=fun σ H Q=>∃ v,σ[i]?=some (some v)/\Q v H
noncomputable def tC(v:V):TE:=fun _ H Q=>Q v H
theorem JK {i:Nat} {x:Str} {pos:Pos} (hN:X.N[i]?=some x) (hv:NX X.env.scope x) (hd:autoParam ((x == ("__debug__" : Str))=false) Ad._auto_1) (yq:autoParam ((x == ("__classdict__" : Str))=false) Ad._auto_1):PE X (.Name x pos) (Ov i):=by
 intro pins s σ H Q I h;obtain⟨v,e,h⟩:=h;obtain⟨m,hn,hl⟩:=I.loc;obtain⟨u,r,l⟩:=hl i x v hN e hv;have fin:EP X pins σ Q u s:=⟨v,H,I,r,h⟩;rcases l with ⟨hk,hm⟩ | ⟨hk,c,hc,jz⟩
 ·exact wpAny_Name (wpAny_loadName_local I.ok.kind hk hn hm fin) hd
 ·rcases hk with hk | hk
  ·exact wpAny_Name (wpAny_loadName_cell I.ok.kind hk hc jz fin) hd
  ·exact wpAny_Name (wpAny_loadName_free I.ok.kind hk hc jz fin yq) hd
theorem JM{i j pos}:PE X (.Constant (.int i) j pos) (tC (.int i)):=fun _ _ _ H _ I h=>wpAny_Constant_int ⟨.int i,H,I.tok _,⟨_,rfl⟩,h⟩
theorem LU{b j pos}:PE X (.Constant (.bool b) j pos) (tC (.bl b)):=fun _ _ _ H _ I h=>Constant_bool ⟨.bl b,H,I,rfl,h⟩
theorem JL{j pos}:PE X (.Constant .none j pos) (tC .cR):=fun _ _ _ H _ I h=>Constant_none ⟨.cR,H,I,rfl,h⟩
noncomputable def Gl(X:Cx)(x:Str):Prop:=X.env.kindOf x=some .globalImplicit
theorem BW{E:Value->ak->Prop}{pins:List (Addr×Obj)}{s:ak}{σ:St}{H:Hp}{x:Str}{u:Value}{pos:Pos}{Q:Value->ak->Prop}(I:Inv X pins σ H s)(hg:Gl X x)(hm:X.mg x=some u)(h:Q u s)
  (hd:autoParam ((x == ("__debug__" : Str))=false) Ad._auto_1):wpAny (model X.prog X.w) X.A (eval (.Name x pos) X.env) Q E s :=
 zU I.ok.kind hg (Calls.loadGlobal_global (by rw [I.ok.glob]; exact I.mod.glob.keeps I.bk) hm h) hd
theorem kU{E:Value->ak->Prop}{pins:List (Addr×Obj)}{s:ak}{σ:St}{H:Hp}{x:Str}{u:Value}{pos:Pos}{Q:Value->ak->Prop}(I:Inv X pins σ H s)(hg:Gl X x)(hm:X.mg x=none)(hv:c7 x=some u)(h:Q u s)
  (hn:autoParam (x≠"__name__") Ad._auto_1) (hd:autoParam ((x == ("__debug__" : Str))=false) Ad._auto_1):wpAny (model X.prog X.w) X.A (eval (.Name x pos) X.env) Q E s:=by
 obtain⟨mb,h1,h2⟩:=I.mod.blt;exact zU I.ok.kind hg (Calls.loadGlobal_builtin (by rw [I.ok.glob]; exact I.mod.glob.keeps I.bk) hm (by rw [I.ok.blt]; exact h1.keeps I.bk) ((h2 x hn).trans hv) h) hd
variable {a b:Expr} {ta tb:TE} {pos:Pos}
noncomputable def tB(t:TE):TT:=fun σ H Q=>t σ H fun x H1=>∃ c,x=.bl c/\Q c H1
variable {tA Vi:TT} {rest:List Expr}
end
noncomputable def vW(K:ah)(H:Hp)(a:Addr)(xs:List V):Prop :=
 Rd H a (.lst xs) \/
  ∃ (o:Obj) (its:Array Value) (n:Nat),K.lookup a=some o/\o.cls=.type "list"/\o.dict=none/\o.data=.seq its n/\its.size<=aX/\Vals xs its.toList
noncomputable def u6(K:ah)(H:Hp)(a:Addr)(xs:List V):Prop :=
 Rd H a (.tup xs) \/
  ∃ (o:Obj) (its:Array Value) (n:Nat),K.lookup a=some o/\o.cls=.type "tuple"/\o.data=.seq its n/\its.size<=aX/\Vals xs its.toList
noncomputable def Qc:Value->Option V
 | .none=>some .cR
 | .bool b=>some (.bl b)
 | .int i _=>some (.int i)
 | .str x _=>some (.str x)
 | .bytes b _=>some (.KL b)
 | .float b _=>some (.MQ b)
 | .ref a=>some (.ref a)
 | .type n=>some (.ty n)
 | _=>none
theorem RelV.abs{x:V}{u:Value}(r:RelV x u):Qc u=some x:=by
 cases x with
 | cR=>cases r; rfl
 | bl _=>cases r; rfl
 | int _=>obtain⟨t,rfl⟩:=r; rfl
 | str _=>obtain⟨t,rfl⟩:=r; rfl
 | KL _=>obtain⟨t,rfl⟩:=r; rfl
 | MQ _=>obtain⟨t,rfl⟩:=r; rfl
 | ref _=>cases r; rfl
 | ty _=>cases r; rfl
theorem RelV.inj{x y:V}{u:Value}(r:RelV x u)(q:RelV y u):x=y:=a6 (r.abs.symm.trans q.abs)
theorem Vals.inj:∀ {xs ys:List V} {us:List Value},Vals xs us->Vals ys us->xs=ys:=by
 intro xs ys us h;induction h generalizing ys with
 | nil=>intro k; cases k; rfl
 | cons r t ih =>
  intro k;cases k with
  | cons r' t'=>rw [r.inj r',ih t']
section
variable {X:Cx} {pins:List (Addr×Obj)} {σ:St} {H:Hp} {s:ak} {a:Addr} {xs ys:List V}
theorem vW.of{K:ah}(h:H a=some (.lst xs)):vW K H a xs:=.inl (.inl h)
theorem u6.of{K:ah}(h:H a=some (.tup xs)):u6 K H a xs:=.inl (.inl h)
theorem Inv.list(I:Inv X pins σ H s)(h:vW X.K H a xs):∃ its:List Value,Vals xs its/\PlainL s.heap a its.toArray/\xs.length<=aX:=by
 rcases h with h | ⟨o,its,n,hk,hc,hd,hs,hz,r⟩
 ·obtain⟨z,its,n,r,e⟩:=h.ok I.dA;exact⟨its,r,⟨_,n,e,rfl,rfl,rfl⟩,z⟩
 ·refine⟨its.toList,r,⟨o,n,I.B0 a o hk,hc,hd,by simpa using hs⟩,?_⟩;have e:=r.length;simp only [eW] at e;lia
theorem Inv.tuple(I:Inv X pins σ H s)(h:u6 X.K H a xs):∃ its:List Value,Vals xs its/\IsTup s.heap a its.toArray/\xs.length<=aX:=by
 rcases h with h | ⟨o,its,n,hk,hc,hs,hz,r⟩
 ·obtain⟨z,its,r,p⟩:=h.ok I.dA;exact⟨its,r,p,z⟩
 ·refine⟨its.toList,r,⟨o,I.B0 a o hk,hc,n,by simpa using hs⟩,?_⟩;have e:=r.length;simp only [eW] at e;lia
theorem Inv.Fd(I:Inv X pins σ H s)(h:vW X.K H a xs)(h':vW X.K H a ys):xs=ys:=by
 obtain⟨its,r,⟨o,n,e,_,_,d⟩,_⟩:=I.list h;obtain⟨its',r',⟨o',n',e',_,_,d'⟩,_⟩:=I.list h';rw [e] at e'; cases e';rw [d] at d';injection d' with d1 _
 have:its=its':=by simpa using congrArg Array.toList d1
 subst this;exact r.inj r'
theorem Inv.CB(I:Inv X pins σ H s)(h:u6 X.K H a xs)(h':u6 X.K H a ys):xs=ys:=by
 obtain⟨its,r,⟨o,e,_,n,d⟩,_⟩:=I.tuple h;obtain⟨its',r',⟨o',e',_,n',d'⟩,_⟩:=I.tuple h';rw [e] at e'; cases e';rw [d] at d';injection d' with d1 _
 have:its=its':=by simpa using congrArg Array.toList d1
 subst this;exact r.inj r'
end
noncomputable abbrev Cx.vr(X:Cx)(E:Value->ak->Prop):Cx:={ X with xe:=E }
noncomputable abbrev Cx.GF(X:Cx):Cx:=X.vr fun _ _=>False
theorem Cx.Ok.vr{X:Cx}(ok:X.Ok)(E:Value->ak->Prop):(X.vr E).Ok :=
 ⟨ok.mod,ok.kind,ok.glob,ok.blt,ok.above,ok.inj,ok.has,ok.MY,ok.hd,ok.frames,ok.Nk,ok.NS,ok.bs,ok.Iv,ok.E5,ok.FK,ok.uH,ok.Ll⟩
theorem Cx.Ok.nh{X:Cx}{E:Value->ak->Prop}(ok:(X.vr E).Ok):X.Ok :=
 ⟨ok.mod,ok.kind,ok.glob,ok.blt,ok.above,ok.inj,ok.has,ok.MY,ok.hd,ok.frames,ok.Nk,ok.NS,ok.bs,ok.Iv,ok.E5,ok.FK,ok.uH,ok.Ll⟩
section
variable {X:Cx} {pins:List (Addr×Obj)} {σ:St} {H:Hp} {s:ak} {E:Value->ak->Prop}
theorem Inv.vr(I:Inv X pins σ H s)(E:Value->ak->Prop):Inv (X.vr E) pins σ H s:=⟨I.ok.vr E,I.os,I.bare,I.base,I.loc,I.cell,I.free,I.mG,I.pin,I.dA,I.len⟩
theorem Inv.nh(I:Inv (X.vr E) pins σ H s):Inv X pins σ H s:=⟨I.ok.nh,I.os,I.bare,I.base,I.loc,I.cell,I.free,I.mG,I.pin,I.dA,I.len⟩
theorem SP.nh{D:Ends}{f:Flow}{s':ak}(h:SP (X.vr E) pins D f s'):SP X pins D f s':=by
 cases f with
 | next=>obtain⟨hW,H',I,q⟩:=h; exact⟨hW,H',I.nh,q⟩
 | brk=>obtain⟨hW,H',I,q⟩:=h; exact⟨hW,H',I.nh,q⟩
 | cont=>obtain⟨hW,H',I,q⟩:=h; exact⟨hW,H',I.nh,q⟩
 | ret u=>obtain⟨v,hW,H',I,r,q⟩:=h; exact⟨v,hW,H',I.nh,r,q⟩
theorem Lo.GF{st:List Stmt}{t:TS}(h:Lo X.GF st t):Lo X st t:=fun pins s σ H D I hw =>
 pI (h pins s σ H D (I.vr _) hw) (fun _ _ q=>q.nh) fun _ _ z=>bx z
end
section
variable {X:Cx} {st:Stmt} {rest:List Stmt} {t u:TS} {e:Expr} {te:TE} {pos:Pos}
theorem Inv.quiet{pins:List (Addr×Obj)}{σ:St}{H:Hp}{s:ak}(I:Inv X pins σ H s):interactive X.env=false:=by simp [interactive,I.ok.kind]
end
noncomputable abbrev Qe:=V->V->V->Hp->(Hp->Prop)->Prop
noncomputable def Qg(X:Cx)(t:Qe):Prop :=
 ∀ (pins:List (Addr×Obj)) (s:ak) (σ:St) (H:Hp) (o i v:V) (ov iv u:Value) (Q:Hp->Prop),Inv X pins σ H s->RelV o ov->RelV i iv->RelV v u->t o i v H Q ->
  wpAny (model X.prog X.w) X.A (setItem ov iv u) (fun _ s'=>∃ H',Inv X pins σ H' s'/\Q H') X.xe s
structure It where
 go:Nat->Hp->Prop
 Qm:Nat->Hp->V->Hp->Prop
 stop:Nat->Hp->Prop
noncomputable def sJ(X:Cx)(pins:List (Addr×Obj))(H:Hp)(b:Addr):Prop :=
 H b=none/\b≠X.env.locals/\b∉X.fs/\(b∈X.ex\/X.kq.heap.objs.size<=b)/\(∀ x c,X.env.cells.lookup x=some c->c≠b)/\∀ p∈X.pn++pins,p.1≠b
theorem Inv.Ik{X:Cx}{pins:List (Addr×Obj)}{σ:St}{H H':Hp}{s:ak}{b:Addr}(I:Inv X pins σ H s)(hb:s.heap.objs.size<=b)(hn:H' b=none):sJ X pins H' b:=by
 refine⟨hn,yi (a8 I.lt hb),I.O5 hb,.inr (bw I.sz hb),fun x c e z=>?_,fun p hp z=>?_⟩
 ·obtain⟨v,q⟩:=I.cell x c e;exact absurd (a8 q.lt (by rw [z]; exact hb)) (fF _)
 ·exact absurd (a8 (aL (I.pin p hp).1) (by rw [z]; exact hb)) (fF _)
structure Turn(P:bC)(w:World)(K:ah)(tg:Expr)(J:It)(fp:List Addr)(it:Addr)(tn:Nat->Heap->Prop):Prop where
 mem:it∈fp
 obj:∀ i h,tn i h->∀ b∈fp,∃ o,h.get? b=some o/\∀ v,o.data≠.cell v
 keep:∀ i h h',tn i h->(∀ b∈fp,∀ o,h.get? b=some o->h'.get? b=some o)->tn i h'
 item:∀ (X:Cx),X.prog=P->X.w=w->X.K=K->X.calm=true->∀ (i:Nat) (pins:List (Addr×Obj)) (s:ak) (σ:St) (H:Hp) (E:Value->ak->Prop),Inv X pins σ H s->(∀ b∈fp,sJ X pins H b)->tn i s.heap->J.go i H ->
  wpAny (model P w) X.A (DY (.ref it)) (fun r s1=>∃ u,r=some u /\
   wpAny (model P w) X.A (tM tg (.ref it) u) (fun _ s2=>∃ x H',Inv X pins σ H' s2/\RelV x u/\J.Qm i H x H'/\tn (i+1) s2.heap/\∀ b∈fp,H' b=none) E s1) E s
 done:∀ (X:Cx),X.prog=P->X.w=w->X.K=K->X.calm=true->∀ (i:Nat) (pins:List (Addr×Obj)) (s:ak) (σ:St) (H:Hp) (E:Value->ak->Prop),Inv X pins σ H s->(∀ b∈fp,sJ X pins H b)->tn i s.heap->J.stop i H ->
  wpAny (model P w) X.A (DY (.ref it)) (fun r s1=>r=none/\Inv X pins σ H s1) E s
 self:∀ (A:cF) (i:Nat) (s:ak) (Q:Value->ak->Prop) (E:Value->ak->Prop),tn i s.heap->Q (.ref it) s->wpAny (model P w) A (pyIter (.ref it)) Q E s
noncomputable abbrev TI:=St->Hp->(It->Hp->Prop)->Prop
noncomputable def U5(X:Cx)(pins:List (Addr×Obj))(σ:St)(tg:Expr)(R:It->Hp->Prop)(IU:Value)(s2:ak):Prop :=
 ∃ (it:Addr) (fp:List Addr) (tn:Nat->Heap->Prop) (J:It) (H':Hp),IU=.ref it/\Inv X pins σ H' s2/\Turn X.prog X.w X.K tg J fp it tn/\tn 0 s2.heap/\(∀ b∈fp,sJ X pins H' b)/\R J H'
theorem FC{M:Model}{A:cF}{E:Value->ak->Prop}{s:ak}{tg:Expr}{it:Addr}{u:Value}{o:Obj}{n:String}{vs:Array Value}{Q:Unit->ak->Prop}(ho:s.heap.get? it=some o)(hc:o.cls=.type n)(hd:o.data=.fields vs)
    (hn:["enumerate","zip","dict_itemiterator","dict_reverseitemiterator","odict_iterator","itertools.zip_longest","itertools.pairwise"].contains n=false) (hQ:Q () s):wpAny M A (tM tg (.ref it) u) Q E s:=by
  unfold tM;cases tg <;> first
    | exact a0 hQ
    | (cases u <;> first
        | exact a0 hQ
        | (refine ar (wpAny_load ho ?_)
           rw [hc,hd];show wpAny M A (if (["enumerate","zip","dict_itemiterator","dict_reverseitemiterator","odict_iterator","itertools.zip_longest","itertools.pairwise"].contains n&&vs[0]? == some (oJ _))=true then _ else _) Q E s;rw [if_neg (by intro h; rw [hn,Bp] at h; cases h)];exact a0 hQ))
noncomputable def Vb(K:ah)(a:Addr):It :=
 ⟨fun i H=>∃ xs x,vW K H a xs/\xs[i]?=some x,fun i H x H'=>H'=H/\∀ xs,vW K H a xs->xs[i]?=some x,fun i H=>∃ xs,vW K H a xs/\xs.length<=i⟩
noncomputable def Va(K:ah)(a:Addr):It :=
 ⟨fun i H=>∃ xs x,u6 K H a xs/\xs[i]?=some x,fun i H x H'=>H'=H/\∀ xs,u6 K H a xs->xs[i]?=some x,fun i H=>∃ xs,u6 K H a xs/\xs.length<=i⟩
noncomputable def Qj(lo:Int)(n:Nat):It:=⟨fun i _=>i < n,fun i H x H'=>H'=H/\x=.int (lo+i),fun i _=>n<=i⟩
theorem CA{P:bC}{w:World}{K:ah}{tg:Expr}(a it:Addr):Turn P w K tg (Vb K a) [it] it (fun i h=>h.IsListIter it a i) where
 mem:=by simp
 obj:=fun i h st b hb=>by
  have e:b=it:=by simpa using hb
  subst e;obtain⟨o,e,c,d⟩:=st;exact⟨o,e,fun v z=>by rw [d] at z; cases z⟩
 keep:=fun i h h' st k=>st.at fun o e=>k it (by simp) o e
 item:=by
  intro X hP hw hK hc i pins s σ H E I hf st hg;subst hP hw hK;obtain⟨xs,x,hq,hx⟩:=hg;obtain⟨its,rv,p,hz⟩:=I.list hq;obtain⟨u,hu,ru⟩:=rv.get hx;obtain⟨f0,f1,f2,f3,f4,f5⟩:=hf it (by simp);refine wpAny_pyNext_list_item st p.isList (x:=u) (by simpa using hu) fun h' zW sb=>?_;have I1:Inv X pins σ H { s with heap:=h' }:=I.turned (t':=s.toks) (fun b o hb e=>(sb.2 b hb).trans e) f0 f1 f3 f4 f5;obtain⟨o,e,c,d⟩:=id zW;exact⟨u,rfl,FC (s:={ s with heap:=h' }) e c d (by decide) ⟨x,H,I1,ru,⟨rfl,fun ys hy=>by rw [I.Fd hy hq]; exact hx⟩,zW,fun b hb=>(hf b hb).1⟩⟩
 done:=by
  intro X hP hw hK hc i pins s σ H E I hf st hg;subst hP hw hK;obtain⟨xs,hq,hx⟩:=hg;obtain⟨its,rv,p,hz⟩:=I.list hq;obtain⟨f0,f1,f2,f3,f4,f5⟩:=hf it (by simp);have hl:=rv.length;exact wpAny_pyNext_list_end (I.ok.hd hc) st p.isList (by simp; lia) fun h' eb=>⟨rfl,I.turned (t':=s.toks) (fun b o hb e=>eb b o hb e) f0 f1 f3 f4 f5⟩
 self:=fun _ _ _ _ _ st h=>wpAny_pyIter_listiter st h
theorem As{P:bC}{w:World}{K:ah}{tg:Expr}(a it:Addr):Turn P w K tg (Va K a) [it] it (fun i h=>h.IsTupleIter it a i) where
 mem:=by simp
 obj:=fun i h st b hb=>by
  have e:b=it:=by simpa using hb
  subst e;obtain⟨o,e,c,d⟩:=st;exact⟨o,e,fun v z=>by rw [d] at z; cases z⟩
 keep:=fun i h h' st k=>st.at fun o e=>k it (by simp) o e
 item:=by
  intro X hP hw hK hc i pins s σ H E I hf st hg;subst hP hw hK;obtain⟨xs,x,hq,hx⟩:=hg;obtain⟨its,rv,p,hz⟩:=I.tuple hq;obtain⟨u,hu,ru⟩:=rv.get hx;obtain⟨f0,f1,f2,f3,f4,f5⟩:=hf it (by simp);refine wpAny_pyNext_tuple_item st (show s.heap.IsTuple a its.toArray from p) (x:=u) (by simpa using hu) fun h' zW sb=>?_;have I1:Inv X pins σ H { s with heap:=h' }:=I.turned (t':=s.toks) (fun b o hb e=>(sb.2 b hb).trans e) f0 f1 f3 f4 f5;obtain⟨o,e,c,d⟩:=id zW;exact⟨u,rfl,FC (s:={ s with heap:=h' }) e c d (by decide) ⟨x,H,I1,ru,⟨rfl,fun ys hy=>by rw [I.CB hy hq]; exact hx⟩,zW,fun b hb=>(hf b hb).1⟩⟩
 done:=by
  intro X hP hw hK hc i pins s σ H E I hf st hg;subst hP hw hK;obtain⟨xs,hq,hx⟩:=hg;obtain⟨its,rv,p,hz⟩:=I.tuple hq;obtain⟨f0,f1,f2,f3,f4,f5⟩:=hf it (by simp);have hl:=rv.length;exact wpAny_pyNext_tuple_end (I.ok.hd hc) st (show s.heap.IsTuple a its.toArray from p) (by simp; lia) fun h' eb=>⟨rfl,I.turned (t':=s.toks) (fun b o hb e=>eb b o hb e) f0 f1 f3 f4 f5⟩
 self:=fun _ _ _ _ _ st h=>wpAny_pyIter_tupleiter st h
theorem Au{P:bC}{w:World}{K:ah}{tg:Expr}(it:Addr)(lo:Int)(n:Nat):Turn P w K tg (Qj lo n) [it] it (fun i h=>IsRangeIter h it (lo+(i:Nat) * 1) ((n:Int) - (i:Nat)) 1) where
 mem:=by simp
 obj:=fun i h st b hb=>by
  have e:b=it:=by simpa using hb
  subst e;exact⟨_,st,fun v z=>by
   have z':Data.fields _=Data.cell v:=z;cases z'⟩
 keep:=fun i h h' st k=>k it (by simp) _ st
 item:=by
  intro X hP hw hK hc i pins s σ H E I hf st hg;subst hP hw hK;obtain⟨f0,f1,f2,f3,f4,f5⟩:=hf it (by simp);have W:=Walks.range (prog:=X.prog) (w:=X.w) (I.ok.hd hc) it lo 1 n;refine W.item i s _ _ hg st fun v h' tk hv zW kk=>?_;obtain⟨t,rfl⟩:=hv;have I1:Inv X pins σ H { s with heap:=h',toks:=tk }:=I.turned (fun b o hb e=>kk b o (by simpa using hb) e) f0 f1 f3 f4 f5;refine⟨_,rfl,FC (s:={ s with heap:=h',toks:=tk }) (n:="range_iterator") zW rfl rfl (by decide) ⟨.int (lo+i),H,I1,⟨t,?_⟩,⟨rfl,rfl⟩,zW,fun b hb=>(hf b hb).1⟩⟩;rw [Int.mul_one]
 done:=by
  intro X hP hw hK hc i pins s σ H E I hf st hg;subst hP hw hK;obtain⟨f0,f1,f2,f3,f4,f5⟩:=hf it (by simp);exact wpAny_pyNext_range_end (I.ok.hd hc) st (by have:n<=i:=hg; lia) fun h' eb=>⟨rfl,I.turned (t':=s.toks) (fun b o hb e=>eb b o hb e) f0 f1 f3 f4 f5⟩
 self:=fun _ _ _ _ _ st h=>wpAny_pyIter_rangeiter st h
section
variable {X:Cx} {tg:Expr}
theorem EK{pins:List (Addr×Obj)}{σ:St}{H:Hp}{s:ak}{R:It->Hp->Prop}{E:Value->ak->Prop}{lo hi:Int}{t u v:Tok}{tk:Nat}(I:Inv X pins σ H s)(h1:-(2 ^ 62)<=lo)(h2:lo < 2 ^ 62)(h3:-(2 ^ 62)<=hi)(h4:hi < 2 ^ 62)
  (q:R (Qj lo (hi - lo).toNat) H):wpAny (model X.prog X.w) X.A (pyIter (.ref s.heap.objs.size)) (U5 X pins σ tg R) E { s with heap:=s.heap.push { cls:=.type "range",data:=.fields #[.int lo t,.int hi u,.int 1 v] },toks:=tk }:=by
 refine wpAny_pyIter_range (IsRange.new ..) (small_one h1 h2 h3 h4) ?_;have I1:Inv X pins σ H { s with heap:=s.heap.push { cls:=.type "range",data:=.fields #[.int lo t,.int hi u,.int 1 v] },toks:=tk }:=I.kept fun b o e=>ax _ e
 refine⟨(s.heap.push { cls:=.type "range",data:=.fields #[.int lo t,.int hi u,.int 1 v] }).objs.size,[(s.heap.push { cls:=.type "range",data:=.fields #[.int lo t,.int hi u,.int 1 v] }).objs.size],_,_,H,rfl,
  I1.kept (t':=tk) fun b o e=>ax _ e,Au _ lo (hi - lo).toNat,?_,fun b hb=>?_,q⟩
 ·have e1:lo+((0:Nat):Int) * 1=lo:=by simp
  have e2:(((hi - lo).toNat:Nat):Int) - ((0:Nat):Int)=vp lo hi 1:=by rw [rangeSize_one]; split <;> lia
  show IsRangeIter _ _ (lo+((0:Nat):Int) * 1) ((((hi - lo).toNat:Nat):Int) - ((0:Nat):Int)) 1;rw [e1,e2];exact ba _ rfl
 ·have e:b=(s.heap.push { cls:=.type "range",data:=.fields #[.int lo t,.int hi u,.int 1 v] }).objs.size:=by simpa using hb
  subst e;exact I1.Ik (aG _) (I1.dA.fresh (aG _))
noncomputable def nK(fp:List Addr)(h:Heap):List (Addr×Obj):=fp.filterMap fun b=>(h.get? b).map fun o=>(b,o)
theorem lW{fp:List Addr}{h:Heap}{b:Addr}{o:Obj}(hb:b∈fp)(e:h.get? b=some o):(b,o)∈nK fp h:=List.mem_filterMap.mpr ⟨b,hb,by rw [e]; rfl⟩
theorem CQ{fp:List Addr}{h:Heap}{p:Addr×Obj}(hp:p∈nK fp h):p.1∈fp/\h.get? p.1=some p.2:=by
 obtain⟨b,hb,e⟩:=List.mem_filterMap.mp hp;cases q:h.get? b with
 | none=>rw [q] at e; cases e
 | some o =>
  rw [q] at e;have e':(b,o)=p:=a6 e;subst e';exact⟨hb,q⟩
theorem Inv.pinned{pins:List (Addr×Obj)}{σ:St}{H:Hp}{s:ak}{fp:List Addr}(I:Inv X pins σ H s)(hf:∀ b∈fp,sJ X pins H b)(ho:∀ b∈fp,∃ o,s.heap.get? b=some o/\∀ v,o.data≠.cell v):Inv X (pins++nK fp s.heap) σ H s :=
 I.BL fun p hp=>(List.mem_append.mp hp).elim (fun z=>I.pin p (cz _ z)) fun z=>by
  obtain⟨hb,e⟩:=CQ z;obtain⟨f0,f1,f2,_⟩:=hf p.1 hb;obtain⟨o,e',d⟩:=ho p.1 hb;rw [e] at e'; cases e';exact⟨e,f0,f1,f2,d⟩
theorem Inv.pO{pins pl:List (Addr×Obj)}{σ:St}{H:Hp}{s:ak}(I:Inv X (pins++pl) σ H s):Inv X pins σ H s:=I.BL fun p hp=>I.pin p (cz _ (fK _ hp))
end
noncomputable abbrev R2:=V->V->Hp->VK->Prop
noncomputable def DQ(X:Cx)(f:Value->Value->Sem Value)(r:R2):Prop :=
 ∀ (pins:List (Addr×Obj)) (s:ak) (σ:St) (H:Hp) (x y:V) (v u:Value) (Q:VK),Inv X pins σ H s->RelV x v->RelV y u->r x y H Q ->
  wpAny (model X.prog X.w) X.A (f v u) (EP X pins σ Q) X.xe s
noncomputable def Rp(X:Cx)(f:Value->Sem Value)(r:V->Hp->VK->Prop):Prop :=
 ∀ (pins:List (Addr×Obj)) (s:ak) (σ:St) (H:Hp) (x:V) (v:Value) (Q:VK),Inv X pins σ H s->RelV x v->r x H Q ->
  wpAny (model X.prog X.w) X.A (f v) (EP X pins σ Q) X.xe s
noncomputable def Ji(X:Cx)(f:Value)(r:List V->Hp->VK->Prop):Prop :=
 ∀ (pins:List (Addr×Obj)) (s:ak) (σ:St) (H:Hp) (xs:List V) (us:List Value) (Q:VK),Inv X pins σ H s->Vals xs us->r xs H Q ->
  wpAny (model X.prog X.w) X.A (call f us) (EP X pins σ Q) X.xe s
noncomputable def Qd(X:Cx)(r:V->Hp->(Bool->Hp->Prop)->Prop):Prop :=
 ∀ (pins:List (Addr×Obj)) (s:ak) (σ:St) (H:Hp) (x:V) (v:Value) (Q:Bool->Hp->Prop),Inv X pins σ H s->RelV x v->r x H Q ->
  wpAny (model X.prog X.w) X.A (truthy v) (TP X pins σ Q) X.xe s
noncomputable def rI(C:Int->Int->Prop)(g:Int->Int->V):R2:=fun x y H Q=>∃ i j,x=.int i/\y=.int j/\C i j/\Q (g i j) H
noncomputable def LP(g:Int->Int->V):R2:=fun x y H Q=>∃ i j,x=.int i/\y=.int j/\Q (g i j) H
noncomputable def rU(g:Int->V):V->Hp->VK->Prop:=fun x H Q=>∃ i,x=.int i/\Q (g i) H
section
variable {X:Cx} {a b c:Expr} {ta tb tc:TE} {pos:Pos}
theorem OJ{f:Value->Value->Sem Value}{C:Int->Int->Prop}{g:Int->Int->Int}
  (rule:∀ (i j:Int) (t u:Tok) (s:ak) (Q:Value->ak->Prop) (E:Value->ak->Prop),C i j->Q (.int (g i j) s.toks) { s with toks:=s.toks+1 }->wpAny (model X.prog X.w) X.A (f (.int i t) (.int j u)) Q E s) :
  DQ X f (rI C fun i j=>.int (g i j)):=by
 intro pins s σ H x y v u Q I rx ry h;obtain⟨i,j,rfl,rfl,hc,q⟩:=h;obtain⟨t,rfl⟩:=rx;obtain⟨t',rfl⟩:=ry;exact rule i j t t' s _ _ hc ⟨.int (g i j),H,I.tok _,⟨_,rfl⟩,q⟩
theorem LW{f:Value->Value->Sem Value}{g:Int->Int->Int}
  (rule:∀ (i j:Int) (t u:Tok) (s:ak) (Q:Value->ak->Prop) (E:Value->ak->Prop),Q (.int (g i j) s.toks) { s with toks:=s.toks+1 }->wpAny (model X.prog X.w) X.A (f (.int i t) (.int j u)) Q E s) :
  DQ X f (LP fun i j=>.int (g i j)):=by
 intro pins s σ H x y v u Q I rx ry h;obtain⟨i,j,rfl,rfl,q⟩:=h;obtain⟨t,rfl⟩:=rx;obtain⟨t',rfl⟩:=ry;exact rule i j t t' s _ _ ⟨.int (g i j),H,I.tok _,⟨_,rfl⟩,q⟩
theorem OK{f:Value->Value->Sem Value}{g:Int->Int->Bool}
  (rule:∀ (i j:Int) (t u:Tok) (s:ak) (Q:Value->ak->Prop) (E:Value->ak->Prop),Q (.bool (g i j)) s->wpAny (model X.prog X.w) X.A (f (.int i t) (.int j u)) Q E s) :
  DQ X f (LP fun i j=>.bl (g i j)):=by
 intro pins s σ H x y v u Q I rx ry h;obtain⟨i,j,rfl,rfl,q⟩:=h;obtain⟨t,rfl⟩:=rx;obtain⟨t',rfl⟩:=ry;exact rule i j t t' s _ _ ⟨.bl (g i j),H,I,rfl,q⟩
noncomputable def Qk(i j:Int):Prop:=0 < j/\j < 1073741824
noncomputable def K4(i j:Int):Prop:=(-(2 ^ 64) < i/\i < 2 ^ 64)\/(-(2 ^ 64) < j/\j < 2 ^ 64)
theorem K4.ok{i j:Int}(h:K4 i j):IntMulOk i j:=by
 rcases h with ⟨h1,h2⟩ | ⟨h1,h2⟩
 ·exact .of_left (intBits_le_64 h1 h2)
 ·exact .of_right (intBits_le_64 h1 h2)
theorem JR:DQ X (iR .Add) (LP fun i j=>.int (i+j)):=LW fun _ _ _ _ _ _ _ q=>add_int q
theorem JN:DQ X (iR .Sub) (LP fun i j=>.int (i - j)):=LW fun _ _ _ _ _ _ _ q=>sub_int q
theorem JO:DQ X (iR .Mult) (rI K4 fun i j=>.int (i * j)):=OJ fun _ _ _ _ _ _ _ hc q=>mul_int q hc.ok
theorem Hx:DQ X (iR .FloorDiv) (rI Qk fun i j=>.int (i / j)):=OJ fun i j _ _ _ _ _ hc q=>by
 have h1:(0:Int) < j:=hc.1;have h2:j < 1073741824:=hc.2;exact floordiv_int (by lia) (by rw [Int.fdiv_eq_ediv_of_nonneg i (by lia)]; exact q) (.inl (PyProof.noPylong_small (by lia)))
theorem JP:DQ X (iR .Mod) (rI (fun _ j=>0 < j) fun i j=>.int (i % j)):=OJ fun i j _ _ _ _ _ hc q=>by
 have h1:(0:Int) < j:=hc;exact mod_int' (by lia) (by rw [Int.fmod_eq_emod_of_nonneg i (by lia)]; exact q)
theorem RF{f:Value->Sem Value}{g:Int->Int}
  (rule:∀ (i:Int) (t:Tok) (s:ak) (Q:Value->ak->Prop) (E:Value->ak->Prop),Q (.int (g i) s.toks) { s with toks:=s.toks+1 }->wpAny (model X.prog X.w) X.A (f (.int i t)) Q E s) :
  Rp X f (rU fun i=>.int (g i)):=by
 intro pins s σ H x v Q I rx h;obtain⟨i,rfl,q⟩:=h;obtain⟨t,rfl⟩:=rx;exact rule i t s _ _ ⟨.int (g i),H,I.tok _,⟨_,rfl⟩,q⟩
theorem Jn:Rp X (unaryOp .USub) (rU fun i=>.int (-i)):=RF fun _ _ _ _ _ q=>neg_int q
end
section
variable {X:Cx} {a b c:Expr} {ta tb tc:TE} {pos:Pos}
theorem LV:DQ X (cX .Lt) (LP fun i j=>.bl (decide (i < j))):=OK fun _ _ _ _ _ _ _ q=>lt_int q
theorem fJ(b:Expr){op:CmpOp}(h:autoParam (op≠.In) Ad._auto_1)(h2:autoParam (op≠.NotIn) Ad._auto_1):behindInMarks op b=false:=by
 have e1:(op == CmpOp.In)=false:=by cases op <;> first | rfl | exact absurd rfl h
 have e2:(op == CmpOp.NotIn)=false:=by cases op <;> first | rfl | exact absurd rfl h2
 cases b with
 | Set es k _ =>
  show (k == 0&&(op == .In||op == .NotIn)&&es.all (constantsAlone 8))=false;rw [e1,e2,Bool.or_false,Bq,Bp]
 | _=>rfl
noncomputable def KR(K:ah)(x:V)(H:Hp)(k:Bool):Prop :=
 match x with
 | .cR=>k=false
 | .bl b=>k=b
 | .int i=>k=(i != 0)
 | .str y=>y.length<=aX/\k=((y.length:Int) != 0)
 | .KL y=>y.size<=aX/\k=((y.size:Int) != 0)
 | .ref p=>(∃ xs,vW K H p xs/\k=!xs.isEmpty)\/(∃ xs,u6 K H p xs/\k=!xs.isEmpty)\/∃ aY,H p=some (.dK aY)/\k=!aY.isEmpty
 | _=>False
theorem AO{κ:Type}{aY:List (κ×V)}{vs:List (κ×Value)}(r:KV aY vs):(!vs.isEmpty)=!aY.isEmpty:=by
 cases r <;> rfl
theorem uD{xs:List V}{its:List Value}(r:Vals xs its):(!its.toArray.isEmpty)=!xs.isEmpty:=by
 cases r <;> simp
theorem um:(aX:Nat) < 2 ^ 63:=by rw [cf]; decide
theorem Jq:Qd X (fun x H Q=>∃ k,KR X.K x H k/\Q k H):=by
 intro pins s σ H x v Q I rx h;obtain⟨k,e,q⟩:=h;have hl:=um;have hs:aX=16777216:=cf;cases x with
 | cR =>
  cases rx;have e':k=false:=e;subst e';exact truthy_none ⟨H,I,q⟩
 | bl b =>
  cases rx;have e':k=b:=e;subst e';exact iP ⟨H,I,q⟩
 | int i =>
  obtain⟨t,rfl⟩:=rx;have e':k=(i != 0):=e;subst e';exact PySem.P.truthy_int ⟨H,I,q⟩
 | str y =>
  obtain⟨t,rfl⟩:=rx;obtain⟨hy,e'⟩:y.length<=aX/\k=((y.length:Int) != 0):=e;subst e';exact PySem.P.truthy_str (by lia) ⟨H,I.tok _,q⟩
 | KL y =>
  obtain⟨t,rfl⟩:=rx;obtain⟨hy,e'⟩:y.size<=aX/\k=((y.size:Int) != 0):=e;subst e';exact PySem.W.truthy_bytes (by lia) ⟨H,I.tok _,q⟩
 | ref p =>
  cases rx;have e':(∃ xs,vW X.K H p xs/\k=!xs.isEmpty)\/(∃ xs,u6 X.K H p xs/\k=!xs.isEmpty)\/∃ aY,H p=some (.dK aY)/\k=!aY.isEmpty:=e;rcases e' with ⟨xs,hx,e'⟩ | ⟨xs,hx,e'⟩ | ⟨aY,hx,e'⟩
  ·subst e';obtain⟨its,r,pl,hz⟩:=I.list hx;have hlen:=r.length;exact wpAny_truthy_list pl.isList (by simp only [aI]; lia) ⟨H,I.tok _,by rw [uD r]; exact q⟩
  ·subst e';obtain⟨its,r,pl,hz⟩:=I.tuple hx;have hlen:=r.length;exact truthy_tuple pl (by simp only [aI]; lia) ⟨H,I.tok _,by rw [uD r]; exact q⟩
  ·subst e';obtain⟨hz,hS,vs,r,m⟩:aY.length<=aX/\(p == gX)=false/\∃ vs,KV aY vs/\s.heap.DictOf (eP X.prog X.w) p vs:=I.dA p _ hx;have hlen:aY.length=vs.length:=sL r;exact z0 hS m (by lia) ⟨H,I.tok _,by rw [AO r]; exact q⟩
 | _=>exact(show False from e).elim
theorem AD:DQ X (iR .Add) (fun x y H Q=>∃ i j,x=.str i/\y=.str j/\i.length+j.length<=aX/\Q (.str (i++j)) H):=by
 intro pins s σ H x y v u Q I rx ry h;obtain⟨i,j,rfl,rfl,hz,q⟩:=h;obtain⟨t,rfl⟩:=rx;obtain⟨t',rfl⟩:=ry;exact add_str (fun t' tk=>⟨.str (i++j),H,I.tok _,⟨_,rfl⟩,q⟩) hz
theorem vals1{x:V}{us:List Value}(r:Vals [x] us):∃ u,us=[u]/\RelV x u:=by
 cases r with
 | cons r1 r2=>cases r2; exact⟨_,rfl,r1⟩
theorem vals2{x y:V}{us:List Value}(r:Vals [x,y] us):∃ u w',us=[u,w']/\RelV x u/\RelV y w':=by
 cases r with
 | cons r1 r2 =>
  cases r2 with
  | cons r3 r4=>cases r4; exact⟨_,_,rfl,r1,r3⟩
noncomputable def Nc(K:ah)(x:V)(H:Hp)(n:Nat):Prop :=
 match x with
 | .str y=>y.length<=aX/\n=y.length
 | .KL y=>y.size<=aX/\n=y.size
 | .ref p=>(∃ xs,vW K H p xs/\n=xs.length)\/∃ xs,u6 K H p xs/\n=xs.length
 | _=>False
theorem Gb:Ji X (.builtin "len") (fun xs H Q=>∃ x n,xs=[x]/\Nc X.K x H n/\Q (.int n) H):=by
 intro pins s σ H xs us Q I r h;obtain⟨x,n,rfl,e,q⟩:=h;obtain⟨u,rfl,rx⟩:=vals1 r;have hl:=um;have hs:aX=16777216:=cf;cases x with
 | str y =>
  obtain⟨t,rfl⟩:=rx;obtain⟨hy,e'⟩:y.length<=aX/\n=y.length:=e;subst e';exact len_str (by lia) ⟨.int _,H,I.tok _,⟨_,rfl⟩,q⟩
 | KL y =>
  obtain⟨t,rfl⟩:=rx;obtain⟨hy,e'⟩:y.size<=aX/\n=y.size:=e;subst e';exact PySem.W.len_bytes (by lia) ⟨.int _,H,I.tok _,⟨_,rfl⟩,q⟩
 | ref p =>
  cases rx;have e':(∃ xs,vW X.K H p xs/\n=xs.length)\/∃ xs,u6 X.K H p xs/\n=xs.length:=e;rcases e' with ⟨xs,hx,e'⟩ | ⟨xs,hx,e'⟩
  ·subst e';obtain⟨its,r',pl,hz⟩:=I.list hx;have hlen:=r'.length;exact Calls.call_len_list pl.isList (by simp only [aI]; lia) ⟨.int xs.length,H,I.tok _,⟨_,by simp only [aI]; rw [hlen]⟩,q⟩
  ·subst e';obtain⟨its,r',pl,hz⟩:=I.tuple hx;have hlen:=r'.length;exact len_tuple pl (by simp only [aI]; lia) ⟨.int xs.length,H,I.tok _,⟨_,by simp only [aI]; rw [hlen]⟩,q⟩
 | _=>exact(show False from e).elim
end
structure U6(h:Heap)(x dx C:Addr)(mA:Str->Option Value):Prop where
 obj:h.get? x=some (PySem.W.instObj C dx)
 ns:h.Ns1 dx mA
 ne:dx≠x
theorem vX.some_of{v:V}{o:Option Value}(r:vX (some v) o):∃ u,o=some u/\RelV v u:=by
 cases o with
 | none=>exact(show False from r).elim
 | some u=>exact⟨u,rfl,r⟩
structure Vf(K:ah)(C:Addr):Prop where
 pg:PySem.W.plainGet K C Str.empty=true
 hd:PySem.W.hasDictIn K C=true
 po:PySem.W.plainOver K C=true
 sa:lK K (.ref C) "__setattr__" = some (some (.builtin "object.__setattr__"))
structure VF(K:ah)(C:Addr)(f:Str)(v:V)(u:Value):Prop where
 at_:lK K (.ref C) f=some (some u)
 rel:RelV v u
 get:GL K u "__get__" = some none
 cp:PySem.W.copiedNames.contains f=false
structure Meth(K:ah)(C:Addr)(m:Str)(f:Addr):Prop where
 at_:lK K (.ref C) m=some (some (.ref f))
 fn:PySem.W.isFn K (.ref f)=true
 kp:iq K (.ref f)=true
section
variable {X:Cx} {pins:List (Addr×Obj)} {σ:St} {H:Hp} {s:ak} {A:cF} {E:Value->ak->Prop} {Q:Value->ak->Prop} {c:Value} {b:Bool}
inductive u4 (K:ah) (H:Hp):V->Value->Prop where
 | cR:u4 K H .cR (.type "NoneType")
 | bl (x:Bool):u4 K H (.bl x) (.type "bool")
 | int (i:Int):u4 K H (.int i) (.type "int")
 | str (x:Str):u4 K H (.str x) (.type "str")
 | MQ (x:UInt64):u4 K H (.MQ x) (.type "float")
 | lst {a:Addr} {xs:List V} (e:H a=some (.lst xs)):u4 K H (.ref a) (.type "list")
 | lH {a:Addr} {o:Obj} {xs:List V} (e:H a=some (.lH o (.lst xs))):u4 K H (.ref a) (.type "list")
 | tup {a:Addr} {xs:List V} (e:H a=some (.tup xs)):u4 K H (.ref a) (.type "tuple")
 | dK {a:Addr} {aY:List (Key×V)} (e:H a=some (.dK aY)):u4 K H (.ref a) (.type "dict")
 | dT {a:Addr} {aY:List (List Key×V)} (e:H a=some (.dT aY)):u4 K H (.ref a) (.type "dict")
 | ins {a C dx:Addr} {fs:List (Str×V)} (e:H a=some (.ins C dx fs)) (cl:Vf K C) (ha:lK K (.ref C) "__class__" = some (some (.builtin "object.__class__")))
   (hn:GL K (.builtin "object.__class__") "__get__" = some (some (.builtin "getset_descriptor.__get__"))) (Vq:PySem.W.takesIn K (.builtin "object.__class__")=some true)
   (hm:PySem.W.mroIn K C (.type "object")=some true):u4 K H (.ref a) (.ref C)
end
structure iM(k:Nat)(A:cF):Prop where
 hd:A.handled=none
 dp:A.depth+3 * k+5 < GK
 un:A.units+16 * k+200 < cLine
theorem iM.mono{j k:Nat}{A:cF}(r:iM k A)(h:j<=k):iM j A:=⟨r.hd,by have:=r.dp; lia,by have:=r.un; lia⟩
theorem iM.deeper{k:Nat}{A:cF}(r:iM (k+1) A)(env:Env):iM k (A.deeper env) :=
 ⟨r.hd,by have:=r.dp; show A.depth+1+3 * k+5 < _; lia,by have:=r.un; show A.units+3+16 * k+200 < _; lia⟩
theorem iM.in1{k:Nat}{A:cF}(r:iM (k+1) A):iM k A.in1 :=
 ⟨r.hd,by have:=r.dp; show A.depth+3 * k+5 < _; lia,by have:=r.un; show A.units+1+16 * k+200 < _; lia⟩
theorem iM.depth{k:Nat}{A:cF}(r:iM k A):A.depth < GK:=by have:=r.dp; lia
theorem iM.units{k:Nat}{A:cF}(r:iM k A):A.units+64 < cLine:=by have:=r.un; lia
theorem iM.Ef{k:Nat}{A:cF}(r:iM k A):A.units < cLine:=by have:=r.un; lia
noncomputable abbrev Sp:=List V->Hp->VK->XK->Prop
noncomputable abbrev DS:=List Env->Hp->ak->XK->Value->ak->Prop
structure IB(P:bC)(w:World)(K:ah)(mg:Str->Option Value)(base:Heap)(A:cF)(outer:List Env)(s:ak)(H:Hp):Prop where
 frames:A.frames=some outer
 mod:Mod K mg base
 bs:∀ b o,base.get? b=some o->s.heap.get? b=some o/\H b=none
 Iv:base.objs.size<=s.heap.objs.size
 uH:s.heap.FunFrames base outer
 Ll:∀ b∈DN outer,H b=none
 dA:pG P w H s.heap
 bare:w4 s.gens
noncomputable def CE(outer:List Env)(P:bC)(w:World)(H:Hp)(s:ak)(Q:VK)(u:Value)(s':ak):Prop :=
 ∃ v H',s'.os=s.os/\w4 s'.gens/\Un (DN outer) [] H H' s.heap s'.heap/\pG P w H' s'.heap/\RelV v u/\Q v H'
noncomputable def CR(CX:DS)(outer:List Env)(P:bC)(w:World)(H:Hp)(s:ak)(Q:VK)(E:XK)(r:Result)(s':ak):Prop :=
 match r with
 | .ok (.ret u)=>CE outer P w H s Q u s'
 | .ok _=>False
 | .error e=>CX outer H s E e s'
structure fB(P:bC)(w:World)(K:ah)(mg:Str->Option Value)(base:Heap)(CX:DS)(k:Nat)(f:Addr)(fd:aB)(ps:List Str)(sp:Sp):Prop where
 len:∀ vs H Q E,sp vs H Q E->vs.length=ps.length
 run:∀ (A:cF) (outer:List Env) (s:ak) (H:Hp) (args:Args) (us:List Value) (vs:List V) (Q:VK) (E:XK),iM k A->IB P w K mg base A outer s H->BindsTo s fd args (ps.zip us)->Vals vs us->sp vs H Q E ->
  tP (model P w) A (.call (.ref f) args) (CR CX outer P w H s Q E) s
section
variable {X:Cx} {pins:List (Addr×Obj)} {σ:St} {H:Hp} {s s':ak}
theorem Inv.Qa(I:Inv X pins σ H s):IB X.prog X.w X.K X.mg X.base X.A X.stack s H :=
 ⟨I.ok.frames,I.ok.mod,I.bs,bw I.ok.Iv I.sz,I.stack,I.Bw,I.dA,I.bare⟩
theorem Inv.after{Q:VK}{u:Value}(I:Inv X pins σ H s)(h:CE X.stack X.prog X.w H s Q u s'):EP X pins σ Q u s':=by
 obtain⟨v,H',os,bare,un,dA,r,q⟩:=h;obtain⟨hh,g,d,t,Sh⟩:=s';obtain rfl:Sh=s.os:=os;exact⟨v,H',I.call (h':=hh) (g':=g) (d':=d) (t':=t) (ch:=[]) un dA bare (fun b z=>absurd z (by simp)),r,q⟩
end
noncomputable def Binds(K:ah)(fd:aB)(ps:List Str)(ds:List Value):Prop :=
 ∀ (s:ak) (us:List Value),K.In s.heap->(us++ds).length=ps.length->BindsTo s fd ⟨us,[]⟩ (ps.zip (us++ds))
theorem Binds.all{K:ah}{fd:aB}{ps:List Str}(h:∀ us:List Value,us.length=ps.length->bindArgs fd ⟨us,[]⟩=pure (ps.zip us)):Binds K fd ps []:=fun s us _ hl=>by
 rw [eE] at hl ⊢;exact .of_eq (h us hl)
noncomputable def Passes(CX:DS)(X:Cx)(E:XK):Prop:=∀ (pins:List (Addr×Obj)) (σ:St) (H:Hp) (s:ak) (e:Value) (s':ak),Inv X pins σ H s->CX X.stack H s E e s'->X.xe e s'
section
variable {X:Cx} {CX:DS} {k:Nat} {f C:Addr} {fd:aB} {ps:List Str} {sp:Sp} {NT:List V} {ds:List Value} {E:XK} {x m:Str} {p pos apos:Pos} {e o:Expr} {es:List Expr} {ta:TE} {t:TA}
theorem EB{pins:List (Addr×Obj)}{σ:St}{H:Hp}{s:ak}{Q:VK}{us:List Value}{vs:List V}(F:fB X.prog X.w X.K X.mg X.base CX k f fd ps sp)(hr:iM k X.A)(hb:Binds X.K fd ps ds)(hd:Vals NT ds)(hx:Passes CX X E)
  (I:Inv X pins σ H s) (r:Vals vs us) (h:sp (vs++NT) H Q E):wpAny (model X.prog X.w) X.A (call (.ref f) us) (EP X pins σ Q) X.xe s:=by
 have r2:Vals (vs++NT) (us++ds):=r.append hd;have hl:(us++ds).length=ps.length:=by rw [<-r2.length]; exact F.len _ _ _ _ h
 refine wpAny_call (codeAny_mono (F.run X.A X.stack s H ⟨us,[]⟩ (us++ds) (vs++NT) Q E hr I.Qa (hb s us I.B0 hl) r2 h) fun r s' hq=>?_);cases r with
 | error e=>exact hx pins σ H s e s' I hq
 | ok fl =>
  cases fl with
  | ret u=>exact I.after hq
  | next=>exact bx hq
  | brk=>exact bx hq
  | cont=>exact bx hq
structure Mk(K:ah)(C f:Addr):Prop where
 makes:PySem.W.makesIn K C=true
 init:lK K (.ref C) "__init__" = some (some (.ref f))
 fn:PySem.W.isFn K (.ref f)=true
 kp:iq K (.ref C)=true
end
section
variable {X:Cx} {CX:DS} {k:Nat} {f C:Addr} {fd:aB} {ps ks:List Str} {sp:Sp} {E:XK} {x m:Str} {p pos apos SG:Pos} {e o:Expr} {es:List Expr} {Vm:List Ea} {te ta:TE} {t tk:TA} {nm:Option Str}
structure Qh(K:ah)(fd:aB)(ps ks:List Str)(g:List Value->List Value->List Value)(gV:List V->List V->List V):Prop where
 to:∀ (s:ak) (us ws:List Value),K.In s.heap->(g us ws).length=ps.length->BindsTo s fd ⟨us,ks.zip ws⟩ (ps.zip (g us ws))
 rel:∀ {vs:List V} {us:List Value} {zs:List V} {ws:List Value},Vals vs us->Vals zs ws->Vals (gV vs zs) (g us ws)
variable {g:List Value->List Value->List Value} {gV:List V->List V->List V}
end
structure bV(N P:List Str)(sc:Scope):Prop where
 kind:sc.kind=.function
 co:sc.isCoroutine=false
 gen:sc.isGenerator=false
 nd:N.Nodup
 pre:N.take P.length=P
 par:∀ x∈P,sc.names.lookup x=some .local\/sc.names.lookup x=some .cell
 JT:∀ y∈sc.names,y.2≠.free
theorem wO{kindOf:Str->Option oK}{x:Str}:∀ {binds:List (Str×Value)} {m:Str->Option Value},(∀ v,(x,v)∉binds)->bindL kindOf binds m x=m x
 | [],_,_=>rfl
 | (n,v) :: r,m,h=>by
  unfold bindL;rw [wO fun w hw=>h w (aE _ hw)];split
  ·have:x≠n:=by rintro rfl; exact h v bb
   simp [this]
  ·rfl
theorem wR{kindOf:Str->Option oK}{x:Str}:∀ {binds:List (Str×Value)} {m:Str->Option Value},(∀ v,(x,v)∉binds)->bindC kindOf binds m x=m x
 | [],_,_=>rfl
 | (n,v) :: r,m,h=>by
  unfold bindC;rw [wR fun w hw=>h w (aE _ hw)];split
  ·rfl
  ·have:x≠n:=by rintro rfl; exact h v bb
   simp [this]
theorem wQ{kindOf:Str->Option oK}{x:Str}{v:Value}:∀ {P:List Str} {vs:List Value} {i:Nat} {m:Str->Option Value},P.Nodup->P[i]?=some x->vs[i]?=some v->kindOf x=some .local ->
  bindL kindOf (P.zip vs) m x=some v
 | [],_,_,_,_,h,_,_=>by simp at h
 | _ :: _,[],_,_,_,_,h,_=>by simp at h
 | p :: P,w :: vs,0,m,nd,h1,h2,hk=>by
  simp at h1 h2; subst h1; subst h2;show bindL kindOf ((p,w) :: P.zip vs) m p=_;unfold bindL;rw [wO fun v hv=>(List.nodup_cons.mp nd).1 (qO hv).1,if_pos hk];simp
 | p :: P,w :: vs,i+1,m,nd,h1,h2,hk=>by
  show bindL kindOf ((p,w) :: P.zip vs) m x=_;unfold bindL;exact wQ (i:=i) (List.nodup_cons.mp nd).2 (by simpa using h1) (by simpa using h2) hk
theorem wU{kindOf:Str->Option oK}{x:Str}{v:Value}:∀ {P:List Str} {vs:List Value} {i:Nat} {m:Str->Option Value},P.Nodup->P[i]?=some x->vs[i]?=some v->kindOf x≠some .local ->
  bindC kindOf (P.zip vs) m x=some v
 | [],_,_,_,_,h,_,_=>by simp at h
 | _ :: _,[],_,_,_,_,h,_=>by simp at h
 | p :: P,w :: vs,0,m,nd,h1,h2,hk=>by
  simp at h1 h2; subst h1; subst h2;show bindC kindOf ((p,w) :: P.zip vs) m p=_;unfold bindC;rw [wR fun v hv=>(List.nodup_cons.mp nd).1 (qO hv).1,if_neg hk];simp
 | p :: P,w :: vs,i+1,m,nd,h1,h2,hk=>by
  show bindC kindOf ((p,w) :: P.zip vs) m x=_;unfold bindC;exact wU (i:=i) (List.nodup_cons.mp nd).2 (by simpa using h1) (by simpa using h2) hk
noncomputable def start(N:List Str)(vs:List V):St:=vs.map some++aW (N.length - vs.length) none
noncomputable def uY(CX:DS)(P:bC)(w:World)(K:ah)(mg:Str->Option Value)(base:Heap)(N:List Str)(qual:Str)(scope:Scope)(f:Addr)(cd:Value)(A:cF)(outer:List Env)(s:ak)(H:Hp)(E:XK):Cx where
 prog:=P
 w:=w
 K:=K
 mg:=mg
 base:=base
 A:=A.deeper (tO qual scope s.heap.objs.size f cd)
 N:=N
 kq:=s
 Bi:=H
 env:=tO qual scope s.heap.objs.size f cd
 outer:=outer
 stack:=tO qual scope s.heap.objs.size f cd :: outer
 ex:=[]
 calm:=true
 fn:=fun _=>true
 pn:=[]
 xe:=fun e s'=>wpAny (model P w) (A.deeper (tO qual scope s.heap.objs.size f cd)) (leaving (tO qual scope s.heap.objs.size f cd) e) (fun _ Jz=>CX outer H s E e Jz) (fun e' Jz=>CX outer H s E e' Jz) s'
theorem zG{sc:Scope}{n:Nat}{x:Str}(h:sc.names.lookup x=some .cell):∃ c,(cellsFrom n sc.names []).lookup x=some c:=by
 have q:=Bm sc.names n [] (.inl h);exact Option.isSome_iff_exists.mp q
theorem C5{CX:DS}{P:bC}{w:World}{K:ah}{mg:Str->Option Value}{base:Heap}{N ps:List Str}{qual:Str}{scope:Scope}{f:Addr}{cd:Value}{A:cF}{outer:List Env}{s s1:ak}{H:Hp}{E:XK}{us:List Value}{vs:List V}
  (S:bV N ps scope) (hd:A.handled=none) (e0:IB P w K mg base A outer s H) (hl:vs.length=ps.length) (r:Vals vs us)
  (x:InCallC s s.heap.objs.size (bindL (tO qual scope s.heap.objs.size f cd).kindOf (ps.zip us) fun _=>none) (cellsFrom (s.heap.objs.size+1) scope.names []) (bindC (tO qual scope s.heap.objs.size f cd).kindOf (ps.zip us) fun _=>none) s1) :
  Inv (uY CX P w K mg base N qual scope f cd A outer s H E) [] (start N vs) H s1:=by
 have zY:ps.length<=N.length:=by have:=congrArg dW S.pre; rw [fh] at this; lia
 obtain⟨h1,tk,rfl,hk⟩:=x.done;have O7:∀ b:Addr,b∉(uY CX P w K mg base N qual scope f cd A outer s H E).ex:=fun b z=>absurd (show b∈([]:List Addr) from z) (by simp);refine⟨⟨e0.mod,S.kind,rfl,rfl,aG _,fun y z c h1 h2=>?_,fun y hy=>?_,fun y c _ h=>?_,fun _=>hd,Around.frames_deeper e0.frames,.inr ⟨rfl,rfl⟩,fun b z=>absurd z (O7 b),e0.bs,e0.Iv,fun b _ _=>O7 b,fun b z=>absurd z (O7 b),e0.uH,e0.Ll⟩,
  rfl,e0.bare,Un.kept hk,⟨_,x.toInCall.ns,fun i y v h1 h2 h3=>?_⟩,fun y c h=>⟨_,x.cell y c h⟩,e0.dA.fresh (aG _),fun y c h=>?_,fun p hp=>absurd (show p∈([]:List (Addr×Obj)) from hp) (by simp),e0.dA.kept hk,?_⟩
 ·exact name_of_addr x.apart (fZ h1) (fZ h2)
 ·have hy:scope.names.lookup y=some .cell\/scope.names.lookup y=some .free:=hy;rcases hy with hy | hy
  ·exact zG hy
  ·exact absurd rfl (S.JT _ (fZ hy))
 ·exact GN (x.above y c (fZ h))
 ·have hi:i < vs.length:=by
   unfold start at h2;by_cases hi:i < vs.length
   ·exact hi
   ·rw [bL (by simpa using hi)] at h2;rw [jn] at h2;split at h2 <;> cases h2
  have ha:vs[i]?=some v:=by
   unfold start at h2;rw [bF (by simpa using hi),cT] at h2;cases e:vs[i]? with
   | none=>rw [e] at h2; cases h2
   | some a=>rw [e] at h2; cases h2; rfl
  obtain⟨u,hu,rv⟩:=r.get ha;have hp:ps[i]?=some y:=by
   rw [<-S.pre,List.getElem?_take_of_lt (by lia)]; exact h1
  have QC:ps.Nodup:=by rw [<-S.pre]; exact S.nd.sublist (List.take_sublist _ _)
  refine⟨u,rv,?_⟩;rcases S.par y (cj hp) with k | k
  ·exact .inl ⟨k,wQ QC hp hu k⟩
  ·obtain⟨c,e⟩:=zG (n:=s.heap.objs.size+1) k;refine .inr ⟨.inl k,c,e,?_⟩;have q:=x.cell y c e;rw [wU QC hp hu (by show scope.names.lookup y≠_; rw [k]; decide)] at q;exact q
 ·exact e0.dA.fresh (GN (x.above y c (fZ h)))
 ·unfold start;show _=N.length;rw [aP,af,eD];lia
theorem Ja{CX:DS}{P:bC}{w:World}{K:ah}{mg:Str->Option Value}{base:Heap}{k:Nat}{f:Addr}{name qual:Str}{params:Eb}{body:List Stmt}{scope:Scope}{dV kV doc pm jA ct oc:Value}{an od:Option Addr}
  {DJ:Array (Option Value)} {N ps:List Str} {sp:Sp} (lk:K.lookup f=some ⟨oc,od,.func (iN name qual params body scope dV kV doc pm an jA ct),DJ⟩) (yq:yx K jA qual=true) (S:bV N ps scope)
  (len:∀ vs H Q E,sp vs H Q E->vs.length=ps.length)
  (Fx:∀ (A:cF) (outer:List Env) (s:ak) (H:Hp) (vs:List V) (Q:VK) (E:XK),iM k (A.deeper (tO qual scope s.heap.objs.size f jA))->sp vs H Q E ->
   ∃ t,Lo (uY CX P w K mg base N qual scope f jA A outer s H E) body t/\t { nx:=fun _ H'=>Q .cR H',rt:=Q } (start N vs) H) :
  fB P w K mg base CX (k+1) f (iN name qual params body scope dV kV doc pm an jA ct) ps sp:=by
 refine⟨len,fun A outer s H args us vs Q E hr e0 hb r ND=>?_⟩;have hl:=len _ _ _ _ ND;have KX:K.In s.heap:=e0.mod.Nz.keeps fun b o e=>(e0.bs b o e).1;have lim:s.heap.NoLimit:=e0.mod.nolimit.keeps fun b o e=>(e0.bs b o e).1;have wD:∀ y∈ps.zip us,scope.names.lookup y.1=some .local\/(scope.names.lookup y.1=some .cell/\((cellsFrom (s.heap.objs.size+1) scope.names []).lookup y.1).isSome=true):=fun ⟨n,v⟩ hy=>by
  rcases S.par n (qO hy).1 with q | q
  ·exact .inl q
  ·exact .inr ⟨q,Bm _ _ _ (.inl q)⟩
 refine codeAny_call_function hr.depth (KX _ _ lk) rfl S.co S.gen rfl (PySem.W.codeRec_of KX yq) (hb _ _ _ _ ?_);refine wpAny_newFunctionEnv_cells S.kind wD fun env he s1 x=>?_;subst he;refine⟨lim.keeps x.toInCall.keep,codeAny_func ?_⟩;obtain⟨t,ht,hq⟩:=Fx A outer s H vs Q E (hr.deeper _) ND;have I:Inv (uY CX P w K mg base N qual scope f jA A outer s H E) [] (start N vs) H s1:=C5 S hr.hd e0 hl r x;refine pI (ht [] s1 (start N vs) H _ I hq) (fun fl s' hs=>?_) fun e s' hs=>hs;have fin:∀ {hW:St} {H':Hp} {v:V} {u:Value},Inv (uY CX P w K mg base N qual scope f jA A outer s H E) [] hW H' s'->RelV v u->Q v H'->CE outer P w H s Q u s' :=
  fun {hW H' v u} J rv q=>⟨v,H',J.os,J.bare,J.base,J.dA,rv,q⟩
 cases fl with
 | ret u =>
  obtain⟨v,hW,H',J,rv,q⟩:=hs;exact fin J rv q
 | next =>
  obtain⟨hW,H',J,q⟩:=hs;exact fin (v:=V.cR) (u:=k6) J rfl q
 | brk =>
  obtain⟨_,_,_,q⟩:=hs;exact bx q
 | cont =>
  obtain⟨_,_,_,q⟩:=hs;exact bx q
end L2
namespace HT
open PySem PyProof.Rows
noncomputable def lexLt:List Int->List Int->Bool
 | [],[]=>false
 | [],_ :: _=>true
 | _ :: _,[]=>false
 | x :: xs,y :: ys=>if x=y then lexLt xs ys else decide (x < y)
theorem AM(x y:Int)(xs ys:List Int):lexLt (x :: xs) (y :: ys)=if x=y then lexLt xs ys else decide (x < y):=rfl
theorem vC:lexLt [] []=false:=rfl
theorem ur(y:Int)(ys:List Int):lexLt [] (y :: ys)=true:=rfl
theorem uv(x:Int)(xs:List Int):lexLt (x :: xs) []=false:=rfl
theorem FO(A:cF)(s:ak)(a:Int)(t:Tok)(c:Int)(u:Tok):∃ e,SeqAt.EqAt A s (.int a t) (.int c u) e/\(e=true↔a=c) :=
 ⟨(a == c),SeqAt.EqAt.int_int a t c u,by simp⟩
theorem t4(A:cF)(s:ak)(a:Int)(t:Tok)(c:Int)(u:Tok)(prog:bC)(w:World)(E:Value->ak->Prop)(Q:Value->ak->Prop)(h:Q (.bool (decide (a < c))) s) :
  wpAny (model prog w) A (kM .Lt (.int a t) (.int c u)) Q E s :=
 (PyProof.Rows.lt_int h:wpAny (model prog w) A (cX .Lt (.int a t) (.int c u)) Q E s)
section
open PySem.SeqAt
open PySem.AutoSeq1 (wpAny_loadPart')
open PySem.MeetsSeq PySem.MeetsSeq2 PySem.MeetsSeq3
theorem vw(l b:Addr)(items kW:Array Value)(n n2:Nat)(dd yr:Option Addr)(sl BB:Array (Option Value))(ns ms:List Int)(hi:jT items.toList ns)(hj:jT kW.toList ms) :
  Meets (Builtin.«tuple.__lt__» ⟨[.ref l,.ref b],[]⟩)
   (fun _ R s=>s.heap.get? l=some { cls:=.type "tuple",dict:=dd,data:=.seq items n,slots:=sl }/\s.heap.get? b=some { cls:=.type "tuple",dict:=yr,data:=.seq kW n2,slots:=BB } /\
    R (.ok (.ret (.bool (lexLt ns ms)))) s) :=
 .of_wp fun prog w A R s h=>by
  obtain⟨hp,g,d,tk,os⟩:=s; obtain⟨hl,hb,h⟩:=h;have f2:=mw;have z1:items.size=ns.length:=by rw [<-hi.length]; simp
  have z2:kW.size=ms.length:=by rw [<-hj.length]; simp
  wp_walk using bB hl,bB hb,wpAny_forIn_list _ (fun rest b s'=>b.1=none/\s'=⟨hp,g,d,tk,os⟩/\∃ (vs ws:List Value) (K8 K9:List Int),rest=vs.zip ws /\
   jT vs K8/\jT ws K9/\K8.length+kW.size=K9.length+items.size/\R (.ok (.ret (.bool (lexLt K8 K9)))) ⟨hp,g,d,tk,os⟩) _
  case turn =>
   rintro⟨y,x⟩ rest b s' ⟨AU,rfl,vs,ws,K8,K9,hz,Px,NB,hlen,hR⟩;cases Px with
   | nil=>rw [List.zip_nil_left] at hz; cases hz
   | cons a t Pw =>
    cases NB with
    | nil=>rw [List.zip_nil_right] at hz; cases hz
    | cons c u Pu =>
     rw [List.zip_cons_cons] at hz;injection hz with Po Fs
     injection Po with hy hx
     subst hy hx;rw [AM] at hR;simp only [ai] at hlen;obtain⟨e,he,Mu⟩:=FO A.in1 ⟨hp,g,d,tk,os⟩ a t c u;refine ar (he prog w _ _ ?_);cases e with
     | true =>
      rw [if_pos (Mu.mp rfl)] at hR
      wp_walk
      exact⟨rfl,rfl,_,_,_,_,Fs,Pw,Pu,by lia,hR⟩
     | false =>
      rw [if_neg (fun q=>absurd (Mu.mpr q) eK)] at hR;have Mf:=t4 A.in1 ⟨hp,g,d,tk,os⟩ a t c u prog w
      wp_walk using Mf
      exact⟨_,rfl,by simpa using hR⟩
  case fin =>
   rintro⟨b1,b2⟩ s' ⟨AU,rfl,vs,ws,K8,K9,hz,Px,NB,hlen,hR⟩;simp only at AU;subst AU;have hv:lexLt K8 K9=decide (items.size < kW.size):=by
    cases Px with
    | nil =>
     cases NB with
     | nil =>
      simp only [av] at hlen;rw [vC];exact(decide_eq_false (by lia)).symm
     | cons c u hw =>
      simp only [av,ai] at hlen;rw [ur];exact(decide_eq_true (by lia)).symm
    | cons a t hv =>
     cases NB with
     | nil =>
      simp only [av,ai] at hlen;rw [uv];exact(decide_eq_false (by lia)).symm
     | cons c u hw =>
      rw [List.zip_cons_cons] at hz;cases hz
   rw [hv] at hR
   wp_walk
   exact⟨_,rfl,by simpa [pM] using hR⟩
  case h =>
   exact⟨rfl,rfl,items.toList,kW.toList,ns,ms,rfl,hi,hj,by lia,h⟩
end
section
variable {prog:bC} {w:World} {A:cF} {E:Value->ak->Prop} {s:ak}
theorem uh{l b:Addr}{items kW:Array Value}{ns ms:List Int}{Q:Value->ak->Prop}(hl:IsTup s.heap l items)(hb:IsTup s.heap b kW)(hi:jT items.toList ns)(hj:jT kW.toList ms)
  (hu:A.units < cLine) (h:Q (.bool (lexLt ns ms)) s):wpAny (model prog w) A (cX .Lt (.ref l) (.ref b)) Q E s:=by
 obtain⟨⟨cls,dd,data,sl⟩,ho,hc,n,hd⟩:=id hl;obtain⟨⟨FZ,yr,data2,BB⟩,wC,uG,n2,hd2⟩:=id hb;simp only at hc hd uG hd2;subst hc hd uG hd2;exact sr (op:=.Lt) ⟨_,ho,rfl⟩ ⟨_,wC,rfl⟩ jC oB (mY _ _) (vw l b items kW n n2 dd yr sl BB ns ms hi hj)
  ⟨ho,wC,show vo (lexLt ns ms)≠Value.notImplemented/\Q (.bool (lexLt ns ms)) s from⟨(fun x=>nomatch x),h⟩⟩ hu
theorem Ir{t b:Addr}{vs ws:List Value}{Q:Value->ak->Prop}(ht:IsTup s.heap t vs.toArray)(hb:IsTup s.heap b ws.toArray)(hv:vs≠[])
  (h1:ws=[]->Q (.ref t) s) (h2:ws≠[]->Q (.ref s.heap.objs.size) { s with heap:=s.heap.push { cls:=.type "tuple",data:=.seq (vs++ws).toArray } })
  (hsz:vs.length+ws.length<=aX):wpAny (model prog w) A (iR .Add (.ref t) (.ref b)) Q E s:=by
 obtain⟨⟨cls,dd,data,sl⟩,ho,hc,n,hd⟩:=id ht;obtain⟨⟨FZ,yr,data2,BB⟩,wC,uG,n2,hd2⟩:=id hb;simp only at hc hd uG hd2;subst hc hd uG hd2;have e:vs.toArray++ws.toArray=(vs++ws).toArray:=by simp
 by_cases hw:ws=[]
 ·exact concat_meets ⟨_,ho,rfl⟩ ⟨_,wC,rfl⟩ noFill_tuple_add seq_tuple_add Bn Ag (zS _ _)
   (tuple_addW1 t b vs.toArray ws.toArray n n2 dd yr sl BB (by simpa using hv) (by simp [hw])) ⟨ho,wC,h1 hw⟩
 ·refine concat_meets ⟨_,ho,rfl⟩ ⟨_,wC,rfl⟩ noFill_tuple_add seq_tuple_add Bn Ag (zS _ _)
   (tuple_addW2 t b vs.toArray ws.toArray n n2 dd yr sl BB (by simpa using hv) (by simpa using hw) (by rw [aI,aI]; exact hsz)) ⟨ho,wC,?_⟩
  rw [e];exact h2 hw
noncomputable def g6(n d:Nat):Option Int->Nat
 | none=>d
 | some v=>if v < 0 then (v+(n:Int)).toNat else min v.toNat n
theorem Jy(n d:Nat)(hd:d<=n)(o:Option Int):g6 n d o<=n:=by
 cases o with
 | none=>exact hd
 | some v =>
  show (if v < 0 then (v+(n:Int)).toNat else min v.toNat n)<=n;by_cases hv:v < 0
  ·rw [if_pos hv]; lia
  ·rw [if_neg hv]; exact Nat.min_le_right _ _
theorem Cp(v:Int)(n d:Nat):(if v < 0 then max (v+(n:Int)) 0 else min v (n:Int))=((g6 n d (some v):Nat):Int):=by
 show (if v < 0 then max (v+(n:Int)) 0 else min v (n:Int))=(((if v < 0 then (v+(n:Int)).toNat else min v.toNat n):Nat):Int);by_cases hv:v < 0
 ·simp only [if_pos hv]; lia
 ·simp only [if_neg hv]; lia
theorem Be(lo hi:Option Int)(n:Nat):ko lo hi 1 (n:Int)=(((g6 n 0 lo:Nat):Int),((g6 n n hi:Nat):Int)):=by
 have h1:¬ ((1:Int) < 0):=by lia
 unfold ko;simp only [h1,if_false];refine Prod.ext ?_ ?_
 ·cases lo with
  | none=>rfl
  | some v=>exact Cp v n 0
 ·cases hi with
  | none=>rfl
  | some v=>exact Cp v n n
theorem AA(i j:Nat):gO (i:Int) (j:Int) 1=j - i:=by
 unfold gO;have h1:(1:Int) > 0:=by lia
 simp only [h1,if_true,Int.ediv_one];split <;> lia
theorem tU{v:Value}{o:Option Int}{Q:Option Int->ak->Prop}(p:IsPart v o)(h:Q o s):wpAny (model prog w) A (Builtin.Slice.slicePartIndex v) Q E s:=by
 cases p with
 | none=>exact slicePart_none h
 | int i t=>exact slicePart_int h
theorem qY{sl:Addr}{vl vu:Value}{lo hi:Option Int}{n:Nat}{Q:Int×Int×Nat->ak->Prop}(hs:s.heap.IsSliceOf sl vl vu .none)(pl:IsPart vl lo)(pu:IsPart vu hi)
  (h:Q (((g6 n 0 lo:Nat):Int),1,g6 n n hi - g6 n 0 lo) s):wpAny (model prog w) A (sO (.ref sl) (pure (n:Int))) Q E s:=by
 obtain⟨os,Mj,PR,NL⟩:=id hs;unfold sO Builtin.Slice.sliceFields;refine ar (ar (wpAny_field Mj NL (x:=vl) rfl (ar (wpAny_field Mj NL (x:=vu) rfl (ar (wpAny_field Mj NL (x:=.none) rfl (a0 ?_)))))));refine ar (slicePart_none ?_);show wpAny _ _ (if ((1:Int) == 0)=true then _ else _) _ _ s;rw [if_neg (by decide)];refine ar (tU pl (ar (tU pu (ar (a0 ?_)))));show wpAny _ _ (match ko lo hi 1 (n:Int) with | (lo,hi)=>pure (lo,(1:Int),gO lo hi 1)) _ _ s;rw [Be lo hi n];show wpAny _ _ (pure (((g6 n 0 lo:Nat):Int),(1:Int),gO ((g6 n 0 lo:Nat):Int) ((g6 n n hi:Nat):Int) 1)) _ _ s;rw [AA];exact a0 h
theorem ER(xs:Array Value)(i k:Nat):((bP k).filterMap fun (m:Nat)=>xs[((i:Int)+(m:Int) * 1).toNat]?).toArray=((xs.toList.drop i).take k).toArray:=by
 have e:(fun (m:Nat)=>xs[((i:Int)+(m:Int) * 1).toNat]?)=fun m=>xs[i+m]?:=by
  funext m;have:((i:Int)+(m:Int) * 1).toNat=i+m:=by lia
  rw [this]
 rw [e];have:=pick_run xs i k;rw [List.filterMap_map] at this;have e2:((fun x=>xs[x]?)∘fun x=>i+x)=fun m=>xs[i+m]?:=rfl;rw [e2] at this;rw [this]
theorem qx{t sl:Addr}{items:Array Value}{vl vu:Value}{lo hi:Option Int}{Q:Value->ak->Prop}(ht:IsTup s.heap t items)(hs:s.heap.IsSliceOf sl vl vu .none)(pl:IsPart vl lo)(pu:IsPart vu hi)
  (hw:¬ (g6 items.size 0 lo=0/\g6 items.size items.size hi=items.size))
  (h:Q (.ref s.heap.objs.size) { s with heap:=s.heap.push { cls:=.type "tuple",data:=.seq ((items.toList.drop (g6 items.size 0 lo)).take (g6 items.size items.size hi - g6 items.size 0 lo)).toArray } })
  (hsz:items.size<=aX):wpAny (model prog w) A (getItem (.ref t) (.ref sl)) Q E s:=by
 have B5:sizeOk (.seq ((items.toList.drop (g6 items.size 0 lo)).take (g6 items.size items.size hi - g6 items.size 0 lo)).toArray):=by
  show ((items.toList.drop (g6 items.size 0 lo)).take (g6 items.size items.size hi - g6 items.size 0 lo)).toArray.size<=aX;rw [aI];exact bw (bw (List.length_take_le' _ _) (by rw [dI,eW]; exact Nat.sub_le _ _)) hsz
 have hj:g6 items.size items.size hi<=items.size:=Jy _ _ (aG _) hi;obtain⟨os,Mj,PR,NL⟩:=id hs;have TK:s.TypeIs (.ref sl) "slice":=⟨os,Mj,PR⟩;unfold getItem
 try with_reducible refine dQ ?_
 first | refine ar (a0 ?_) | skip
 refine ar (wpAny_sequenceKey ht.typeIs (by decide) ?_);refine ar (wpAny_callSpecial?_slot (name:=qT "__getitem__") ht.typeIs qN
  (wpAny_call_entry qN ht.typeIs entry_tuple_getitem ?_ (args_tuple_getitem _ _)))
 show wpAny _ _ (Builtin.Tuple.tupleItemsOf (.ref t) >>= _) _ _ s;refine ar (tupleItemsOf_ ht ?_);refine ar (wpAny_typeOf TK ?_);rw [if_pos (by decide)];refine ar (qY hs pl pu ?_);have Mn:¬ ((((g6 items.size 0 lo:Nat):Int) == 0&&(1:Int) == 1&&(g6 items.size items.size hi - g6 items.size 0 lo) == items.size)=true):=by
  intro q;rw [aK,aK] at q;have q1:((g6 items.size 0 lo:Nat):Int)=0:=eq_of_beq q.1.1;have q2:g6 items.size items.size hi - g6 items.size 0 lo=items.size:=eq_of_beq q.2;exact hw ⟨by lia,by lia⟩
 show wpAny _ _ (if (((g6 items.size 0 lo:Nat):Int) == 0&&(1:Int) == 1&&(g6 items.size items.size hi - g6 items.size 0 lo) == items.size)=true then _ else _) _ _ s;rw [if_neg Mn,ER]
 first
  | exact ar (m:=gZ _) (iQ (a0 ⟨_,rfl,a0 h⟩) B5)
  | exact ar (m:=gZ _) (iQ (ar (a0 (a0 ⟨_,rfl,a0 h⟩))) B5)
  | exact ar (ar (m:=gZ _) (iQ (a0 (a0 ⟨_,rfl,a0 h⟩)) B5))
  | exact ar (ar (m:=gZ _) (iQ (a0 ⟨_,rfl,a0 h⟩) B5))
end
end HT
namespace L2
open PySem PySem.Spec PyProof.Rows
noncomputable abbrev TO:=St->Hp->(Option Int->Hp->Prop)->Prop
theorem intsAre_of{ns:List Int}:∀ {us:List Value},Vals (ns.map V.int) us->jT us ns:=by
 induction ns with
 | nil=>intro us r; rw [a7] at r; cases r; exact .nil
 | cons n ns ih =>
  intro us r;rw [ay] at r;cases r with
  | cons r1 r2 =>
   obtain⟨t,e⟩:=r1;subst e;exact .cons n t (ih r2)
section
variable {X:Cx} {e:Expr} {te:TE} {lo hi:Option Expr} {tl th:TO} {pos p2:Pos}
noncomputable def Qf(X:Cx)(r:V->Option Int->Option Int->Hp->VK->Prop):Prop :=
 ∀ (pins:List (Addr×Obj)) (s:ak) (σ:St) (H:Hp) (x:V) (v vl vu:Value) (lo hi:Option Int) (sl:Addr) (Q:VK),Inv X pins σ H s->RelV x v->s.heap.IsSliceOf sl vl vu .none->IsPart vl lo->IsPart vu hi->r x lo hi H Q ->
  ∃ T id,typeLookup (.type T) "__getitem__" = pure (some (.builtin id))/\s.TypeIs v T/\wpAny (model X.prog X.w) X.A (getItem v (.ref sl)) (EP X pins σ Q) X.xe s
noncomputable def zF(xs:List V)(lo hi:Option Int):List V:=(xs.drop (HT.g6 xs.length 0 lo)).take (HT.g6 xs.length xs.length hi - HT.g6 xs.length 0 lo)
theorem se(xs:List V)(lo hi:Option Int):(zF xs lo hi).length<=xs.length:=by
 unfold zF;rw [fh,dI];lia
noncomputable def OE(K:ah):V->Option Int->Option Int->Hp->VK->Prop:=fun x lo hi H Q=>∃ a xs,x=.ref a/\u6 K H a xs /\
 ¬ (HT.g6 xs.length 0 lo=0/\HT.g6 xs.length xs.length hi=xs.length)/\∀ p,H p=none->Q (.ref p) (upd H p (.tup (zF xs lo hi)))
theorem Jx:Qf X (OE X.K):=by
 intro pins s σ H x v vl vu lo hi sl Q I rx hs pl pu h;obtain⟨a,xs,rfl,hx,hw,q⟩:=h;cases rx;obtain⟨its,r,ht,hz⟩:=I.tuple hx;have hlen:its.toArray.size=xs.length:=by rw [aI]; exact r.length.symm
 refine⟨"tuple",_,PyProof.Rows.slot_tuple_getitem.lookup,ht.typeIs,?_⟩;refine HT.qx ht hs pl pu (by rw [hlen]; exact hw) ?_ (by rw [hlen]; exact hz);rw [hlen];refine⟨.ref s.heap.objs.size,_,I.laid (t':=s.toks) (o:=.tup (zF xs lo hi)) (fun b ob q=>ax _ q) (aG _) ?_,rfl,q _ (I.dA.fresh (aG _))⟩;exact⟨bw (se xs lo hi) hz,_,(r.drop (HT.g6 xs.length 0 lo)).take (HT.g6 xs.length xs.length hi - HT.g6 xs.length 0 lo),IsTup.new _ _⟩
noncomputable def OG(K:ah):R2:=fun x y H Q=>∃ a b ns ms,x=.ref a/\y=.ref b/\u6 K H a (ns.map V.int)/\u6 K H b (ms.map V.int)/\Q (.bl (HT.lexLt ns ms)) H
theorem JQ(hu:X.A.units < cLine):DQ X (cX .Lt) (OG X.K):=by
 intro pins s σ H x y v u Q I rx ry h;obtain⟨a,b,ns,ms,rfl,rfl,ha,hb,q⟩:=h;cases rx;cases ry;obtain⟨its,r1,p1,_⟩:=I.tuple ha;obtain⟨rB,r2,p2,_⟩:=I.tuple hb;have i1:jT its.toArray.toList ns:=intsAre_of r1;have i2:jT rB.toArray.toList ms:=intsAre_of r2;exact HT.uh p1 p2 i1 i2 hu ⟨.bl (HT.lexLt ns ms),H,I,rfl,q⟩
noncomputable def LQ(K:ah):R2:=fun x y H Q=>∃ a b xs ys,x=.ref a/\y=.ref b/\u6 K H a xs/\u6 K H b ys/\xs≠[]/\xs.length+ys.length<=aX /\
 (ys=[]->Q (.ref a) H)/\(ys≠[]->∀ p,H p=none->Q (.ref p) (upd H p (.tup (xs++ys))))
theorem Vals.xu{xs:List V}{us:List Value}(r:Vals xs us):us=[]↔xs=[]:=by
 cases r with
 | nil=>simp
 | cons _ _=>simp
theorem Hy:DQ X (iR .Add) (LQ X.K):=by
 intro pins s σ H x y v u Q I rx ry h;obtain⟨a,b,xs,ys,rfl,rfl,ha,hb,hx,hz,q1,q2⟩:=h;cases rx;cases ry;obtain⟨its,r1,p1,_⟩:=I.tuple ha;obtain⟨rB,r2,p2,_⟩:=I.tuple hb;refine HT.Ir p1 p2 (fun z=>hx (r1.xu.mp z)) (fun z=>⟨.ref a,H,I,rfl,q1 (r2.xu.mp z)⟩) (fun z=>?_) (by rw [<-r1.length,<-r2.length]; exact hz);refine⟨.ref s.heap.objs.size,_,I.laid (t':=s.toks) (o:=.tup (xs++ys)) (fun b ob q=>ax _ q) (aG _) ?_,rfl,q2 (fun w=>z (r2.xu.mpr w)) _ (I.dA.fresh (aG _))⟩;exact⟨by rw [aP]; exact hz,_,r1.append r2,IsTup.new _ _⟩
end
noncomputable def B3(n:Nat)(i:Int):Option Nat:=if 0<=i then (if i < n then some i.toNat else none) else if -(n:Int)<=i then some (i+n).toNat else none
noncomputable def oV{α:Type}(xs:List α)(i:Int):Option α:=(B3 xs.length i).bind fun j=>xs[j]?
theorem B2{n:Nat}{i:Int}{j:Nat}(h:B3 n i=some j):seqIndex? i n=some j/\j < n/\-(n:Int)<=i/\i < n:=by
 unfold B3 at h;by_cases h0:0<=i
 ·rw [if_pos h0] at h;by_cases h1:i < n
  ·rw [if_pos h1] at h;have e:i.toNat=j:=a6 h;exact⟨by rw [DX h0 h1,e],by lia,by lia,h1⟩
  ·rw [if_neg h1] at h; cases h
 ·rw [if_neg h0] at h;by_cases h1:-(n:Int)<=i
  ·rw [if_pos h1] at h;have e:(i+n).toNat=j:=a6 h;exact⟨by rw [seqIndex_neg (by lia) h1,e],by lia,h1,by lia⟩
  ·rw [if_neg h1] at h; cases h
theorem Cr{α:Type}{xs:List α}{i:Int}{v:α}(h:oV xs i=some v):∃ j,seqIndex? i xs.length=some j/\xs[j]?=some v/\j < xs.length/\-(xs.length:Int)<=i/\i < xs.length:=by
 unfold oV at h;cases e:B3 xs.length i with
 | none=>rw [e] at h; cases h
 | some j =>
  rw [e] at h;obtain⟨h1,h2,h3,h4⟩:=B2 e;exact⟨j,h1,h,h2,h3,h4⟩
noncomputable def Iz(b:Expr):Prop:=∀ o i,subscripted b false o i=operate [o,i] (getItem o i)
noncomputable def Qi(X:Cx)(r:R2):Prop :=
 ∀ (value slice:Expr) (pins:List (Addr×Obj)) (s:ak) (σ:St) (H:Hp) (x y:V) (v u:Value) (Q:VK),Inv X pins σ H s->RelV x v->RelV y u->r x y H Q ->
  subscripted slice false v u=operate [v,u] (getItem v u)->wpAny (model X.prog X.w) X.A (subscriptTail value slice v u) (EP X pins σ Q) X.xe s
noncomputable def U7(X:Cx)(id:String)(r:V->List V->Hp->VK->Prop):Prop :=
 ∀ (pins:List (Addr×Obj)) (s:ak) (σ:St) (H:Hp) (x:V) (xs:List V) (v:Value) (us:List Value) (Q:VK),Inv X pins σ H s->RelV x v->Vals xs us->r x xs H Q ->
  wpAny (model X.prog X.w) X.A (call (.builtin id) (v :: us)) (EP X pins σ Q) X.xe s
section
variable {X:Cx} {a b:Expr} {ta tb:TE} {pos:Pos}
noncomputable def OI(K:ah):R2:=fun x y H Q=>∃ p xs i v,x=.ref p/\y=.int i/\vW K H p xs/\oV xs i=some v/\Q v H
noncomputable def OH(K:ah):R2:=fun x y H Q=>∃ p xs i v,x=.ref p/\y=.int i/\u6 K H p xs/\oV xs i=some v/\Q v H
theorem B1:Qi X (OI X.K):=by
 intro value slice pins s σ H x y v u Q I rx ry h hs;obtain⟨p,xs,i,z,rfl,rfl,hq,he,q⟩:=h;cases rx;obtain⟨t,rfl⟩:=ry;obtain⟨its,r,pl,hz⟩:=I.list hq;obtain⟨j,h1,h2,h3,h4,h5⟩:=Cr he;obtain⟨w,ew,o6⟩:=r.get h2;have hl:=r.length;have hn:=um;have fin:EP X pins σ Q w s:=⟨z,H,I,o6,q⟩;by_cases h0:0<=i
 ·have hj:i.toNat=j:=by
   rw [DX h0 h5] at h1;exact a6 h1
  exact item_listR pl.isList h0 (by lia) (by rw [hj]; simpa using ew) fin hs
 ·have hj:(i+(its.toArray.size:Int)).toNat=j:=by
   rw [seqIndex_neg (by lia) h4] at h1;rw [aI,<-hl];exact a6 h1
  exact so (x:=w) pl.isList.typeIs slot_list_getitem.lookup
   (wpAny_getItem_list_neg (Q:=fun r s'=>r=w/\EP X pins σ Q r s') pl.isList (by lia) (by rw [aI] <;> lia) (by lia) (by rw [hj]; simpa using ew) ⟨rfl,fin⟩) hs
theorem J8:Qi X (OH X.K):=by
 intro value slice pins s σ H x y v u Q I rx ry h hs;obtain⟨p,xs,i,z,rfl,rfl,hq,he,q⟩:=h;cases rx;obtain⟨t,rfl⟩:=ry;obtain⟨its,r,pl,hz⟩:=I.tuple hq;obtain⟨j,h1,h2,h3,h4,h5⟩:=Cr he;obtain⟨w,ew,o6⟩:=r.get h2;have hl:=r.length;have hn:=um;have fin:EP X pins σ Q w s:=⟨z,H,I,o6,q⟩;exact so (x:=w) pl.typeIs slot_tuple_getitem.lookup
  (getItem_tuple (j:=j) (Q:=fun r s'=>r=w/\EP X pins σ Q r s') pl (by lia) (by lia) (by rw [aI,<-hl]; exact h1) (by simpa using ew) ⟨rfl,fin⟩) hs
theorem AJ (its:List Value) (n j:Nat) (u:Value):cU (·.setIfInBounds j u) { cls:=.type "list",data:=.seq its.toArray n } = { cls:=.type "list",data:=.seq (its.set j u).toArray n }:=by
 simp [cU]
theorem Inv.lst{pins:List (Addr×Obj)}{σ:St}{H:Hp}{s:ak}{p:Addr}{xs:List V}(I:Inv X pins σ H s)(h:H p=some (.lst xs)) :
  ∃ (its:List Value) (n:Nat),Vals xs its/\s.heap.get? p=some { cls:=.type "list",data:=.seq its.toArray n }/\xs.length<=aX:=by
 obtain⟨z,its,n,r,e⟩:=I.dA p _ h;exact⟨its,n,r,e,z⟩
theorem Inv.J0{pins:List (Addr×Obj)}{σ:St}{H:Hp}{s:ak}{p:Addr}{xs ys:List V}{its its':List Value}{n n':Nat}{f:Obj->Obj}(I:Inv X pins σ H s)(h:H p=some (.lst xs))
  (ho:s.heap.get? p=some { cls:=.type "list",data:=.seq its.toArray n }) (hf:f { cls:=.type "list",data:=.seq its.toArray n } = { cls:=.type "list",data:=.seq its'.toArray n' }) (r:Vals ys its') (hz:ys.length<=aX) (t:Nat) :
  Inv X pins σ (upd H p (.lst ys)) { s with heap:=s.heap.update p f,toks:=t }:=by
 have e:(s.heap.update p f).get? p=some { cls:=.type "list",data:=.seq its'.toArray n' }:=by
  rw [kh f ho (by rw [hf] <;> rfl),hf]
 refine I.write (x:=p) (e:=p) (by rw [h]; trivial) (.inl rfl) (fun b u hb q=>(cg _ _ (mr hb)).trans q) ⟨_,e⟩ ?_;exact⟨hz,its',n',r,e⟩
noncomputable def LO:V->V->V->Hp->(Hp->Prop)->Prop:=fun o i v H Q=>∃ p xs k j,o=.ref p/\i=.int k/\H p=some (.lst xs)/\B3 xs.length k=some j/\Q (upd H p (.lst (xs.set j v)))
theorem set_list:Qg X LO:=by
 intro pins s σ H o i v ov iv u Q I ro ri rv h;obtain⟨p,xs,k,j,rfl,rfl,hp,hj,q⟩:=h;cases ro;obtain⟨t,rfl⟩:=ri;obtain⟨its,n,r,ho,hz⟩:=I.lst hp;obtain⟨h1,h2,h3,h4⟩:=B2 hj;have hl:=r.length;have hn:=um;have I':Inv X pins σ (upd H p (.lst (xs.set j v))) { s with heap:=s.heap.update p (cU (·.setIfInBounds j u)) } :=
  I.J0 hp ho (AJ its n j u) (r.set rv j) (by rw [jm]; exact hz) s.toks
 by_cases h0:0<=k
 ·have hk:k.toNat=j:=by
   rw [DX h0 h4] at h1;exact a6 h1
  exact PySem.W.ki_setAt ho h0 (by lia) (by rw [aI,<-hl]; exact h4) (by rw [hk]; exact⟨_,I',q⟩)
 ·have hk:(k+(its.toArray.size:Int)).toNat=j:=by
   rw [seqIndex_neg (by lia) h3] at h1;rw [aI,<-hl];exact a6 h1
  exact PySem.W.ki_setBack ho (by lia) (by rw [aI,<-hl]; exact h3) (by lia) (by rw [hk]; exact⟨_,I',q⟩)
theorem w8(lo hi:Option Int)(n:Nat):(mT lo hi none n).1=((HT.g6 n 0 lo:Nat):Int)/\(mT lo hi none n).2.1=((HT.g6 n n hi:Nat):Int)/\(mT lo hi none n).2.2=1:=by
 refine⟨?_,?_,rfl⟩
 ·cases lo with
  | none=>simp [mT,HT.g6]
  | some i =>
   simp only [mT,HT.g6,Option.getD_none,show (1:Int) > 0 by decide,if_true];by_cases h:i < 0
   ·simp only [h,if_true] <;> lia
   ·simp only [h,if_false] <;> lia
 ·cases hi with
  | none=>simp [mT,HT.g6]
  | some i =>
   simp only [mT,HT.g6,Option.getD_none,show (1:Int) > 0 by decide,if_true];by_cases h:i < 0
   ·simp only [h,if_true] <;> lia
   ·simp only [h,if_false] <;> lia
theorem vA(its:List Value)(lo hi:Option Int):slicePick its.toArray lo hi none=((its.drop (HT.g6 its.length 0 lo)).take (HT.g6 its.length its.length hi - HT.g6 its.length 0 lo)).toArray:=by
 obtain⟨h1,h2,h3⟩:=w8 lo hi its.toArray.size;unfold slicePick;rw [h1,h2,h3];simp only [sliceRange_one,pick_run,aI] <;> rfl
noncomputable def OF(K:ah):V->Option Int->Option Int->Hp->VK->Prop:=fun x lo hi H Q=>∃ a xs,x=.ref a/\vW K H a xs/\∀ p,H p=none->Q (.ref p) (upd H p (.lst (zF xs lo hi)))
theorem BA:Qf X (OF X.K):=by
 intro pins s σ H x v vl vu lo hi sl Q I rx hs pl pu h;obtain⟨a,xs,rfl,hx,q⟩:=h;cases rx;obtain⟨its,r,ht,hz⟩:=I.list hx;have hlen:=r.length;refine⟨"list",_,slot_list_getitem.lookup,ht.isList.typeIs,?_⟩;refine wpAny_getItem_list_slice ht.isList hs pl pu .none (by simp) ?_ (by rw [aI] <;> lia);rw [vA,<-hlen];refine⟨.ref s.heap.objs.size,_,I.laid (t':=s.toks) (o:=.lst (zF xs lo hi)) (fun b ob q=>ax _ q) (aG _) ?_,rfl,q _ (I.dA.fresh (aG _))⟩;exact⟨bw (se xs lo hi) hz,_,0,(r.drop (HT.g6 xs.length 0 lo)).take (HT.g6 xs.length xs.length hi - HT.g6 xs.length 0 lo),ba _ rfl⟩
theorem x3:Ji X (.type "list") (fun xs H Q=>∃ p ys,xs=[.ref p]/\(vW X.K H p ys\/u6 X.K H p ys)/\∀ l,H l=none->Q (.ref l) (upd H l (.lst ys))):=by
 intro pins s σ H xs us Q I r h;obtain⟨p,ys,rfl,hq,q⟩:=h;obtain⟨u,rfl,rx⟩:=vals1 r;cases rx;have fin:∀ (its:List Value),Vals ys its->ys.length<=aX->∀ (h':Heap) (c':Nat),(∀ b o',s.heap.get? b=some o'->h'.get? b=some o') ->
   h'.get? s.heap.objs.size=some { cls:=.type "list",dict:=none,data:=.seq its.toArray c',slots:=#[] }->EP X pins σ Q (.ref s.heap.objs.size) { s with heap:=h' }:=fun its r' hz h' c' kp e =>
  ⟨.ref s.heap.objs.size,_,I.laid (t':=s.toks) kp (aG _) (show fR X.prog X.w _ h' _ (.lst ys) from⟨hz,its,c',r',e⟩),rfl,q _ (I.dA.fresh (aG _))⟩
 rcases hq with hq | hq
 ·obtain⟨its,r',pl,hz⟩:=I.list hq;have hlen:=r'.length;obtain⟨o,ho,hc,n,hd⟩:=pl.isList;exact call_list_seq p (.inl rfl) ho hc hd (fun h' c' kp e=>fin its r' hz h' c' kp e) (by simp only [aI] <;> lia)
 ·obtain⟨its,r',pl,hz⟩:=I.tuple hq;have hlen:=r'.length;obtain⟨o,ho,hc,n,hd⟩:=pl;exact call_list_seq p (.inr rfl) ho hc hd (fun h' c' kp e=>fin its r' hz h' c' kp e) (by simp only [aI] <;> lia)
noncomputable def RG(K:ah)(T:String)(x:V)(H:Hp):Prop:=match x with
 | .str _=>T = "str"
 | .int _=>T = "int"
 | .ref p=>(T = "list"/\∃ xs,vW K H p xs)\/(T = "tuple"/\∃ o,K.lookup p=some o/\o.cls=.type "tuple"/\o.dict=none) \/
   (T = "dict"/\((∃ aY,H p=some (.dK aY))\/∃ aY,H p=some (.dT aY)))\/(T = "set"/\∃ S n,H p=some (.set S n))
 | _=>False
theorem Eg{pins:List (Addr×Obj)}{σ:St}{H:Hp}{s:ak}{T:String}{x:V}{v:Value}(I:Inv X pins σ H s)(r:RelV x v)(ty:RG X.K T x H) :
  s.TypeIs v T/\∀ a,v=.ref a->∃ ob,s.heap.get? a=some ob/\ob.dict=none:=by
 cases x with
 | str z =>
  obtain⟨t,rfl⟩:=r;cases (show T = "str" from ty);exact⟨typeIs_str s z t,fun _ e=>nomatch e⟩
 | int i =>
  obtain⟨t,rfl⟩:=r;cases (show T = "int" from ty);exact⟨typeIs_int s i t,fun _ e=>nomatch e⟩
 | ref p =>
  cases r;rcases ty with ⟨rfl,xs,hq⟩ | ⟨rfl,o,hk,hc,hd⟩ | ⟨rfl,hk⟩ | ⟨rfl,S,n,hk⟩
  ·obtain⟨its,_,pl,_⟩:=I.list hq;refine⟨pl.isList.typeIs,fun a e=>?_⟩;cases e;obtain⟨o,n,e,c,hd,_⟩:=pl;exact⟨o,e,hd⟩
  ·refine⟨⟨o,I.B0 p o hk,hc⟩,fun a e=>?_⟩;cases e;exact⟨o,I.B0 _ o hk,hd⟩
  ·have z:∃ o,s.heap.get? p=some o/\o.ExactDict:=by
    rcases hk with ⟨aY,hk⟩ | ⟨aY,hk⟩
    ·obtain⟨_,_,_,_,o,_,_,e,ex,_⟩:=I.dA p _ hk;exact⟨o,e,ex⟩
    ·obtain⟨_,_,_,_,o,_,_,e,ex,_⟩:=I.dA p _ hk;exact⟨o,e,ex⟩
   obtain⟨o,e,ex⟩:=z;refine⟨⟨o,e,ex.1⟩,fun a e2=>?_⟩;cases e2;exact⟨o,e,ex.2.1⟩
  ·obtain⟨o,_,_,_,e,ex,_⟩:=I.dA p _ hk;refine⟨⟨o,e,ex.1⟩,fun a e2=>?_⟩;cases e2;exact⟨o,e,ex.2.1⟩
 | _=>exact bx ty
variable {o e:Expr} {es:List Expr} {to:TE} {t:TA} {name:Str} {apos kY:Pos} {T id:String} {r:V->List V->Hp->VK->Prop}
/- xs.append(e),list.index on a L5 tuple .. are U7 facts of 06m -/
end
noncomputable def U8(X:Cx)(id:String)(r:V->List V->Hp->VK->Prop):Prop :=
 ∀ (pins:List (Addr×Obj)) (s:ak) (σ:St) (H:Hp) (x:V) (xs:List V) (v:Value) (us:List Value) (Q:VK),Inv X pins σ H s->RelV x v->Vals xs us->r x xs H Q ->
  wpAny (model X.prog X.w) X.A (call (.builtin id) (v :: us)) (EP X pins σ Q) X.xe s
theorem Vals.one:∀ {x:V} {us:List Value},Vals [x] us->∃ u,us=[u]/\RelV x u:=by
 intro x us h;cases h with
 | cons r t=>cases t; exact⟨_,rfl,r⟩
theorem Vals.two:∀ {x y:V} {us:List Value},Vals [x,y] us->∃ u v,us=[u,v]/\RelV x u/\RelV y v:=by
 intro x y us h;cases h with
 | cons r t =>
  obtain⟨v,rfl,q⟩:=Vals.one t;exact⟨_,_,rfl,r,q⟩
section
variable {X:Cx} {pins:List (Addr×Obj)} {σ:St} {H:Hp} {s:ak} {l b:Addr} {xs ys zs:List V}
theorem Inv.J2{its its':List Value}{n:Nat}{f:Array Value->Array Value}{t':Nat}(I:Inv X pins σ H s)(hH:H l=some (.lst xs))
  (e:s.heap.get? l=some { cls:=.type "list",data:=.seq its.toArray n }) (hf:f its.toArray=its'.toArray) (hv:Vals ys its') (hz:ys.length<=aX) :
  Inv X pins σ (upd H l (.lst ys)) { s with heap:=s.heap.update l (cU f),toks:=t' }:=by
 have q:=PySem.IsL.update e f;rw [hf] at q;refine I.write (x:=l) (e:=l) (by rw [hH]; exact trivial) (.inl rfl) (fun b' u hb hu=>(cg s.heap (cU f) (mr hb)).trans hu) ⟨_,q⟩ ?_;exact⟨hz,its',_,hv,q⟩
theorem Inv.Pd{its:List Value}{t':Nat}(I:Inv X pins σ H s)(hv:Vals ys its)(hz:ys.length<=aX) :
  Inv X pins σ (upd H s.heap.objs.size (.lst ys)) { s with heap:=s.heap.push { cls:=.type "list",data:=.seq its.toArray },toks:=t' } :=
 I.laid (fun _ _ q=>ax _ q) (aG _) ⟨hz,its,0,hv,ba _ rfl⟩
theorem Inv.J1 (I:Inv X pins σ H s) (hH:H l=some (.lst xs)):xs.length<=aX/\∃ (its:List Value) (n:Nat),Vals xs its/\xs.length=its.length/\s.heap.get? l=some { cls:=.type "list",data:=.seq its.toArray n }:=by
 obtain⟨z,its,n,r,e⟩:=I.dA l _ hH;exact⟨z,its,n,r,r.length,e⟩
theorem E4{n:Nat}(h:n<=aX):hV n=false:=by
 unfold hV;exact decide_eq_false (by lia)
end
section
variable {X:Cx}
noncomputable def Hm:V->List V->Hp->VK->Prop:=fun x vs H Q=>∃ l xs y,x=.ref l/\vs=[y]/\H l=some (.lst xs)/\xs.length < aX/\Q .cR (upd H l (.lst (xs++[y])))
theorem wm:U8 X "list.append" Hm:=by
 intro pins s σ H x vs v us Q I rx rv h;obtain⟨l,xs,y,rfl,rfl,hH,hz,q⟩:=h;cases rx;obtain⟨u,rfl,ru⟩:=rv.one;obtain⟨z,its,n,r,hl,e⟩:=I.J1 hH;refine vg F.slot_list_append ⟨_,e,rfl⟩ F.entry_list_append (F.args_list_append_2 _ _) (PySem.list_append l its.toArray n u (by rw [aI]; lia)) ⟨e,?_⟩;refine⟨.cR,_,I.J2 (its':=its++[u]) hH e (by simp) (r.append (.cons ru .nil)) ?_,rfl,q⟩;rw [aP,dg];lia
end
section
variable {κ:Type} [DecidableEq κ]
noncomputable def jF(aY:List (κ×V))(k:κ):Option V:=(aY.find? fun kv=>decide (kv.1=k)).map (·.2)
noncomputable def putK(aY:List (κ×V))(k:κ)(v:V):List (κ×V) :=
 if (aY.any fun kv=>decide (kv.1=k))=true then aY.map (fun kv=>if kv.1=k then (kv.1,v) else kv) else aY++[(k,v)]
theorem mZ{p:κ×V}{r:List (κ×V)}{k:κ}(e:p.1=k):jF (p :: r) k=some p.2:=by simp [jF,dD,e]
theorem ng{p:κ×V}{r:List (κ×V)}{k:κ}(e:¬ p.1=k):jF (p :: r) k=jF r k:=by simp [jF,dD,e]
theorem yA(k:κ):∀ aY:List (κ×V),(aY.any fun kv=>decide (kv.1=k))=(jF aY k).isSome
 | []=>rfl
 | p :: r=>by
  rw [k7];by_cases e:p.1=k
  ·simp only [mZ e,decide_eq_true e,Bool.true_or,Option.isSome_some]
  ·rw [ng e,decide_eq_false e,DE]; exact yA k r
theorem rY(aY:List (κ×V))(k:κ)(v:V):(putK aY k v).length<=aY.length+1:=by
 unfold putK;split
 ·rw [af]; lia
 ·rw [aP,ai,av]; lia
theorem vX.lu{o:Option V}{u:Option Value}(r:vX o u):o.isSome=u.isSome:=by
 cases o with
 | none=>cases u with
  | none=>rfl
  | some _=>exact(show False from r).elim
 | some _=>cases u with
  | none=>exact(show False from r).elim
  | some _=>rfl
theorem KV.val{aY:List (κ×V)}{vs:List (κ×Value)}(r:KV aY vs)(k:κ):vX (jF aY k) (DT vs k):=by
 unfold KV at r;induction r with
 | nil=>exact iW
 | @cons p q ps qs h t ih =>
  obtain⟨h1,h2⟩:=h;by_cases e:p.1=k
  ·have e':q.1=k:=h1.symm.trans e;have b:DT (q :: qs) k=some q.2:=by simp [DT,dD,e']
   rw [mZ e,b]; exact h2
  ·have e':¬ q.1=k:=fun z=>e (h1.trans z);have b:DT (q :: qs) k=DT qs k:=by simp [DT,dD,e']
   rw [ng e,b]; exact ih
theorem KV.any{aY:List (κ×V)}{vs:List (κ×Value)}(r:KV aY vs)(k:κ):(aY.any fun kv=>decide (kv.1=k))=vs.any fun kv=>decide (kv.1=k):=by
 unfold KV at r;induction r with
 | nil=>rfl
 | cons h t ih=>rw [k7,k7,ih,h.1]
theorem KV.JE{aY:List (κ×V)}{vs:List (κ×Value)}(r:KV aY vs)(k:κ){y:V}{u:Value}(ry:RelV y u) :
  KV (aY.map fun kv=>if kv.1=k then (kv.1,y) else kv) (vs.map fun kv=>if kv.1=k then (kv.1,u) else kv):=by
 unfold KV at r ⊢;induction r with
 | nil=>exact .nil
 | @cons p q ps qs h t ih =>
  rw [ay,ay];refine .cons ?_ ih;obtain⟨h1,h2⟩:=h;by_cases e:p.1=k
  ·rw [if_pos e,if_pos (h1.symm.trans e)]; exact⟨h1,ry⟩
  ·rw [if_neg e,if_neg (fun z=>e (h1.trans z))]; exact⟨h1,h2⟩
theorem KV.put{aY:List (κ×V)}{vs:List (κ×Value)}(r:KV aY vs)(k:κ){y:V}{u:Value}(ry:RelV y u):KV (putK aY k y) (stored vs k u):=by
 unfold putK stored;rw [r.any k];by_cases e:(vs.any fun kv=>decide (kv.1=k))=true
 ·rw [if_pos e,if_pos e]; exact r.JE k ry
 ·rw [if_neg e,if_neg e]; exact Paired.snoc r ⟨rfl,ry⟩
theorem KV.length{aY:List (κ×V)}{vs:List (κ×Value)}(r:KV aY vs):aY.length=vs.length:=sL r
end
theorem zc{P:bC}{w:World}{k:Key}{u:Value}(r:RelV (kV k) u):(eP P w).is k u=true:=by
 cases k with
 | inl i=>obtain⟨t,e⟩:=(show ∃ t,u=dR i t from r); subst e; exact yX P w i t
 | inr x=>obtain⟨t,e⟩:=(show ∃ t,u=Value.str x t from r); subst e; exact yW P w x t
theorem wB{P:bC}{w:World}:∀ {ks:List Key} {us:List Value},Vals (ks.map kV) us->ItemsAre (eP P w) ks us
 | [],_,r=>by rw [a7] at r; cases r; exact .nil
 | k :: ks,_,r=>by
  rw [ay] at r;cases r with
  | cons h t=>exact .cons (zc h) (wB t)
noncomputable abbrev KT(H:Hp):List (List Key×V)->List (List Key×Addr×Value)->Prop:=Paired fun p q=>p.1=q.1/\H q.2.1=some (.tup (p.1.map kV))/\RelV p.2 q.2.2
theorem KT.val{H:Hp}{aY:List (List Key×V)}{xs:List (List Key×Addr×Value)}(r:KT H aY xs)(k:List Key):vX (jF aY k) ((atKey xs k).map (·.2)):=by
 induction r with
 | nil=>exact iW
 | @cons p q ps qs h t ih =>
  obtain⟨h1,_,h2⟩:=h;by_cases e:p.1=k
  ·have e':q.1=k:=h1.symm.trans e;have b:atKey (q :: qs) k=some q.2:=by simp [atKey,dD,e']
   rw [mZ e,b]; exact h2
  ·have e':¬ q.1=k:=fun z=>e (h1.trans z);have b:atKey (q :: qs) k=atKey qs k:=by simp [atKey,dD,e']
   rw [ng e,b]; exact ih
theorem KT.JE{H:Hp}{aY:List (List Key×V)}{xs:List (List Key×Addr×Value)}(r:KT H aY xs)(k:List Key){y:V}{u:Value}(ry:RelV y u) :
  KT H (aY.map fun kv=>if kv.1=k then (kv.1,y) else kv) (xs.map (putAt k u)):=by
 induction r with
 | nil=>exact .nil
 | @cons p q ps qs h t ih =>
  rw [ay,ay];refine .cons ?_ ih;obtain⟨h1,h2,h3⟩:=h;unfold putAt;by_cases e:p.1=k
  ·rw [if_pos e,if_pos (h1.symm.trans e)]; exact⟨h1,h2,ry⟩
  ·rw [if_neg e,if_neg (fun z=>e (h1.trans z))]; exact⟨h1,h2,h3⟩
theorem KT.put{H:Hp}{aY:List (List Key×V)}{xs:List (List Key×Addr×Value)}(r:KT H aY xs)(k:List Key){b:Addr}{y:V}{u:Value}(hb:H b=some (.tup (k.map kV)))(ry:RelV y u) :
  KT H (putK aY k y) (storedH xs k b u):=by
 have e:(aY.any fun kv=>decide (kv.1=k))=(atKey xs k).isSome:=by
  rw [yA,(r.val k).lu,jx]
 unfold putK storedH;rw [e];by_cases q:(atKey xs k).isSome=true
 ·rw [if_pos q,if_pos q]; exact r.JE k ry
 ·rw [if_neg q,if_neg q]; exact Paired.snoc r ⟨rfl,hb,ry⟩
theorem KT.keeps{H H':Hp}{aY:List (List Key×V)}{xs:List (List Key×Addr×Value)}(r:KT H aY xs)(ht:∀ b ys,H b=some (.tup ys)->H' b=some (.tup ys)):KT H' aY xs :=
 Paired.L6 r fun _ _ z=>⟨z.1,ht _ _ z.2.1,z.2.2⟩
section
variable {P:bC} {w:World} {H:Hp} {h:Heap} {a:Addr}
theorem IJ{u:HO}(ok:pG P w H h)(e:Rd H a u):fR P w H h a u:=e.ok ok
theorem qC{aY:List (Key×V)}(ok:pG P w H h)(e:Rd H a (.dK aY)):aY.length<=aX/\(a == gX)=false/\∃ vs,KV aY vs/\h.DictOf (eP P w) a vs :=
 show fR P w H h a (.dK aY) from IJ ok e
theorem zx{aY:List (Key×V)}(ok:pG P w H h)(e:H a=some (.dK aY)):aY.length<=aX/\(a == gX)=false/\∃ vs,KV aY vs/\h.DictOf (eP P w) a vs:=qC ok (.inl e)
theorem uB{ks:List Key}(ok:pG P w H h)(e:H a=some (.tup (ks.map kV))):(DV (eP P w)).is h ks a:=by
 obtain⟨_,its,r,o,h1,h2,n,h3⟩:=(show fR P w H h a (.tup (ks.map kV)) from ok a _ e);exact⟨o,its.toArray,n,h1,h2,h3,by simpa using wB r⟩
theorem wK{aY:List (List Key×V)}(ok:pG P w H h)(e:Rd H a (.dT aY)):aY.length<=aX/\(a == gX)=false /\
  ∃ xs,KT H aY xs/\h.DictOfH (DV (eP P w)) a xs:=by
 obtain⟨z,y,xs,r,o,es,ep,h1,h2,h3,h4,h5⟩:=(show fR P w H h a (.dT aY) from IJ ok e);refine⟨z,y,xs,r,o,es,ep,h1,h2,h3,h4,fun x hx=>?_,h5⟩;have all:∀ {l:List (List Key×V)} {m:List (List Key×Addr×Value)},KT H l m->∀ x∈m,(DV (eP P w)).is h x.1 x.2.1:=by
  intro l m q;induction q with
  | nil=>intro x hx; exact nomatch hx
  | @cons p q ps qs hq t ih =>
   intro x hx;rcases List.mem_cons.mp hx with e | hx
   ·subst e;exact uB ok (by rw [<-hq.1]; exact hq.2.1)
   ·exact ih x hx
 exact all r x hx
theorem Jb{aY:List (List Key×V)}(ok:pG P w H h)(e:H a=some (.dT aY)):aY.length<=aX/\(a == gX)=false /\
  ∃ xs,KT H aY xs/\h.DictOfH (DV (eP P w)) a xs:=wK ok (.inl e)
end
noncomputable def ve(H:Hp)(a:Addr)(y:V)(r:Option V):Prop :=
 (∃ aY k,Rd H a (.dK aY)/\y=kV k/\r=jF aY k)\/∃ aY k b,Rd H a (.dT aY)/\y=.ref b/\H b=some (.tup (k.map kV))/\r=jF aY k
noncomputable def DA(H:Hp)(a:Addr)(y v:V)(H':Hp):Prop :=
 (∃ aY k,H a=some (.dK aY)/\y=kV k/\aY.length < aX/\H'=upd H a (.dK (putK aY k v))) \/
 ∃ aY k b,H a=some (.dT aY)/\y=.ref b/\H b=some (.tup (k.map kV))/\aY.length < aX/\H'=upd H a (.dT (putK aY k v))
theorem ve.k{H:Hp}{a:Addr}{aY:List (Key×V)}{k:Key}(e:H a=some (.dK aY)):ve H a (kV k) (jF aY k):=.inl ⟨aY,k,.inl e,rfl,rfl⟩
theorem ve.t{H:Hp}{a b:Addr}{aY:List (List Key×V)}{k:List Key}(e:H a=some (.dT aY))(eb:H b=some (.tup (k.map kV))):ve H a (.ref b) (jF aY k):=.inr ⟨aY,k,b,.inl e,rfl,eb,rfl⟩
theorem DA.k{H:Hp}{a:Addr}{aY:List (Key×V)}{k:Key}{v:V}(e:H a=some (.dK aY))(hl:aY.length < aX):DA H a (kV k) v (upd H a (.dK (putK aY k v))):=.inl ⟨aY,k,e,rfl,hl,rfl⟩
theorem DA.t{H:Hp}{a b:Addr}{aY:List (List Key×V)}{k:List Key}{v:V}(e:H a=some (.dT aY))(eb:H b=some (.tup (k.map kV)))(hl:aY.length < aX) :
  DA H a (.ref b) v (upd H a (.dT (putK aY k v))):=.inr ⟨aY,k,b,e,rfl,eb,hl,rfl⟩
section
variable {X:Cx} {pins:List (Addr×Obj)} {σ:St} {H:Hp} {s:ak} {a:Addr} {y v:V} {u r:Value} {o:Option V} {A:cF} {E:Value->ak->Prop}
theorem Inv.big(I:Inv X pins σ H s):gX < s.heap.objs.size:=by
 have h:bG < s.heap.objs.size:=(I.mod.glob.keeps I.bk).lt;exact Nat.lt_trans (by decide) h
theorem rK{Q:Value->ak->Prop}(hu:A.units+1 < cLine)(I:Inv X pins σ H s)(g:ve H a y (some v))(ry:RelV y u)(h:∀ w' s',Inv X pins σ H s'->RelV v w'->Q w' s') :
  wpAny (model X.prog X.w) A (getItem (.ref a) u) Q E s:=by
 rcases g with ⟨aY,k,e,ey,l⟩ | ⟨aY,k,b,e,ey,eb,l⟩
 ·subst ey;obtain⟨z,hd,vs,rel,dd⟩:=qC I.dA e;obtain⟨w',hw,o6⟩:=vX.some_of (v:=v) (o:=DT vs k) (by rw [l]; exact rel.val k);exact wpAny_getItem_of (zc ry) dd.mapOf hw (h w' _ (I.tok _) o6)
 ·subst ey;cases (show u=mW b from ry);obtain⟨z,hd,xs,rel,dd⟩:=wK I.dA e;obtain⟨w',hw,o6⟩:=vX.some_of (v:=v) (o:=(atKey xs k).map (·.2)) (by rw [l]; exact rel.val k);obtain⟨p,hp,xH⟩:=Option.map_eq_some_iff.mp hw;refine wpAny_getItem_heap (oH hu) (uB I.dA eb) dd hp ?_;rw [xH];exact h w' _ (I.tok _) o6
theorem MT{Q:Value->ak->Prop}(hu:A.units+1 < cLine)(I:Inv X pins σ H s)(g:ve H a y o)(ry:RelV y u)(h:∀ s',Inv X pins σ H s'->Q (.bool o.isSome) s') :
  wpAny (model X.prog X.w) A (cX .In u (.ref a)) Q E s:=by
 rcases g with ⟨aY,k,e,ey,l⟩ | ⟨aY,k,b,e,ey,eb,l⟩
 ·subst ey;obtain⟨z,hd,vs,rel,dd⟩:=qC I.dA e;refine wpAny_in_of (zc ry) hd dd.mapOf ?_;rw [<-(rel.val k).lu,<-l];exact h _ (I.tok _)
 ·subst ey;cases (show u=mW b from ry);obtain⟨z,hd,xs,rel,dd⟩:=wK I.dA e;refine wpAny_in_heap (oH hu) (uB I.dA eb) hd dd ?_;have q:=(rel.val k).lu;rw [jx] at q;rw [<-q,<-l];exact h _ (I.tok _)
theorem Ci{Q:Value->ak->Prop}(hu:A.units+1 < cLine)(I:Inv X pins σ H s)(g:ve H a y o)(ry:RelV y u)(h:∀ s',Inv X pins σ H s'->Q (.bool (!o.isSome)) s') :
  wpAny (model X.prog X.w) A (cX .NotIn u (.ref a)) Q E s:=by
 rcases g with ⟨aY,k,e,ey,l⟩ | ⟨aY,k,b,e,ey,eb,l⟩
 ·subst ey;obtain⟨z,hd,vs,rel,dd⟩:=qC I.dA e;refine wpAny_notIn_of (zc ry) hd dd.mapOf ?_;rw [<-(rel.val k).lu,<-l];exact h _ (I.tok _)
 ·subst ey;cases (show u=mW b from ry);obtain⟨z,hd,xs,rel,dd⟩:=wK I.dA e;refine wpAny_notIn_heap (oH hu) (uB I.dA eb) hd dd ?_;have q:=(rel.val k).lu;rw [jx] at q;rw [<-q,<-l];exact h _ (I.tok _)
theorem Cg{h':Heap}{t':Nat}{ob:HO}(I:Inv X pins σ H s)(mu:Na (H a))(hs:GA a s.heap h')(he:∃ q,h'.get? a=some q)(new:fR X.prog X.w (upd H a ob) h' a ob) :
  Inv X pins σ (upd H a ob) { s with heap:=h',toks:=t' } :=
 I.write (x:=a) (e:=a) mu (.inl rfl) (fun b q hb z=>(hs.2 b hb).trans z) he new
theorem KG{P:bC}{w:World}{H':Hp}{h':Heap}{aY:List (Key×V)}{vs:List (Key×Value)}(z:aY.length<=aX)(hd:(a == gX)=false)(rel:KV aY vs)(dd:h'.DictOf (eP P w) a vs) :
  fR P w H' h' a (.dK aY):=⟨z,hd,vs,rel,dd⟩
theorem Dk{H':Hp}{Q:Unit->ak->Prop}(hu:A.units+1 < cLine)(I:Inv X pins σ H s)(g:DA H a y v H')(ry:RelV y u)(rv:RelV v r)(h:∀ s',Inv X pins σ H' s'->Q () s') :
  wpAny (model X.prog X.w) A (setItem (.ref a) u r) Q E s:=by
 rcases g with ⟨aY,k,e,ey,l,eH⟩ | ⟨aY,k,b,e,ey,eb,l,eH⟩
 ·subst ey eH;obtain⟨z,hd,vs,rel,dd⟩:=zx I.dA e;have hz:vs.length<=aX:=by rw [<-rel.length]; exact z
  have hl:(putK aY k v).length<=aX:=by have:=rY aY k v; lia
  refine wpAny_setItem_pairs (hsz:=hz) (zc ry) dd fun h' NU hs=>h _ ?_;have he:∃ q,h'.get? a=some q:=let ⟨q,_,_,hq,_⟩:=NU; ⟨q,hq⟩
  exact Cg I (by rw [e]; exact iW) hs he (KG hl hd (rel.put k rv) NU)
 ·subst ey eH;cases (show u=mW b from ry);obtain⟨z,hd,xs,rel,dd⟩:=Jb I.dA e;have hz:xs.length<=aX:=by rw [<-sL rel]; exact z
  have hl:(putK aY k v).length<=aX:=by have:=rY aY k v; lia
  refine wpAny_setItem_heap (hsz:=hz) (oH hu) (uB I.dA eb) dd fun h' NU hs=>h _ ?_;obtain⟨q,es,ep,hq,h2,h3,h4,_,h5⟩:=NU;refine Cg I (by rw [e]; exact iW) hs ⟨q,hq⟩ ⟨hl,hd,_,(rel.put k eb rv).keeps fun c ys ec=>?_,q,es,ep,hq,h2,h3,h4,h5⟩;rw [bM (L3 ec e (fun z=>nomatch z))];exact ec
end
section
variable {X:Cx} {pins:List (Addr×Obj)} {σ:St} {H:Hp} {s:ak} {a:Addr} {aY:List (Key×V)} {k:Key} {u:Value} {A:cF} {E:Value->ak->Prop}
theorem Jd {Q:Value->ak->Prop} (I:Inv X pins σ H s) (e:Rd H a (.dK aY)) (h:∀ t s',Inv X pins σ H s'->Q (.int aY.length t) s'):wpAny (model X.prog X.w) A (call (.builtin "len") [.ref a]) Q E s:=by
 obtain⟨z,hd,vs,rel,dd⟩:=qC I.dA e;refine call_len_dict hd dd (by rw [<-rel.length]; rw [cf] at z; lia) ?_;rw [<-rel.length];exact h _ _ (I.tok _)
theorem Ip{Q:Bool->ak->Prop}(I:Inv X pins σ H s)(e:Rd H a (.dK aY))(h:∀ s',Inv X pins σ H s'->Q (!aY.isEmpty) s'):wpAny (model X.prog X.w) A (truthy (.ref a)) Q E s:=by
 obtain⟨z,hd,vs,rel,dd⟩:=qC I.dA e;refine z0 hd dd (by rw [<-rel.length]; rw [cf] at z; lia) ?_;have q:aY.isEmpty=vs.isEmpty:=by cases rel <;> rfl
 rw [<-q];exact h _ (I.tok _)
end
theorem nV {X:Cx} {pins:List (Addr×Obj)} {σ:St} {H:Hp} {s:ak} {a:Addr} {y:V} {o:Option V} (I:Inv X pins σ H s) (g:ve H a y o):s.TypeIs (.ref a) "dict":=by
 rcases g with ⟨aY,k,e,_,_⟩ | ⟨aY,k,b,e,_,_,_⟩
 ·obtain⟨_,_,vs,_,dd⟩:=qC I.dA e;exact dd.typeIs
 ·obtain⟨_,_,xs,_,dd⟩:=wK I.dA e;exact dd.typeIs
theorem FQ {P:bC} {w:World} {H:Hp} (h:Heap) (hb:gX < h.objs.size):fR P w H (h.push { cls:=.type "dict",data:=.dict #[] }) h.objs.size (.dK []) :=
 ⟨bS _,beq_eq_false_iff_ne.mpr (mr (bh hb)),[],.nil,Heap.DictOf.new h⟩
noncomputable def Jt:TE:=fun _ H Q=>∀ p,H p=none->Q (.ref p) (upd H p (.dK []))
section
variable {X:Cx} {pos:Pos}
theorem EU:PE X (.Dict [] [] pos) Jt:=fun pins s σ H Q I h =>
 wpAny_Dict_empty ⟨.ref s.heap.objs.size,_,I.laid (a:=s.heap.objs.size) (o:=.dK []) (t':=s.toks) (fun _ _ q=>ax _ q) (aG _) (FQ s.heap I.big),rfl,h _ (I.dA.fresh (aG _))⟩
end
structure M1(X:Cx)(o:Expr)(m:Str)(apos:Pos)(e:Expr)(kY:Pos):Prop where
 base:attributeBase o m X.env (eval o X.env)=eval o X.env
 Il:((jd kY (bA [e] X.env)).all (fun x=>!x.1)&&(backToKw kY (keywordEach [] X.env)).all (fun x=>x.1.isSome)
  && decide (([e]:List Expr).length+([]:List Ea).length+(if ([]:List Ea).isEmpty then 0 else 1) < 30))=true
 line:(apos.endLine == kY.line)=true
 trees:jd kY (bA [e] X.env)=[(false,eval e X.env)]
structure M2(X:Cx)(o:Expr)(m:Str)(apos:Pos)(e f:Expr)(kY:Pos):Prop where
 base:attributeBase o m X.env (eval o X.env)=eval o X.env
 Il:((jd kY (bA [e,f] X.env)).all (fun x=>!x.1)&&(backToKw kY (keywordEach [] X.env)).all (fun x=>x.1.isSome)
  && decide (([e,f]:List Expr).length+([]:List Ea).length+(if ([]:List Ea).isEmpty then 0 else 1) < 30))=true
 line:(apos.endLine == kY.line)=true
 trees:jd kY (bA [e,f] X.env)=[(false,eval e X.env),(false,eval f X.env)]
end L2
namespace Rx
open PySem PySem.W PySem.Calls PyProof.Rows
theorem sC{P:Params}{h:Heap}:∀ (ns:List Int) (vs:List Value),WellAll P h vs (ns.map WData.int)->jT vs ns:=by
 intro ns;induction ns with
 | nil =>
  intro vs w;rw [a7] at w;cases w;exact .nil
 | cons n ns ih =>
  intro vs w;rw [ay] at w;cases w with
  | cons a b =>
   cases a;exact .cons _ _ (ih _ b)
theorem CH{l:D5}{n:Nat}(hn:l.most=some n){P:Params}{h:Heap}{args:List WData}{vals:List Value}
  (vD:l.row.toRowW.claim.pre args=true) (Pr:WellAll P h vals args) :
  ∃ a vs ns,vals=[mW a]/\args=[WData.list (ns.map WData.int)]/\h.get? a=some { cls:=.type "list",data:=.seq vs.toArray }/\jT vs ns/\ns.length<=n:=by
 have NF:WShape.hasAll [] args [.list .int]=true:=(pre_splitW vD).1;have hc:l.pre.holds [] { args:=args } = true:=(pre_splitW vD).2;obtain⟨d,r,rfl,h1,h2⟩:=hasAllW_cons NF;obtain rfl:=hasAllW_nil h2;obtain⟨xs,rfl,h3⟩:=hasW_list h1;obtain⟨ns,rfl⟩:=items_int h3;have hlen:ns.length<=n:=by
  unfold OpenLaw.pre at hc;have h4:(WTm.not (.lt (.lit (.int (n:Int))) (.len (.arg 0)))).holds [] { args:=[.list (ns.map .int)] } = true:=by
   have h4:=(holds_andW hc).1;rw [hn] at h4;exact h4
  have h5:=condW_of h4 (w_not (w_lt w_lit (w_len_list (w_arg rfl))));rw [af] at h5;refine Nat.le_of_not_lt fun q=>?_;have q':(n:Int) < ((ns.length:Nat):Int):=by lia
  first
   | (rw [decide_eq_true q'] at h5; exact absurd h5 (by decide))
   | (simp at h5; lia)
 cases Pr with
 | cons w1 w2 =>
  cases w2;cases w1 with
  | list ho Fy=>exact⟨_,_,ns,rfl,rfl,ho,sC ns _ Fy,hlen⟩
theorem CN(l:D5)(args:List WData):l.row.toRowW.claim.post args (.bool true) args=true :=
 postW_of (r:=l.row.toRowW) (X:=(true == true))
  (show WShape.has [] (.bool true) .bool=true by first | rfl | decide | simp [WShape.has,WShape.arms,WShape.armsAll])
  (show (WTm.eq .res (.lit (.bool true))).value [] { args:=args,res:=some (.bool true),after:=args } = some (.bool (true == true)) from w_eq_bool (w_res rfl) w_lit) rfl
theorem zJ{l:D5}{n:Nat}{q:bC}{loose:List Str}{XP:(Str->Option Value)->Heap->Prop}{YP:World->Heap->Prop}{d:DefRec}
  (hn:l.most=some n) (PO:d.params.defaults=[])
  (call:∀ (w:World) (kq dS:ak) (mg mb:Str->Option Value) (fa:Addr) (o:Obj) (pm cd doc:Value) (a:Addr) (vs:List Value) (ns:List Int),
   Ground q loose [] XP w kq mg mb dS.heap->YP w dS.heap ->
   dS.heap.get? fa=some o->o.data=.func (docDef d.name d.params d.body d.scope pm cd doc)->dS.heap.CodeRec cd d.name->mg d.name=some (.ref fa) ->
   dS.heap.get? a=some { cls:=.type "list",data:=.seq vs.toArray }->jT vs ns->ns.length<=n->dS.gens=#[] ->
   tP (model l.prog w) D3 (.call (.ref fa) ⟨[.ref a],[]⟩) (fun r s'=>r=.ok (.ret (.bool true))/\OldK dS.heap s'.heap/\s'.os=dS.os/\w4 s'.gens) dS) :
  WalkO q loose XP YP l.row.toRowW d [] (fun f vs=>PySem.call f vs):=by
 intro w kq dS mg mb G Y fa o pm cd doc dV kV ho hd yq hD Mp hg args vals as vD Tf PC Pr Vs;obtain rfl:dV=.none:=Dflts.none hD PO;obtain rfl:kV=.none:=Dflts.noKw hD;obtain⟨a,vs,ns,rfl,rfl,Ki,hints,hlen⟩:=CH hn vD Pr;refine enter_call (codeAny_mono (call w kq dS mg mb fa o pm cd doc a vs ns G Y ho (fd_plain hd) yq Mp Ki hints hlen hg) fun r s' hq=>?_);obtain⟨rfl,h2,h3,h4⟩:=hq;exact⟨.inl ⟨.bool true,.bool true,[],rfl,fun _=>rfl,.bool true,CN l _,fun _=>⟨List.Pairwise.nil,fun _ hm=>(nomatch hm)⟩⟩,h2,h3,h4⟩
end Rx
namespace L2
open PySem PySem.Spec PyProof.Rows
theorem v7:∀ {vs:List Value} {ns:List Int},jT vs ns->Vals (ns.map V.int) vs
 | _,_,.nil=>.nil
 | _,_,.cons n t h=>.cons ⟨t,rfl⟩ (v7 h)
end L2
/- VC U9 NY (shape; VD,My.* are Ql):
   My.VG: a structure of Ou addresses RK RC QH names (classes,Lj); My.Txt K t: a structure (Prop) of Ou equations over K;
   My.Ot:{K} {implicit addresses ..} (e1:nsIn K bG "law" = some (some (.ref f))) (e2:K.lookup f=some ⟨oc,od,.func (fnOf "law" "law" params body scope dV kV doc pm an jA ct),sl⟩) (e3:codeIn K jA "law" = true) ..:∃ t,My.Txt K t
(Ou tactic k_is has no namespace: write k_is) -/
namespace L2
open PySem PySem.Spec PyProof.Rows
noncomputable def kE(s:Stmt):Eb:=match s with
 | .FunctionDef _ a _ _ _ _ _ _ _ _=>a
 | _=>{ posonlyargs:=[],args:=[],vararg:=none,kwonlyargs:=[],kw_defaults:=[],kwarg:=none,defaults:=[] }
noncomputable def gG(s:Stmt):List Stmt:=match s with
 | .FunctionDef _ _ b _ _ _ _ _ _ _=>b
 | _=>[]
noncomputable def aR(s:Stmt):Scope:=match s with
 | .FunctionDef _ _ _ _ _ _ sc _ _ _=>sc
 | _=>{ kind:=.function,names:=[],isGenerator:=false,isCoroutine:=false }
noncomputable abbrev fV:DS:=fun _ _ _ _ _ _=>False
noncomputable abbrev E0:XK:=fun _ _ _=>False
theorem IP{X:Cx}:Passes fV X E0:=fun _ _ _ _ _ _ _ h=>h.elim
structure mP(K:ah)(x qual:Str)(st:Stmt)(f:Addr)(fd:aB):Prop where
 ex:∃ (oc:Value) (od:Option Addr) (kV doc pm:Value) (an:Option Addr) (jA ct:Value) (DJ:Array (Option Value)),
  fd=iN x qual (kE st) (gG st) (aR st) .none kV doc pm an jA ct/\K.lookup f=some ⟨oc,od,.func fd,DJ⟩/\yx K jA qual=true
 kp:iq K (.ref f)=true
section
variable {P:bC} {w:World} {K:ah} {mg:Str->Option Value} {base:Heap}
theorem mP.ok{x qual:Str}{st:Stmt}{f:Addr}{fd:aB}{N ps:List Str}{k:Nat}{sp:Sp}(F:mP K x qual st f fd)(S:bV N ps (aR st))(len:∀ vs H Q E,sp vs H Q E->vs.length=ps.length)
  (Fx:∀ (jA:Value) (A:cF) (outer:List Env) (s:ak) (H:Hp) (vs:List V) (Q:VK) (E:XK),iM k (A.deeper (tO qual (aR st) s.heap.objs.size f jA))->sp vs H Q E ->
   ∃ t,Lo (uY fV P w K mg base N qual (aR st) f jA A outer s H E).GF (gG st) t/\t { nx:=fun _ H'=>Q .cR H',rt:=Q } (start N vs) H):fB P w K mg base fV (k+1) f fd ps sp:=by
 obtain⟨oc,od,kV,doc,pm,an,jA,ct,DJ,rfl,lk,yq⟩:=F.ex;refine Ja lk yq S len fun A outer s H vs Q E hr ND=>?_;obtain⟨t,h,q⟩:=Fx jA A outer s H vs Q E hr ND;exact⟨t,h.GF,q⟩
theorem mP.binds{x qual:Str}{st:Stmt}{f:Addr}{fd:aB}{ps:List Str}(F:mP K x qual st f fd)
  (h:∀ (kV doc pm:Value) (an:Option Addr) (jA ct:Value) (us:List Value),us.length=ps.length->bindArgs (iN x qual (kE st) (gG st) (aR st) .none kV doc pm an jA ct) ⟨us,[]⟩=pure (ps.zip us)):Binds K fd ps []:=by
 obtain⟨oc,od,kV,doc,pm,an,jA,ct,DJ,rfl,lk,yq⟩:=F.ex;exact .all (h kV doc pm an jA ct)
theorem Kz{x qual:Str}{st:Stmt}{f:Addr}{oc:Value}{od an:Option Addr}{DJ:Array (Option Value)}{kV doc pm jA ct:Value}(l:K.lookup f=some ⟨oc,od,.func (iN x qual (kE st) (gG st) (aR st) .none kV doc pm an jA ct),DJ⟩)
  (c:yx K jA qual=true) (k:iq K (.ref f)=true):mP K x qual st f (iN x qual (kE st) (gG st) (aR st) .none kV doc pm an jA ct):=⟨⟨oc,od,kV,doc,pm,an,jA,ct,DJ,rfl,l,c⟩,k⟩
end
end L2
set_option autoImplicit false
section
namespace K2
open PySem (Str)
inductive D where
 | cR | bl (b:Bool) | int (i:Int) | str (x:Str) | tup (ds:List D) | dm (ds:List D) | mR (aY:List (D×D)) | ref (a:Nat) | exc (c:Str)
 deriving Inhabited
inductive GO where
 | lst (ds:List D)
 | iV (aY:List (D×D))
noncomputable abbrev Gp:=Nat->Option GO
noncomputable def cB(G:Gp)(a:Nat)(o:GO):Gp:=fun b=>if b=a then some o else G b
theorem aC{G:Gp}{a:Nat}{o:GO}:cB G a o a=some o:=by unfold cB; rw [if_pos rfl]
theorem cw{G:Gp}{a b:Nat}{o:GO}(h:b≠a):cB G a o b=G b:=by unfold cB; rw [if_neg h]
noncomputable abbrev SZ:Nat:=16777216
structure Ex where
 cls:Str
 T5:List (Str×D)
noncomputable abbrev ke:=Ex->Gp->Prop
noncomputable abbrev gx:=List (Option D)
noncomputable abbrev DK:=D->Gp->Prop
noncomputable abbrev fQ:=ke->gx->Gp->DK->Prop
noncomputable abbrev u5:=ke->gx->Gp->(Bool->Gp->Prop)->Prop
noncomputable abbrev zZ:=ke->gx->Gp->(List D->Gp->Prop)->Prop
structure jB where
 nx:gx->Gp->Prop
 rt:DK
 bk:gx->Gp->Prop
 ct:gx->Gp->Prop
noncomputable abbrev gW:=ke->jB->gx->Gp->Prop
noncomputable abbrev mq:=List D->Gp->DK->ke->Prop
noncomputable abbrev vY:=D->D->Gp->DK->Prop
noncomputable def B3(n:Nat)(i:Int):Option Nat:=if 0<=i then (if i < n then some i.toNat else none) else if -(n:Int)<=i then some (i+n).toNat else none
noncomputable def oV{α:Type}(xs:List α)(i:Int):Option α:=(B3 xs.length i).bind fun j=>xs[j]?
noncomputable def g6(n d:Nat):Option Int->Nat
 | none=>d
 | some v=>if v < 0 then (v+(n:Int)).toNat else min v.toNat n
noncomputable def cut{α:Type}(xs:List α)(lo hi:Option Int):List α:=(xs.drop (g6 xs.length 0 lo)).take (g6 xs.length xs.length hi - g6 xs.length 0 lo)
mutual
noncomputable def gy:D->D->Bool
 | .cR,.cR=>true
 | .bl a,.bl b=>a == b
 | .bl a,.int b=>(if a then 1 else 0) == b
 | .int a,.bl b=>a == (if b then 1 else 0)
 | .int a,.int b=>a == b
 | .str a,.str b=>a == b
 | .tup a,.tup b=>jh a b
 | .dm a,.dm b=>jh a b
 | _,_=>false
noncomputable def jh:List D->List D->Bool
 | [],[]=>true
 | a :: r,b :: t=>gy a b&&jh r t
 | _,_=>false
end
mutual
noncomputable def nr:D->Bool
 | .ref _=>false
 | .exc _=>false
 | .mR _=>false
 | .str x=>x.cps.all (· < 0x110000)
 | .tup ds=>mE ds
 | .dm ds=>mE ds
 | _=>true
noncomputable def mE:List D->Bool
 | []=>true
 | d :: r=>nr d&&mE r
end
class inductive Sn (G:Gp):Nat->D->D->Prop
 | cR {n:Nat}:Sn G n .cR .cR
 | bl {n:Nat} (b:Bool):Sn G n (.bl b) (.bl b)
 | int {n:Nat} (i:Int):Sn G n (.int i) (.int i)
 | str {n:Nat} (x:Str) (h:x.cps.all (· < 0x110000)=true):Sn G n (.str x) (.str x)
 | Av {n:Nat}:Sn G (n+1) (.tup []) (.tup [])
 | ni {n:Nat} {d s:D} {ds ss:List D}:Sn G n d s->Sn G (n+1) (.tup ds) (.tup ss)->Sn G (n+1) (.tup (d :: ds)) (.tup (s :: ss))
 | CK {n:Nat}:Sn G (n+1) (.dm []) (.dm [])
 | wd {n:Nat} {d s:D} {ds ss:List D}:Sn G n d s->Sn G (n+1) (.dm ds) (.dm ss)->Sn G (n+1) (.dm (d :: ds)) (.dm (s :: ss))
 | ref {n:Nat} {a:Nat} {ds ss:List D}:G a=some (.lst ds)->Sn G n (.dm ds) (.dm ss)->Sn G n (.ref a) (.dm ss)
noncomputable abbrev SN:Nat:=8
theorem Sn.nr{G:Gp}{n:Nat}{d t:D}(h:Sn G n d t):K2.nr t=true:=by
 induction h with
 | cR=>rfl
 | bl b=>rfl
 | int i=>rfl
 | str x h=>exact h
 | Av=>rfl
 | ni _ _ Fo Fn =>
  show (K2.nr _&&K2.mE _)=true;rw [Fo];exact Fn
 | CK=>rfl
 | wd _ _ Fo Fn =>
  show (K2.nr _&&K2.mE _)=true;rw [Fo];exact Fn
 | ref _ _ ih=>exact ih
noncomputable def dF:D->Bool
 | .int _=>true
 | .str _=>true
 | _=>false
noncomputable def CC:D->Gp->Option Bool
 | .cR,_=>some false
 | .bl b,_=>some b
 | .int i,_=>some (i != 0)
 | .str x,_=>if x.length<=SZ then some ((x.length:Int) != 0) else none
 | .tup ds,_=>some (!ds.isEmpty)
 | .dm ds,_=>some (!ds.isEmpty)
 | .exc _,_=>none
 | .mR aY,_=>if (aY.all fun p=>dF p.1)=true then some (!aY.isEmpty) else none
 | .ref a,G=>match G a with
  | some (.lst ds)=>some (!ds.isEmpty)
  | some (.iV aY)=>if (aY.all fun p=>dF p.1)=true then some (!aY.isEmpty) else none
  | none=>none
noncomputable def au(i:Nat):fQ:=fun _ τ G Q=>match τ[i]? with
 | some (some d)=>Q d G
 | _=>False
noncomputable def dC(d:D):fQ:=fun _ _ G Q=>Q d G
noncomputable def aT:zZ:=fun _ _ G Q=>Q [] G
noncomputable def az(a:fQ)(r:zZ):zZ:=fun E τ G Q=>a E τ G fun x G1=>r E τ G1 fun xs G2=>Q (x :: xs) G2
noncomputable def lC(t:zZ):fQ:=fun E τ G Q=>t E τ G fun ds G1=>ds.length<=SZ/\Q (.tup ds) G1
noncomputable def fe(t:zZ):fQ:=fun E τ G Q=>t E τ G fun ds G1=>ds.length<=SZ/\∀ p,G1 p=none->Q (.ref p) (cB G1 p (.lst ds))
noncomputable def aZ(r:vY)(a b:fQ):fQ:=fun E τ G Q=>a E τ G fun x G1=>b E τ G1 fun y G2=>r x y G2 Q
noncomputable def Dm(r:D->Gp->DK->Prop)(a:fQ):fQ:=fun E τ G Q=>a E τ G fun x G1=>r x G1 Q
noncomputable def jw(G:Gp)(o:GO)(Q:DK):Prop:=∀ p,G p=none->Q (.ref p) (cB G p o)
noncomputable def MulOk(i j:Int):Prop:=(-(2 ^ 64) < i/\i < 2 ^ 64)\/(-(2 ^ 64) < j/\j < 2 ^ 64)
noncomputable def mF:D->Gp->Option (List D)
 | .dm ds,_=>some ds
 | .ref a,G=>match G a with
  | some (.lst ds)=>some ds
  | _=>none
 | _,_=>none
noncomputable def uZ(x y:D)(G:Gp)(Q:DK):Prop:=match mF x G,mF y G with
 | some xs,some ys=>xs.length+ys.length<=SZ/\jw G (.lst (xs++ys)) Q
 | _,_=>False
noncomputable def gR:vY
 | .int i,.int j,G,Q=>Q (.int (i+j)) G
 | .str a,.str b,G,Q=>a.length+b.length<=SZ/\Q (.str (a++b)) G
 | .tup a,.tup b,G,Q=>a≠[]/\a.length+b.length<=SZ/\Q (.tup (a++b)) G
 | x,y,G,Q=>uZ x y G Q
noncomputable def JG:vY
 | .int i,.int j,G,Q=>Q (.int (i - j)) G
 | _,_,_,_=>False
noncomputable def xk:vY
 | .int i,.int j,G,Q=>MulOk i j/\Q (.int (i * j)) G
 | _,_,_,_=>False
noncomputable def jI:vY
 | .int i,.int j,G,Q=>0 < j/\Q (.int (i % j)) G
 | _,_,_,_=>False
noncomputable def yO:vY
 | .int i,.int j,G,Q=>0 < j/\j < 2 ^ 30/\Q (.int (i / j)) G
 | _,_,_,_=>False
noncomputable def EL:D->Gp->DK->Prop
 | .int i,G,Q=>Q (.int (-i)) G
 | _,_,_=>False
noncomputable def IK(neg:Bool):vY:=fun x y G Q=>∃ a b,Sn G SN x a/\Sn G SN y b/\Q (.bl (if neg then !gy a b else gy a b)) G
noncomputable def lexLt:List Int->List Int->Bool
 | [],[]=>false
 | [],_ :: _=>true
 | _ :: _,[]=>false
 | x :: xs,y :: ys=>if x=y then lexLt xs ys else decide (x < y)
noncomputable def Np:vY
 | .int i,.int j,G,Q=>Q (.bl (decide (i < j))) G
 | .tup a,.tup b,G,Q=>∃ xs ys,a=xs.map D.int/\b=ys.map D.int/\Q (.bl (lexLt xs ys)) G
 | _,_,_,_=>False
noncomputable def R9:vY
 | .int i,.int j,G,Q=>Q (.bl (decide (i<=j))) G
 | _,_,_,_=>False
noncomputable def Sa:vY
 | .int i,.int j,G,Q=>Q (.bl (decide (i > j))) G
 | _,_,_,_=>False
noncomputable def Sb:vY
 | .int i,.int j,G,Q=>Q (.bl (decide (i>=j))) G
 | _,_,_,_=>False
noncomputable def CM(neg:Bool):D->Gp->DK->Prop:=fun x G Q=>match x with
 | .cR=>Q (.bl (!neg)) G
 | _=>Q (.bl neg) G
noncomputable def itemsOf:D->Gp->Option (List D)
 | .tup ds,_=>some ds
 | .dm ds,_=>some ds
 | .ref a,G=>match G a with
  | some (.lst ds)=>some ds
  | _=>none
 | _,_=>none
noncomputable def pf:D->Bool
 | .tup ds=>ds.all dF
 | _=>false
noncomputable def gr(aY:List (D×D))(k:D):Bool:=(dF k&&aY.all fun p=>dF p.1)||(pf k&&aY.all fun p=>pf p.1)
noncomputable def look(aY:List (D×D))(k:D):Option D:=(aY.find? fun p=>gy p.1 k).map (·.2)
noncomputable def put(aY:List (D×D))(k v:D):List (D×D) :=
 if (aY.any fun p=>gy p.1 k)=true then aY.map (fun p=>if gy p.1 k=true then (p.1,v) else p) else aY++[(k,v)]
noncomputable def yo(neg:Bool):vY:=fun x y G Q=>match y with
 | .ref a=>(match G a with
  | some (.iV aY)=>gr aY x=true/\Q (.bl (if neg then !(look aY x).isSome else (look aY x).isSome)) G
  | some (.lst ds)=>∃ s ss,Sn G SN x s/\Sn G SN (.dm ds) (.dm ss)/\Q (.bl (if neg then !ss.any (gy · s) else ss.any (gy · s))) G
  | none=>False)
 | .mR aY=>aY≠[]/\gr aY x=true/\Q (.bl (if neg then !(look aY x).isSome else (look aY x).isSome)) G
 | .tup ds=>∃ s ss,Sn G SN x s/\Sn G SN (.dm ds) (.dm ss)/\Q (.bl (if neg then !ss.any (gy · s) else ss.any (gy · s))) G
 | .dm ds=>∃ s ss,Sn G SN x s/\Sn G SN (.dm ds) (.dm ss)/\Q (.bl (if neg then !ss.any (gy · s) else ss.any (gy · s))) G
 | _=>False
noncomputable def kj:vY
 | .tup ds,.int i,G,Q=>(match oV ds i with
  | some d=>Q d G
  | none=>False)
 | .dm ds,.int i,G,Q=>(match oV ds i with
  | some d=>Q d G
  | none=>False)
 | .mR aY,k,G,Q=>gr aY k=true/\(match look aY k with
  | some d=>Q d G
  | none=>False)
 | .ref a,k,G,Q=>(match G a with
  | some (.lst ds)=>(match k with
   | .int i=>(match oV ds i with
    | some d=>Q d G
    | none=>False)
   | _=>False)
  | some (.iV aY)=>gr aY k=true/\(match look aY k with
   | some d=>Q d G
   | none=>False)
  | none=>False)
 | _,_,_,_=>False
noncomputable abbrev M9:=ke->gx->Gp->(Option Int->Gp->Prop)->Prop
noncomputable def cE:M9:=fun _ _ G Q=>Q none G
noncomputable def iH(t:fQ):M9:=fun E τ G Q=>t E τ G fun x G1=>match x with
 | .int i=>Q (some i) G1
 | _=>False
noncomputable def CL:D->Option Int->Option Int->Gp->DK->Prop
 | .tup ds,lo,hi,G,Q=>¬ (g6 ds.length 0 lo=0/\g6 ds.length ds.length hi=ds.length)/\Q (.tup (cut ds lo hi)) G
 | .dm ds,lo,hi,G,Q=>jw G (.lst (cut ds lo hi)) Q
 | .ref a,lo,hi,G,Q=>(match G a with
  | some (.lst ds)=>jw G (.lst (cut ds lo hi)) Q
  | _=>False)
 | _,_,_,_,_=>False
noncomputable def pF(a:fQ)(lo hi:M9):fQ:=fun E τ G Q=>a E τ G fun x G1=>lo E τ G1 fun l G2=>hi E τ G2 fun h G3=>CL x l h G3 Q
noncomputable def fX(a:fQ):u5:=fun E τ G Q=>a E τ G fun x G1=>match CC x G1 with
 | some b=>Q b G1
 | none=>False
noncomputable def xY(a b:u5):u5:=fun E τ G Q=>a E τ G fun c G1=>if c=true then b E τ G1 Q else Q false G1
noncomputable def Ck(a b:u5):u5:=fun E τ G Q=>a E τ G fun c G1=>if c=true then Q true G1 else b E τ G1 Q
noncomputable def me(a:u5):u5:=fun E τ G Q=>a E τ G fun c G1=>Q (!c) G1
noncomputable def Cm(a b:fQ):fQ:=fun E τ G Q=>a E τ G fun x G1=>match CC x G1 with
 | some true=>b E τ G1 Q
 | some false=>Q x G1
 | none=>False
noncomputable def MU(a b:fQ):fQ:=fun E τ G Q=>a E τ G fun x G1=>match CC x G1 with
 | some true=>Q x G1
 | some false=>b E τ G1 Q
 | none=>False
noncomputable def FW(a:fQ):fQ:=fun E τ G Q=>a E τ G fun x G1=>match CC x G1 with
 | some c=>Q (.bl (!c)) G1
 | none=>False
noncomputable def br(sp:mq)(t:zZ):fQ:=fun E τ G Q=>t E τ G fun ds G1=>sp ds G1 Q fun _ _=>False
noncomputable def ky(r:List D->Gp->DK->Prop)(t:zZ):fQ:=fun E τ G Q=>t E τ G fun ds G1=>r ds G1 Q
noncomputable def sR(x:D)(G:Gp):Prop:=match x with
 | .ref a=>(match G a with
  | some (.lst _)=>True
  | _=>False)
 | .dm _=>True
 | _=>False
noncomputable def RI(x:D)(G:Gp):Prop:=match x with
 | .mR _=>True
 | .ref a=>(match G a with
  | some (.iV _)=>True
  | _=>False)
 | _=>False
noncomputable def RH(x:D)(_:Gp):Prop:=match x with
 | .str _=>True
 | _=>False
noncomputable def oT(ty:D->Gp->Prop)(r:D->List D->Gp->DK->Prop)(o:fQ)(t:zZ):fQ:=fun E τ G Q=>o E τ G fun x G1=>ty x G1/\t E τ G1 fun ds G2=>r x ds G2 Q
noncomputable def lenOf:D->Gp->Option Nat
 | .tup ds,_=>some ds.length
 | .dm ds,_=>some ds.length
 | .str x,_=>if x.length<=SZ then some x.length else none
 | .mR aY,_=>if (aY.all fun p=>dF p.1)=true then some aY.length else none
 | .ref a,G=>match G a with
  | some (.lst ds)=>some ds.length
  | some (.iV aY)=>if (aY.all fun p=>dF p.1)=true then some aY.length else none
  | none=>none
 | _,_=>none
noncomputable def jj(ds:List D)(G:Gp)(Q:DK):Prop:=match ds with
 | [x]=>(match lenOf x G with
  | some n=>Q (.int (n:Int)) G
  | none=>False)
 | _=>False
noncomputable def oU(ds:List D)(G:Gp)(Q:DK):Prop:=match ds with
 | [x]=>(match itemsOf x G with
  | some xs=>jw G (.lst xs) Q
  | none=>False)
 | _=>False
noncomputable def Lb(C:String):D->Gp->Option Bool
 | .cR,_=>some false
 | .bl _,_=>some (C == "bool" || C == "int")
 | .int _,_=>some (C == "int")
 | .str _,_=>some (C == "str")
 | .tup _,_=>some (C == "tuple")
 | .dm _,_=>some (C == "list")
 | .mR _,_=>some (C == "dict")
 | .exc _,_=>none
 | .ref a,G=>match G a with
  | some (.lst _)=>some (C == "list")
  | some (.iV _)=>some (C == "dict")
  | none=>none
noncomputable def A9(C:String)(a:fQ):fQ:=fun E τ G Q=>a E τ G fun x G1=>match Lb C x G1 with
 | some b=>Q (.bl b) G1
 | none=>False
noncomputable def KJ(ds:List D)(G:Gp)(Q:DK):Prop:=match ds with
 | [x]=>∃ bs:List Bool,itemsOf x G=some (bs.map D.bl)/\Q (.bl (bs.all id)) G
 | _=>False
noncomputable def g8(x:D)(ds:List D)(G:Gp)(Q:DK):Prop:=match x,ds with
 | .ref a,[d]=>(match G a with
  | some (.lst xs)=>xs.length < SZ/\Q .cR (cB G a (.lst (xs++[d])))
  | _=>False)
 | _,_=>False
noncomputable def ql(x:D)(ds:List D)(G:Gp)(Q:DK):Prop:=match x,ds with
 | .ref a,[y]=>(match G a,mF y G with
  | some (.lst xs),some ys=>xs.length+ys.length<=SZ/\Q .cR (cB G a (.lst (xs++ys)))
  | _,_=>False)
 | _,_=>False
noncomputable def qk(x:D)(ds:List D)(G:Gp)(Q:DK):Prop:=match x,ds with
 | .ref a,[.int i,d]=>(match G a with
  | some (.lst xs)=>0<=i/\i<=xs.length/\xs.length < SZ/\Q .cR (cB G a (.lst (xs.take i.toNat++d :: xs.drop i.toNat)))
  | _=>False)
 | _,_=>False
noncomputable def xy(x:D)(ds:List D)(G:Gp)(Q:DK):Prop:=match ds with
 | [d]=>sR x G/\∃ xs s ss,itemsOf x G=some xs/\Sn G SN d s/\Sn G SN (.dm xs) (.dm ss)/\(match ss.findIdx? (gy · s) with
  | some k=>Q (.int (k:Int)) G
  | none=>False)
 | _=>False
noncomputable def y0(x:D)(ds:List D)(G:Gp)(Q:DK):Prop:=match x,ds with
 | .ref a,[k,d]=>(match G a with
  | some (.iV aY)=>gr aY k=true/\dF k=true/\(match look aY k with
   | some v=>Q v G
   | none=>aY.length < SZ/\Q d (cB G a (.iV (put aY k d))))
  | _=>False)
 | _,_=>False
noncomputable def cW:gW:=fun _ K τ G=>K.nx τ G
noncomputable def cm(a b:gW):gW:=fun E K τ G=>a E { K with nx:=b E K } τ G
noncomputable def eh(a:fQ):gW:=fun E K τ G=>a E τ G fun _ G1=>K.nx τ G1
noncomputable def cq(a:fQ):gW:=fun E K τ G=>a E τ G K.rt
noncomputable def Cj:gW:=fun _ K _ G=>K.rt .cR G
noncomputable def fO(c:u5)(a b:gW):gW:=fun E K τ G=>c E τ G fun k G1=>if k=true then a E K τ G1 else b E K τ G1
noncomputable abbrev wV:=ke->D->gx->Gp->(gx->Gp->Prop)->Prop
noncomputable abbrev x9:=ke->List D->gx->Gp->(gx->Gp->Prop)->Prop
noncomputable def aJ(i:Nat):wV:=fun _ d τ G Q=>Q (τ.set i (some d)) G
noncomputable def FF:x9:=fun _ ds τ G Q=>match ds with
 | []=>Q τ G
 | _=>False
noncomputable def r0(t:wV)(r:x9):x9:=fun E ds τ G Q=>match ds with
 | d :: ds=>t E d τ G fun pN G1=>r E ds pN G1 Q
 | _=>False
noncomputable def Ie(t:x9):wV:=fun E d τ G Q=>match d with
 | .tup ds=>t E ds τ G Q
 | _=>False
noncomputable def BC(o k d:D)(G:Gp)(Q:Gp->Prop):Prop:=match o with
 | .ref a=>(match G a with
  | some (.lst xs)=>(match k with
   | .int i=>(match B3 xs.length i with
    | some j=>Q (cB G a (.lst (xs.set j d)))
    | none=>False)
   | _=>False)
  | some (.iV aY)=>gr aY k=true/\aY.length < SZ/\Q (cB G a (.iV (put aY k d)))
  | none=>False)
 | _=>False
noncomputable def AV(o k:fQ):wV:=fun E d τ G Q=>o E τ G fun x G1=>k E τ G1 fun y G2=>BC x y d G2 fun G3=>Q τ G3
noncomputable def bO(a:fQ)(g:wV):gW:=fun E K τ G=>a E τ G fun x G1=>g E x τ G1 K.nx
noncomputable abbrev KS:=ke->gx->Gp->(List D->(Gp->Prop)->Gp->Prop)->Prop
noncomputable def gF(a:fQ):KS:=fun E τ G R=>a E τ G fun x G1=>match x with
 | .tup ds=>R ds (fun _=>True) G1
 | .dm ds=>R ds (fun _=>True) G1
 | .ref p=>(match G1 p with
  | some (.lst ds)=>R ds (fun G2=>G2 p=some (.lst ds)) G1
  | _=>False)
 | _=>False
noncomputable def e7(lo:Int)(n:Nat):List D:=(bP n).map fun (i:Nat)=>D.int (lo+(i:Int))
noncomputable def uF(a:fQ):KS:=fun E τ G R=>a E τ G fun x G1=>match x with
 | .int n=>-(2 ^ 62)<=n/\n < 2 ^ 62/\R (e7 0 n.toNat) (fun _=>True) G1
 | _=>False
noncomputable def oS(g:wV)(body:gW)(ok:Gp->Prop):List D->gW
 | []=>fun _ K τ G=>ok G/\K.nx τ G
 | d :: r=>fun E K τ G=>ok G/\g E d τ G fun pN G1=>body E { K with nx:=oS g body ok r E K,ct:=oS g body ok r E K,bk:=K.nx } pN G1
noncomputable def eR(i:KS)(g:wV)(body:gW):gW:=fun E K τ G=>i E τ G fun ds ok G1=>oS g body ok ds E K τ G1
noncomputable def tR(c:u5)(body:gW):Nat->gW
 | 0=>fun _ _ _ _=>False
 | n+1=>fun E K τ G=>c E τ G fun k G1=>if k=true then body E { K with nx:=tR c body n E K,ct:=tR c body n E K,bk:=K.nx } τ G1 else K.nx τ G1
noncomputable def A8(c:u5)(body:gW):gW:=fun E K τ G=>∃ n,tR c body n E K τ G
noncomputable def iI(g:wV)(c:Option u5)(e:fQ)(ok:Gp->Prop):List D->ke->gx->Gp->List D->(List D->Gp->Prop)->Prop
 | [],_,_,G,acc,Q=>ok G/\Q acc G
 | d :: r,E,τ,G,acc,Q=>ok G/\g E d τ G fun pN G1=>match c with
  | none=>e E pN G1 fun x G2=>iI g c e ok r E pN G2 (acc++[x]) Q
  | some c=>c E pN G1 fun k G2=>if k=true then e E pN G2 fun x G3=>iI g (some c) e ok r E pN G3 (acc++[x]) Q else iI g (some c) e ok r E pN G2 acc Q
noncomputable def rL(m:Nat)(fr:List Nat)(τ:gx):gx:=aW m none++fr.map fun i=>(τ[i]?).getD none
noncomputable def et(m:Nat)(fr:List Nat)(i:KS)(g:wV)(c:Option u5)(e:fQ):fQ:=fun E τ G Q =>
 i E τ G fun ds ok G1=>ds.length<=SZ/\iI g c e ok ds (fun _ _=>False) (rL m fr τ) G1 [] fun xs G2=>jw G2 (.lst xs) Q
noncomputable abbrev tI(ns:List Int):D:=.tup (ns.map D.int)
noncomputable def Pa:List Int->Option Int
 | []=>none
 | a :: r=>some (r.foldl (fun m x=>if x < m then x else m) a)
noncomputable def O9:List (List Int)->Option (List Int)
 | []=>none
 | a :: r=>some (r.foldl (fun m x=>if lexLt x m=true then x else m) a)
noncomputable def Ge(ds:List D)(G:Gp)(Q:DK):Prop:=match ds with
 | [x]=>(∃ ns m,itemsOf x G=some (ns.map D.int)/\Pa ns=some m/\Q (.int m) G)\/∃ Nu m,itemsOf x G=some (Nu.map tI)/\O9 Nu=some m/\Q (tI m) G
 | _=>False
noncomputable def uX:fQ:=fun _ _ G Q=>jw G (.iV []) Q
noncomputable def e8(G G':Gp):Prop:=∀ a o,G a=some o->G' a=some o
theorem e8.refl(G:Gp):e8 G G:=fun _ _ h=>h
theorem e8.trans{G G1 G2:Gp}(a:e8 G G1)(b:e8 G1 G2):e8 G G2:=fun c o h=>b c o (a c o h)
theorem e8.new{G:Gp}{p:Nat}{o:GO}(h:G p=none):e8 G (cB G p o):=fun a ob e=>by
 by_cases ha:a=p
 ·subst ha; rw [h] at e; cases e
 ·rw [cw ha]; exact e
theorem e8.free{G G':Gp}{p:Nat}(l:e8 G G')(h:G' p=none):G p=none:=by
 cases q:G p with
 | none=>rfl
 | some o=>rw [l p o q] at h; cases h
theorem e8.put{G G':Gp}{p:Nat}{o:GO}(l:e8 G G')(h:G p=none):e8 G (cB G' p o):=fun a ob e=>by
 by_cases ha:a=p
 ·subst ha; rw [h] at e; cases e
 ·rw [cw ha]; exact l a ob e
noncomputable def ends(Q:DK):jB:=⟨fun _ G=>Q .cR G,Q,fun _ _=>False,fun _ _=>False⟩
noncomputable def bg(n:Nat)(ds:List D):gx:=ds.map some++aW (n - ds.length) none
noncomputable def HX(x:D)(G1:Gp)(R:List D->(Gp->Prop)->Gp->Prop):Prop:=match x with
 | .tup ds=>R ds (fun _=>True) G1
 | .dm ds=>R ds (fun _=>True) G1
 | .ref p=>(match G1 p with
  | some (.lst ds)=>R ds (fun G2=>G2 p=some (.lst ds)) G1
  | _=>False)
 | _=>False
noncomputable def EZ(x:D)(G1:Gp)(Q:Option Int->Gp->Prop):Prop:=match x with
 | .int i=>Q (some i) G1
 | _=>False
noncomputable def tT(x:D)(G1:Gp)(Q:Bool->Gp->Prop):Prop:=match CC x G1 with
 | some b=>Q b G1
 | none=>False
noncomputable def II(x:D)(G1:Gp)(R:List D->(Gp->Prop)->Gp->Prop):Prop:=match x with
 | .int n=>-(2 ^ 62)<=n/\n < 2 ^ 62/\R (e7 0 n.toNat) (fun _=>True) G1
 | _=>False
noncomputable def isAt(C:String)(x:D)(G1:Gp)(Q:DK):Prop:=match Lb C x G1 with
 | some b=>Q (.bl b) G1
 | none=>False
theorem eB{i j:Int}{G:Gp}{Q:DK}:gR (.int i) (.int j) G Q=Q (.int (i+j)) G:=rfl
theorem qe{a b:List D}{G:Gp}{Q:DK}:gR (.tup a) (.tup b) G Q=(a≠[]/\a.length+b.length<=SZ/\Q (.tup (a++b)) G):=rfl
theorem nI{i j:Int}{G:Gp}{Q:DK}:JG (.int i) (.int j) G Q=Q (.int (i - j)) G:=rfl
theorem jf{i j:Int}{G:Gp}{Q:DK}:xk (.int i) (.int j) G Q=(MulOk i j/\Q (.int (i * j)) G):=rfl
theorem cO{i j:Int}{G:Gp}{Q:DK}:jI (.int i) (.int j) G Q=(0 < j/\Q (.int (i % j)) G):=rfl
theorem jQ{i j:Int}{G:Gp}{Q:DK}:yO (.int i) (.int j) G Q=(0 < j/\j < 2 ^ 30/\Q (.int (i / j)) G):=rfl
theorem lh{i:Int}{G:Gp}{Q:DK}:EL (.int i) G Q=Q (.int (-i)) G:=rfl
theorem qc{i j:Int}{G:Gp}{Q:DK}:Np (.int i) (.int j) G Q=Q (.bl (decide (i < j))) G:=rfl
theorem sU{i j:Int}{G:Gp}{Q:DK}:R9 (.int i) (.int j) G Q=Q (.bl (decide (i<=j))) G:=rfl
theorem sW{i j:Int}{G:Gp}{Q:DK}:Sa (.int i) (.int j) G Q=Q (.bl (decide (i > j))) G:=rfl
theorem sX{i j:Int}{G:Gp}{Q:DK}:Sb (.int i) (.int j) G Q=Q (.bl (decide (i>=j))) G:=rfl
theorem Hh{ds:List D}{i:Int}{d:D}{G:Gp}{Q:DK}(h:oV ds i=some d):kj (.dm ds) (.int i) G Q=Q d G:=by unfold kj; simp only [h]
theorem Hj{a:Nat}{ds:List D}{i:Int}{d:D}{G:Gp}{Q:DK}(h1:G a=some (.lst ds))(h:oV ds i=some d):kj (.ref a) (.int i) G Q=Q d G:=by unfold kj; simp only [h1,h]
theorem oj{ds:List D}{lo hi:Option Int}{G:Gp}{Q:DK}:CL (.tup ds) lo hi G Q=(¬ (g6 ds.length 0 lo=0/\g6 ds.length ds.length hi=ds.length)/\Q (.tup (cut ds lo hi)) G):=rfl
theorem om{ds:List D}{lo hi:Option Int}{G:Gp}{Q:DK}:CL (.dm ds) lo hi G Q=jw G (.lst (cut ds lo hi)) Q:=rfl
theorem Hg{a:Nat}{ds:List D}{lo hi:Option Int}{G:Gp}{Q:DK}(h:G a=some (.lst ds)):CL (.ref a) lo hi G Q=jw G (.lst (cut ds lo hi)) Q:=by unfold CL; simp only [h]
theorem nZ{ds:List D}{G:Gp}{Q:DK}:jj [.dm ds] G Q=Q (.int (ds.length:Int)) G:=rfl
theorem nY{ds:List D}{G:Gp}{Q:DK}:jj [.tup ds] G Q=Q (.int (ds.length:Int)) G:=rfl
theorem Gh{a:Nat}{ds:List D}{G:Gp}{Q:DK}(h:G a=some (.lst ds)):jj [.ref a] G Q=Q (.int (ds.length:Int)) G:=by unfold jj lenOf; simp only [h]
theorem bY{a:fQ}{E:ke}{τ:gx}{G:Gp}{R:List D->(Gp->Prop)->Gp->Prop}:gF a E τ G R=a E τ G fun x G1=>HX x G1 R:=by
 unfold gF HX; rfl
theorem tu{ds:List D}{G:Gp}{R:List D->(Gp->Prop)->Gp->Prop}:HX (.dm ds) G R=R ds (fun _=>True) G:=rfl
theorem qv{ds:List D}{G:Gp}{R:List D->(Gp->Prop)->Gp->Prop}:HX (.tup ds) G R=R ds (fun _=>True) G:=rfl
theorem HW{a:Nat}{ds:List D}{G:Gp}{R:List D->(Gp->Prop)->Gp->Prop}(h:G a=some (.lst ds)):HX (.ref a) G R=R ds (fun G2=>G2 a=some (.lst ds)) G:=by unfold HX; simp only [h]
theorem fy{t:fQ}{E:ke}{τ:gx}{G:Gp}{Q:Option Int->Gp->Prop}:iH t E τ G Q=t E τ G fun x G1=>EZ x G1 Q:=rfl
theorem ez{i:Int}{G:Gp}{Q:Option Int->Gp->Prop}:EZ (.int i) G Q=Q (some i) G:=rfl
theorem c4{a:fQ}{E:ke}{τ:gx}{G:Gp}{Q:Bool->Gp->Prop}:fX a E τ G Q=a E τ G fun x G1=>tT x G1 Q:=rfl
theorem bD{b:Bool}{G:Gp}{Q:Bool->Gp->Prop}:tT (.bl b) G Q=Q b G:=rfl
theorem iF{a:fQ}{E:ke}{τ:gx}{G:Gp}{R:List D->(Gp->Prop)->Gp->Prop}:uF a E τ G R=a E τ G fun x G1=>II x G1 R:=rfl
theorem gC{n:Int}{G:Gp}{R:List D->(Gp->Prop)->Gp->Prop}:II (.int n) G R=(-(2 ^ 62)<=n/\n < 2 ^ 62/\R (e7 0 n.toNat) (fun _=>True) G):=rfl
theorem kF{C:String}{a:fQ}{E:ke}{τ:gx}{G:Gp}{Q:DK}:A9 C a E τ G Q=a E τ G fun x G1=>isAt C x G1 Q:=rfl
theorem nQ {C:String} {i:Int} {G:Gp} {Q:DK}:isAt C (.int i) G Q=Q (.bl (C == "int")) G:=rfl
theorem nO {C:String} {ds:List D} {G:Gp} {Q:DK}:isAt C (.tup ds) G Q=Q (.bl (C == "tuple")) G:=rfl
theorem Fj {C:String} {a:Nat} {ds:List D} {G:Gp} {Q:DK} (h:G a=some (.lst ds)):isAt C (.ref a) G Q=Q (.bl (C == "list")) G:=by unfold isAt Lb; simp only [h]
theorem nX{a b:fQ}{E:ke}{τ:gx}{G:Gp}{Q:DK}:Cm a b E τ G Q=a E τ G fun x G1=>tT x G1 fun k G2=>if k=true then b E τ G2 Q else Q x G2:=by
 unfold Cm tT;refine congrArg (a E τ G) ?_;funext x G1;cases CC x G1 with
 | none=>rfl
 | some k=>cases k <;> simp
theorem tD{a b:fQ}{E:ke}{τ:gx}{G:Gp}{Q:DK}:MU a b E τ G Q=a E τ G fun x G1=>tT x G1 fun k G2=>if k=true then Q x G2 else b E τ G2 Q:=by
 unfold MU tT;refine congrArg (a E τ G) ?_;funext x G1;cases CC x G1 with
 | none=>rfl
 | some k=>cases k <;> simp
theorem nW{a:fQ}{E:ke}{τ:gx}{G:Gp}{Q:DK}:FW a E τ G Q=a E τ G fun x G1=>tT x G1 fun k G2=>Q (.bl (!k)) G2:=rfl
theorem lj{a:Nat}{y:D}{G:Gp}{Q:DK}:gR (.ref a) y G Q=uZ (.ref a) y G Q:=by cases y <;> rfl
theorem nJ{a:List D}{y:D}{G:Gp}{Q:DK}:gR (.dm a) y G Q=uZ (.dm a) y G Q:=by cases y <;> rfl
theorem qb{a:Nat}{lo hi:Option Int}{G:Gp}{Q:DK}:CL (.ref a) lo hi G Q=(match G a with
  | some (.lst ds)=>jw G (.lst (cut ds lo hi)) Q
  | _=>False):=rfl
theorem Hi{a:Nat}{k:D}{G:Gp}{Q:DK}:kj (.ref a) k G Q=(match G a with
  | some (.lst ds)=>(match k with
   | .int i=>(match oV ds i with
    | some d=>Q d G
    | none=>False)
   | _=>False)
  | some (.iV aY)=>gr aY k=true/\(match look aY k with
   | some d=>Q d G
   | none=>False)
  | none=>False):=by unfold kj; cases k <;> rfl
theorem fM{ds:List D}{i:Int}{G:Gp}{Q:DK}:kj (.tup ds) (.int i) G Q=(match oV ds i with
  | some d=>Q d G
  | none=>False):=rfl
theorem jg{ds:List D}{i:Int}{G:Gp}{Q:DK}:kj (.dm ds) (.int i) G Q=(match oV ds i with
  | some d=>Q d G
  | none=>False):=rfl
theorem Gg{a:Nat}{G:Gp}{Q:DK}:jj [.ref a] G Q=(match G a with
  | some (.lst ds)=>Q (.int (ds.length:Int)) G
  | some (.iV ds)=>(ds.all fun p=>dF p.1)=true/\Q (.int (ds.length:Int)) G
  | none=>False):=by
 unfold jj lenOf;cases h:G a with
 | none=>simp only [h]
 | some g =>
  cases g with
  | lst ds=>simp only [h]
  | iV ds =>
   simp only [h];by_cases z:(ds.all fun p=>dF p.1)=true
   ·simp only [z,if_true,true_and]
   ·simp only [z,if_false,false_and,aw]
theorem oy{a:Nat}{G:Gp}{Q:DK}:oU [.ref a] G Q=(match G a with
  | some (.lst ds)=>jw G (.lst ds) Q
  | _=>False):=by
 unfold oU itemsOf;cases h:G a with
 | none=>simp only [h]
 | some g=>cases g <;> simp only [h]
theorem dn{a:Nat}{d:D}{G:Gp}{Q:DK}:g8 (.ref a) [d] G Q=(match G a with
  | some (.lst xs)=>xs.length < SZ/\Q .cR (cB G a (.lst (xs++[d])))
  | _=>False):=rfl
theorem ig{a:Nat}{y:D}{G:Gp}{Q:DK}:ql (.ref a) [y] G Q=(match G a,mF y G with
  | some (.lst xs),some ys=>xs.length+ys.length<=SZ/\Q .cR (cB G a (.lst (xs++ys)))
  | _,_=>False):=rfl
theorem ie{a:Nat}{i:Int}{d:D}{G:Gp}{Q:DK}:qk (.ref a) [.int i,d] G Q=(match G a with
  | some (.lst xs)=>0<=i/\i<=xs.length/\xs.length < SZ/\Q .cR (cB G a (.lst (xs.take i.toNat++d :: xs.drop i.toNat)))
  | _=>False):=rfl
theorem g7{a:Nat}{k d:D}{G:Gp}{Q:DK}:y0 (.ref a) [k,d] G Q=(match G a with
  | some (.iV aY)=>gr aY k=true/\dF k=true/\(match look aY k with
   | some v=>Q v G
   | none=>aY.length < SZ/\Q d (cB G a (.iV (put aY k d))))
  | _=>False):=rfl
theorem HV{p:Nat}{G:Gp}{R:List D->(Gp->Prop)->Gp->Prop}:HX (.ref p) G R=(match G p with
  | some (.lst ds)=>R ds (fun G2=>G2 p=some (.lst ds)) G
  | _=>False):=rfl
theorem tm {C:String} {b:Bool} {G:Gp} {Q:DK}:isAt C (.bl b) G Q=Q (.bl (C == "bool" || C == "int")) G:=rfl
theorem ff{a:Nat}{G:Gp}:sR (.ref a) G=(match G a with
  | some (.lst _)=>True
  | _=>False):=rfl
theorem sS{a:Nat}{G:Gp}:RI (.ref a) G=(match G a with
  | some (.iV _)=>True
  | _=>False):=rfl
theorem sQ{ds:List D}{G:Gp}:sR (.dm ds) G=True:=rfl
theorem xl{aY:List (D×D)}{k:D}{G:Gp}{Q:DK}:kj (.mR aY) k G Q=(gr aY k=true/\(match look aY k with
  | some d=>Q d G
  | none=>False)):=by unfold kj; cases k <;> rfl
theorem sP{x:Str}{G:Gp}:RH (.str x) G=True:=rfl
end K2
end
section
namespace K2
open PySem (Str)
noncomputable def vO(R:Nat->Bool)(G:Gp):Gp:=fun a=>if R a=true then none else G a
mutual
inductive Fz (G:Gp) (R:Nat->Bool):D->D->Prop
 | same (d:D):Fz G R d d
 | tup {ds ss:List D}:zN G R ds ss->Fz G R (.tup ds) (.tup ss)
 | dm {ds ss:List D}:zN G R ds ss->Fz G R (.dm ds) (.dm ss)
 | ref {a:Nat} {ds ss:List D}:G a=some (.lst ds)->R a=true->zN G R ds ss->Fz G R (.ref a) (.dm ss)
 | iV {a:Nat} {aY QI:List (D×D)}:G a=some (.iV aY)->R a=true->Bj G R aY QI->Fz G R (.ref a) (.mR QI)
inductive zN (G:Gp) (R:Nat->Bool):List D->List D->Prop
 | nil:zN G R [] []
 | cons {d s:D} {ds ss:List D}:Fz G R d s->zN G R ds ss->zN G R (d :: ds) (s :: ss)
inductive Bj (G:Gp) (R:Nat->Bool):List (D×D)->List (D×D)->Prop
 | nil:Bj G R [] []
 | cons {k d s:D} {ds ss:List (D×D)}:Fz G R d s->Bj G R ds ss->Bj G R ((k,d) :: ds) ((k,s) :: ss)
end
theorem Bj.same{G:Gp}{R:Nat->Bool}:∀ (aY:List (D×D)),Bj G R aY aY
 | []=>.nil
 | (k,v) :: r=>.cons (.same v) (Bj.same r)
noncomputable def Dz(G:Gp)(x:D)(Q:DK):Prop:=∃ (R:Nat->Bool) (t:D),Fz G R x t/\Q t (vO R G)
noncomputable def dq(e:fQ):fQ:=fun E τ G Q=>e E τ G fun x G1=>Dz G1 x Q
noncomputable def xX(i:Nat)(t:gW):gW:=fun E K τ G=>t E { K with nx:=fun pN G1=>match pN[i]? with
 | some (some d)=>Dz G1 d fun t G2=>K.nx (pN.set i (some t)) G2
 | _=>False } τ G
theorem zN.same{G:Gp}{R:Nat->Bool}:∀ (ds:List D),zN G R ds ds
 | []=>.nil
 | d :: ds=>.cons (.same d) (zN.same ds)
theorem uT{G G1:Gp}(l:e8 G G1):vO (fun a=>(G a).isNone) G1=G:=by
 funext a;unfold vO;cases h:G a with
 | none=>simp [h]
 | some o=>simp [l a o h,h]
theorem Di{G G1:Gp}{p:Nat}{o:GO}(l:e8 G G1)(hp:G p=none)(h1:G1 p=some o):vO (fun a=>(G a).isNone&&decide (a≠p)) G1=cB G p o:=by
 funext a;unfold vO cB;by_cases ha:a=p
 ·subst ha; simp [h1]
 ·cases h:G a with
  | none=>simp [ha,h]
  | some o=>simp [l a o h,ha,h]
theorem iG{G:Gp}{d:D}{Q:DK}(q:Q d G):Dz G d Q:=⟨fun _=>false,d,.same d,by
 have e:vO (fun _=>false) G=G:=by funext a; simp [vO]
 rw [e]; exact q⟩
theorem Ig{G G1:Gp}{d:D}{Q:DK}(l:e8 G G1)(q:Q d G):Dz G1 d Q:=⟨_,d,.same d,by rw [uT l]; exact q⟩
theorem FI{G G1:Gp}{p:Nat}{o:GO}{Q:DK}(l:e8 G G1)(hp:G p=none)(h1:G1 p=some o)(q:Q (.ref p) (cB G p o)):Dz G1 (.ref p) Q :=
 ⟨_,.ref p,.same _,by rw [Di l hp h1]; exact q⟩
theorem ph{G G1:Gp}{p:Nat}{ds ss:List D}{Q:DK}(l:e8 G G1)(hp:G p=none)(h1:G1 p=some (.lst ds))(hs:zN G1 (fun a=>(G a).isNone) ds ss)(q:Q (.dm ss) G):Dz G1 (.ref p) Q :=
 ⟨_,.dm ss,.ref h1 (by simp [hp]) hs,by rw [uT l]; exact q⟩
theorem AW{G G1:Gp}{p:Nat}{aY:List (D×D)}{Q:DK}(l:e8 G G1)(hp:G p=none)(h1:G1 p=some (.iV aY))(q:Q (.mR aY) G):Dz G1 (.ref p) Q :=
 ⟨fun a=>(G a).isNone,.mR aY,.iV h1 (by simp [hp]) (.same _),by rw [uT l]; exact q⟩
noncomputable def v9:mq:=fun ds G Q _=>∃ ns:List Int,ds=[.dm (ns.map D.int)]/\ns.length<=63/\(∀ a,G a=none)/\∀ G',Q (.bl true) G'
theorem fI{a b:gW}{E:ke}{K:jB}{τ:gx}{G:Gp}(P:gx->Gp->Prop)(h1:∀ N,(∀ τ G,P τ G->N τ G)->a E { K with nx:=N } τ G)(h2:∀ τ G,P τ G->b E K τ G):cm a b E K τ G:=h1 (b E K) h2
theorem fL{a b:gW}{E:ke}{K:jB}{τ:gx}{G:Gp}:cm a b E K τ G=a E { K with nx:=b E K } τ G:=rfl
theorem du{a:fQ}{g:wV}{b:gW}{E:ke}{K:jB}{τ:gx}{G:Gp}:cm (bO a g) b E K τ G=bO a g E { K with nx:=b E K } τ G:=rfl
theorem nq{a:fQ}{b:gW}{E:ke}{K:jB}{τ:gx}{G:Gp}:cm (eh a) b E K τ G=eh a E { K with nx:=b E K } τ G:=rfl
theorem l7(a b:D)(r t:List D):jh (a :: r) (b :: t)=(gy a b&&jh r t):=rfl
theorem pq(a b:Int):gy (.int a) (.int b)=(a == b):=rfl
theorem A4(a b:List D):gy (.tup a) (.tup b)=jh a b:=rfl
theorem zA{α:Type} [DecidableEq α](a b:α)(as bs:List α):(decide (a=b)&&decide (as=bs))=decide (a :: as=b :: bs):=by
 by_cases h:a=b <;> by_cases h2:as=bs <;> simp [h,h2]
end K2
end
section
namespace K2
open PySem (Str)
set_option genInjectivity true in structure T2 where
 a:Int
 b:Int
 deriving DecidableEq
set_option genInjectivity true in structure T3 where
 a:Int
 b:Int
 c:Int
 deriving DecidableEq
class Enc (α:Type) [DecidableEq α] where
 enc:α->D
 dep:Nat
 eqv:∀ a b,gy (enc a) (enc b)=decide (a=b)
 sn:∀ (G:Gp) (n:Nat) (a:α),dep<=n->Sn G n (enc a) (enc a)
open Enc (enc)
noncomputable instance:Enc Int where
 enc:=D.int
 dep:=0
 eqv:=fun a b=>rfl
 sn:=fun G n a _=>.int a
noncomputable instance:Enc Bool where
 enc:=D.bl
 dep:=0
 eqv:=fun a b=>GB a b
 sn:=fun G n a _=>.bl a
noncomputable instance:Enc T2 where
 enc:=fun t=>.tup [.int t.a,.int t.b]
 dep:=1
 eqv:=fun x y=>by
  cases x; cases y;rw [A4,l7,l7,pq,pq]; simp only [T2.mk.injEq]; rename_i a b c d; by_cases h:a=c <;> by_cases h2:b=d <;> simp [h,h2,show jh [] []=true from rfl]
 sn:=fun G n t h=>by
  obtain⟨m,rfl⟩:∃ m,n=m+1:=⟨n - 1,by lia⟩;exact .ni (.int _) (.ni (.int _) .Av)
noncomputable instance:Enc T3 where
 enc:=fun t=>.tup [.int t.a,.int t.b,.int t.c]
 dep:=1
 eqv:=fun x y=>by
  cases x; cases y;rw [A4,l7,l7,l7,pq,pq,pq]; simp only [T3.mk.injEq]; rename_i a b e c d f; by_cases h:a=c <;> by_cases h2:b=d <;> by_cases h3:e=f <;> simp [h,h2,h3,show jh [] []=true from rfl]
 sn:=fun G n t h=>by
  obtain⟨m,rfl⟩:∃ m,n=m+1:=⟨n - 1,by lia⟩;exact .ni (.int _) (.ni (.int _) (.ni (.int _) .Av))
noncomputable instance {α β:Type} [DecidableEq α] [DecidableEq β] [Enc α] [Enc β]:Enc (α×β) where
 enc:=fun t=>.tup [enc t.1,enc t.2]
 dep:=max (Enc.dep α) (Enc.dep β)+1
 eqv:=fun x y=>by
  cases x; cases y;rw [A4,l7,l7,Enc.eqv,Enc.eqv]; simp only [Prod.mk.injEq]; rename_i a b c d; by_cases h:a=c <;> by_cases h2:b=d <;> simp [h,h2,show jh [] []=true from rfl]
 sn:=fun G n t h=>by
  obtain⟨m,rfl⟩:∃ m,n=m+1:=⟨n - 1,by lia⟩;exact .ni (Enc.sn _ _ _ (by lia)) (.ni (Enc.sn _ _ _ (by lia)) .Av)
theorem zw{α:Type} [DecidableEq α] [Enc α]:∀ (a b:List α),jh (a.map enc) (b.map enc)=decide (a=b)
 | [],[]=>(decide_eq_true rfl).symm
 | [],b :: bs=>(decide_eq_false (fun z=>nomatch z)).symm
 | a :: as,[]=>(decide_eq_false (fun z=>nomatch z)).symm
 | a :: as,b :: bs=>by
  show (gy (enc a) (enc b)&&jh (as.map enc) (bs.map enc))=_;rw [Enc.eqv,zw as bs,zA]
theorem nk{α:Type} [DecidableEq α] [Enc α](G:Gp)(n:Nat)(h:Enc.dep α<=n):∀ (xs:List α),Sn G (n+1) (.dm (xs.map enc)) (.dm (xs.map enc))
 | []=>.CK
 | a :: as=>.wd (Enc.sn _ _ _ h) (nk G n h as)
noncomputable instance {α:Type} [DecidableEq α] [Enc α]:Enc (List α) where
 enc:=fun xs=>.dm (xs.map enc)
 dep:=Enc.dep α+1
 eqv:=fun a b=>by
  show jh _ _=_;exact zw a b
 sn:=fun G n t h=>by
  obtain⟨m,rfl⟩:∃ m,n=m+1:=⟨n - 1,by lia⟩;exact nk G m (by lia) t
section
variable {α:Type} [DecidableEq α] [Enc α]
theorem Cu(L:List α)(t:α):(L.map enc).any (gy · (enc t))=decide (t∈L):=by
 induction L with
 | nil=>simp
 | cons a r ih =>
  simp only [ay,k7,Enc.eqv,ih,vj];by_cases h:a=t
  ·simp [h]
  ·have h':¬ t=a:=fun z=>h z.symm;by_cases h2:t∈r <;> simp [h,h',h2]
end
section
variable {κ α:Type} [DecidableEq κ] [Enc κ] [DecidableEq α] [Enc α]
noncomputable def cJ(l:List (κ×α)):List (D×D):=l.map fun p=>(enc p.1,enc p.2)
noncomputable def eA(l:List (κ×α))(k:κ):Option α:=(l.find? fun p=>p.1=k).map (·.2)
noncomputable def x8(l:List (κ×α))(k:κ)(v:α):List (κ×α):=if (l.any fun p=>p.1=k)=true then l.map (fun p=>if p.1=k then (p.1,v) else p) else l++[(k,v)]
theorem za(l:List (κ×α))(k:κ):look (cJ l) (enc k)=(eA l k).map enc:=by
 unfold look eA cJ;induction l with
 | nil=>rfl
 | cons p r ih =>
  rw [ay,dD,dD];simp only [Enc.eqv];by_cases h:p.1=k
  ·simp [h]
  ·simp only [h,decide_false]; exact ih
theorem Hn(l:List (κ×α))(k:κ)(v:α):put (cJ l) (enc k) (enc v)=cJ (x8 l k v):=by
 unfold put x8;have e:((cJ l).any fun p=>gy p.1 (enc k))=l.any fun p=>decide (p.1=k):=by
  unfold cJ; rw [List.any_map]; congr 1; funext p; exact Enc.eqv _ _
 rw [e];split
 ·unfold cJ; rw [fD,fD];refine iU fun p _=>?_;simp only [Function.comp,Enc.eqv,decide_eq_true_eq];split <;> rfl
 ·unfold cJ; rw [aH]; rfl
theorem Gs(l:List (κ×α))(k:κ)(v:α):(x8 l k v).length<=l.length+1:=by
 unfold x8; split <;> simp
end
class oa (κ:Type) [DecidableEq κ] [Enc κ] where
 ok:(∀ k:κ,dF (enc k)=true)\/∀ k:κ,pf (enc k)=true
noncomputable instance:oa Int:=⟨.inl fun _=>rfl⟩
noncomputable instance:oa T2:=⟨.inr fun _=>rfl⟩
noncomputable instance:oa T3:=⟨.inr fun _=>rfl⟩
theorem pe{κ α:Type} [DecidableEq κ] [Enc κ] [oa κ] [DecidableEq α] [Enc α](l:List (κ×α))(k:κ):gr (cJ l) (enc k)=true:=by
 unfold gr cJ;rcases oa.ok (κ:=κ) with h | h
 ·rw [qQ]; left;rw [h k,Bool.true_and,qP,iS];intro p _; exact h p.1
 ·rw [qQ]; right;rw [h k,Bool.true_and,qP,iS];intro p _; exact h p.1
end K2
end
section
namespace K2
open PySem (Str)
open Enc (enc)
mutual
noncomputable def ku:D->D->Bool
 | .int a,.int b=>decide (a < b)
 | .tup a,.tup b=>kr a b
 | .dm a,.dm b=>kr a b
 | _,_=>false
noncomputable def kr:List D->List D->Bool
 | [],[]=>false
 | [],_ :: _=>true
 | _ :: _,[]=>false
 | x :: xs,y :: ys=>if gy x y=true then kr xs ys else ku x y
end
theorem lX(x y:D)(xs ys:List D):kr (x :: xs) (y :: ys)=if gy x y=true then kr xs ys else ku x y:=rfl
theorem Fb(a b:Int):ku (.int a) (.int b)=decide (a < b):=rfl
inductive kl where
 | int | tup (l:List kl) | lst (s:kl)
mutual
noncomputable def bX:kl->D->Bool
 | .int,.int _=>true
 | .tup l,.tup ds=>eg l ds
 | .lst s,.dm ds=>fx s ds
 | _,_=>false
noncomputable def eg:List kl->List D->Bool
 | [],[]=>true
 | s :: l,d :: ds=>bX s d&&eg l ds
 | _,_=>false
noncomputable def fx:kl->List D->Bool
 | _,[]=>true
 | s,d :: ds=>bX s d&&fx s ds
end
theorem cI{a:D}(h:bX .int a=true):∃ i,a=.int i:=by cases a <;> first | exact⟨_,rfl⟩ | exact bR (show false=true from h)
theorem cG{l:List kl}{a:D}(h:bX (.tup l) a=true):∃ x,a=.tup x:=by cases a <;> first | exact⟨_,rfl⟩ | exact bR (show false=true from h)
theorem cH{l:kl}{a:D}(h:bX (.lst l) a=true):∃ x,a=.dm x:=by cases a <;> first | exact⟨_,rfl⟩ | exact bR (show false=true from h)
mutual
noncomputable def Jc:kl->Nat
 | .int=>0
 | .tup l=>FP l+1
 | .lst s=>Jc s+1
noncomputable def FP:List kl->Nat
 | []=>0
 | s :: l=>max (Jc s) (FP l)
end
noncomputable def JS(sh:kl):Bool:=decide (Jc sh<=7)&&(match sh with
 | .tup []=>false
 | _=>true)
noncomputable def GG(a b:D):Bool:=!ku b a
noncomputable def nj(ds:List D):List D:=ds.mergeSort GG
noncomputable def tG(ds:List D)(G:Gp)(Q:DK):Prop:=match ds with
 | [x]=>∃ (sh:kl) (xs:List D),sR x G/\itemsOf x G=some xs/\xs.all (bX sh)=true/\JS sh=true/\xs.length < 64/\jw G (.lst (nj xs)) Q
 | _=>False
class aU (α:Type) [DecidableEq α] [Enc α] where
 lt:α->α->Bool
 w9:kl
 xJ:∀ a:α,bX w9 (enc a)=true
 IQ:∀ a b:α,ku (enc a) (enc b)=lt a b
 AP:∀ a,lt a a=false
 trans:∀ a b c,lt a b=true->lt b c=true->lt a c=true
 Ej:∀ a b,lt a b=false->lt b a=false->a=b
noncomputable instance:aU Int where
 lt:=fun a b=>decide (a < b)
 w9:=.int
 xJ:=fun _=>rfl
 IQ:=fun a b=>rfl
 AP:=fun a=>by simp
 trans:=fun a b c h1 h2=>by simp at *; lia
 Ej:=fun a b h1 h2=>by simp at *; lia
noncomputable def oF{α:Type} [DecidableEq α](lt:α->α->Bool):List α->List α->Bool
 | [],[]=>false
 | [],_ :: _=>true
 | _ :: _,[]=>false
 | x :: xs,y :: ys=>if x=y then oF lt xs ys else lt x y
theorem uq{α:Type} [DecidableEq α](lt:α->α->Bool)(x y:α)(xs ys:List α):oF lt (x :: xs) (y :: ys)=if x=y then oF lt xs ys else lt x y:=rfl
section
variable {α:Type} [DecidableEq α] {lt:α->α->Bool}
theorem qr:∀ x:List α,oF lt x x=false
 | []=>rfl
 | a :: x=>by simp only [uq,if_true]; exact qr x
theorem qp(t:∀ a b,lt a b=false->lt b a=false->a=b):∀ (x y:List α),oF lt x y=false->oF lt y x=false->x=y
 | [],[],_,_=>rfl
 | [],_ :: _,h,_=>by cases h
 | _ :: _,[],_,h=>by cases h
 | a :: x,b :: y,h1,h2=>by
  simp only [uq] at h1 h2;by_cases e:a=b
  ·subst e;simp only [if_true] at h1 h2;rw [qp t x y h1 h2]
  ·rw [if_neg e] at h1;rw [if_neg (mr e)] at h2;exact absurd (t a b h1 h2) e
theorem lZ(ir:∀ a,lt a a=false)(tr:∀ a b c,lt a b=true->lt b c=true->lt a c=true):∀ (x y z:List α),oF lt x y=true->oF lt y z=true->oF lt x z=true
 | [],[],_,h,_=>by cases h
 | [],_ :: _,[],_,h=>by cases h
 | [],_ :: _,_ :: _,_,_=>rfl
 | _ :: _,[],_,h,_=>by cases h
 | _ :: _,_ :: _,[],_,h=>by cases h
 | a :: x,b :: y,c :: z,h1,h2=>by
  simp only [uq] at h1 h2 ⊢;by_cases e1:a=b
  ·subst e1;simp only [if_true] at h1;by_cases e2:a=c
   ·subst e2;simp only [if_true] at h2 ⊢;exact lZ ir tr x y z h1 h2
   ·rw [if_neg e2] at h2 ⊢; exact h2
  ·rw [if_neg e1] at h1;by_cases e2:b=c
   ·subst e2;rw [if_neg e1]; exact h1
   ·rw [if_neg e2] at h2;have h3:=tr _ _ _ h1 h2;rw [if_neg (by rintro rfl; rw [ir] at h3; cases h3)]; exact h3
end
theorem qm{α:Type} [DecidableEq α] [Enc α] [aU α]:∀ (x y:List α),kr (x.map enc) (y.map enc)=oF (aU.lt (α:=α)) x y
 | [],[]=>rfl
 | [],_ :: _=>rfl
 | _ :: _,[]=>rfl
 | a :: x,b :: y=>by simp only [ay,lX,uq,Enc.eqv,qm x y,aU.IQ,decide_eq_true_eq]
theorem wF{α:Type} [DecidableEq α] [Enc α] [aU α]:∀ (x:List α),fx (aU.w9 α) (x.map enc)=true
 | []=>rfl
 | a :: x=>by simp only [ay,fx,aU.xJ,wF x,Bool.and_self]
noncomputable instance {α:Type} [DecidableEq α] [Enc α] [aU α]:aU (List α) where
 lt:=oF aU.lt
 w9:=.lst (aU.w9 α)
 xJ:=fun a=>wF a
 IQ:=fun a b=>qm a b
 AP:=qr
 trans:=lZ aU.AP aU.trans
 Ej:=qp aU.Ej
noncomputable def T2.l(t:T2):List Int:=[t.a,t.b]
noncomputable def T3.l(t:T3):List Int:=[t.a,t.b,t.c]
noncomputable instance:aU T2 where
 lt:=fun x y=>oF (fun a b=>decide (a < b)) x.l y.l
 w9:=.tup [.int,.int]
 xJ:=fun _=>rfl
 IQ:=fun a b=>qm a.l b.l
 AP:=fun a=>qr _
 trans:=fun a b c=>lZ (α:=Int) aU.AP aU.trans _ _ _
 Ej:=fun ⟨a,b⟩ ⟨c,d⟩ h1 h2=>by
  have:=qp (α:=Int) aU.Ej _ _ h1 h2;simpa [T2.l] using this
noncomputable instance:aU T3 where
 lt:=fun x y=>oF (fun a b=>decide (a < b)) x.l y.l
 w9:=.tup [.int,.int,.int]
 xJ:=fun _=>rfl
 IQ:=fun a b=>qm a.l b.l
 AP:=fun a=>qr _
 trans:=fun a b c=>lZ (α:=Int) aU.AP aU.trans _ _ _
 Ej:=fun ⟨a,b,e⟩ ⟨c,d,f⟩ h1 h2=>by
  have:=qp (α:=Int) aU.Ej _ _ h1 h2;simpa [T3.l] using this
section
variable {α:Type} [DecidableEq α] [Enc α] [aU α]
noncomputable def sA(a b:α):Bool:=!aU.lt b a
noncomputable def DI(xs:List α):List α:=xs.mergeSort sA
theorem CF(xs:List α):nj (xs.map enc)=(DI xs).map enc:=by
 unfold nj DI;symm;exact List.map_mergeSort fun a _ b _=>by unfold sA GG; rw [aU.IQ]
theorem rz(a b c:α)(h1:sA a b=true)(h2:sA b c=true):sA a c=true:=by
 unfold sA at *;simp only [Bool.not_eq_true'] at *;cases h:aU.lt c a with
 | false=>rfl
 | true =>
  by_cases e:a=b
  ·subst e; rw [h] at h2; cases h2
  ·have TJ:aU.lt a b=true:=by
    cases q:aU.lt a b with
    | true=>rfl
    | false=>exact absurd (aU.Ej _ _ q h1) e
   rw [aU.trans _ _ _ h TJ] at h2; cases h2
theorem CZ(a b:α):(sA a b||sA b a)=true:=by
 unfold sA;cases h:aU.lt b a with
 | false=>rfl
 | true =>
  cases h2:aU.lt a b with
  | false=>rfl
  | true=>have:=aU.trans _ _ _ h h2; rw [aU.AP] at this; cases this
theorem uw(a b:α)(h1:sA a b=true)(h2:sA b a=true):a=b:=by
 unfold sA at *;exact aU.Ej a b (by simpa using h2) (by simpa using h1)
theorem k9(xs:List α):(DI xs).Perm xs:=List.mergeSort_perm xs sA
theorem o4(xs:List α):(DI xs).Pairwise fun a b=>sA a b=true:=DB rz CZ xs
theorem oN:∀ {xs ys:List α},xs.Perm ys->xs.Pairwise (fun a b=>sA a b=true)->ys.Pairwise (fun a b=>sA a b=true)->xs=ys:=by
 intro xs ys hp h1 h2;exact yk (fun a b _ _ h h'=>uw a b h h') h1 h2 hp
theorem Jw{xs ys:List α}(h:xs.Perm ys):DI xs=DI ys:=oN (((k9 xs).trans h).trans (k9 ys).symm) (o4 xs) (o4 ys)
theorem Jv{xs ys:List α}(h:xs.Perm ys)(hs:ys.Pairwise fun a b=>sA a b=true):DI xs=ys:=oN ((k9 xs).trans h) (o4 xs) hs
theorem Bx(xs:List α):(DI xs).length=xs.length:=(k9 xs).length_eq
end
end K2
end
section
namespace K2
open PySem (Str)
mutual
theorem i4:∀ (sh:kl) (a:D),bX sh a=true->gy a a=true
 | .int,.int i,_=>by show (i == i)=true; exact beq_self_eq_true i
 | .tup l,.tup xs,h=>by show jh xs xs=true; exact r8 l xs h
 | .lst l,.dm xs,h=>by show jh xs xs=true; exact sd l xs h
theorem r8:∀ (l:List kl) (xs:List D),eg l xs=true->jh xs xs=true
 | [],[],_=>rfl
 | s :: l,x :: xs,h=>by
  have h:(bX s x&&eg l xs)=true:=h;rw [aK] at h;show (gy x x&&jh xs xs)=true;rw [i4 s x h.1,r8 l xs h.2]; rfl
theorem sd:∀ (s:kl) (xs:List D),fx s xs=true->jh xs xs=true
 | _,[],_=>rfl
 | s,x :: xs,h=>by
  have h:(bX s x&&fx s xs)=true:=h;rw [aK] at h;show (gy x x&&jh xs xs)=true;rw [i4 s x h.1,sd s xs h.2]; rfl
end
theorem KD(s:kl)(ih:∀ (a b:D),bX s a=true->bX s b=true->gy a b=true->a=b):∀ (xs ys:List D),fx s xs=true->fx s ys=true->jh xs ys=true->xs=ys:=by
 intro xs;induction xs with
 | nil=>intro ys _ _ h; cases ys with
  | nil=>rfl
  | cons _ _=>cases h
 | cons x xs L8 =>
  intro ys h1 h2 h;cases ys with
  | nil=>cases h
  | cons y ys =>
   have h1:(bX s x&&fx s xs)=true:=h1;have h2:(bX s y&&fx s ys)=true:=h2;have h:(gy x y&&jh xs ys)=true:=h;rw [aK] at h1 h2 h;rw [ih x y h1.1 h2.1 h.1,L8 ys h1.2 h2.2 h.2]
mutual
theorem mH:∀ (sh:kl) (a b:D),bX sh a=true->bX sh b=true->gy a b=true->a=b
 | .int,a,b,h1,h2,h=>by
  first | obtain⟨_,rfl⟩:=cI h1 | obtain⟨_,rfl⟩:=cG h1 | obtain⟨_,rfl⟩:=cH h1
  first | obtain⟨_,rfl⟩:=cI h2 | obtain⟨_,rfl⟩:=cG h2 | obtain⟨_,rfl⟩:=cH h2
  rw [pq] at h; rw [beq_iff_eq.mp h]
 | .tup l,a,b,h1,h2,h=>by
  first | obtain⟨_,rfl⟩:=cI h1 | obtain⟨_,rfl⟩:=cG h1 | obtain⟨_,rfl⟩:=cH h1
  first | obtain⟨_,rfl⟩:=cI h2 | obtain⟨_,rfl⟩:=cG h2 | obtain⟨_,rfl⟩:=cH h2
  rw [FN l _ _ h1 h2 h]
 | .lst l,a,b,h1,h2,h=>by
  first | obtain⟨_,rfl⟩:=cI h1 | obtain⟨_,rfl⟩:=cG h1 | obtain⟨_,rfl⟩:=cH h1
  first | obtain⟨_,rfl⟩:=cI h2 | obtain⟨_,rfl⟩:=cG h2 | obtain⟨_,rfl⟩:=cH h2
  rw [KD l (mH l) _ _ h1 h2 h]
theorem FN:∀ (l:List kl) (xs ys:List D),eg l xs=true->eg l ys=true->jh xs ys=true->xs=ys
 | [],xs,ys,h1,h2,_=>by
  cases xs with
  | nil=>cases ys with
   | nil=>rfl
   | cons _ _=>cases h2
  | cons _ _=>cases h1
 | s :: l,xs,ys,h1,h2,h=>by
  cases xs with
  | nil=>cases h1
  | cons x xs =>
   cases ys with
   | nil=>cases h2
   | cons y ys =>
    have h1:(bX s x&&eg l xs)=true:=h1;have h2:(bX s y&&eg l ys)=true:=h2;have h:(gy x y&&jh xs ys)=true:=h;rw [aK] at h1 h2 h;rw [mH s x y h1.1 h2.1 h.1,FN l xs ys h1.2 h2.2 h.2]
end
theorem E9(s:kl)(ih:∀ (a b:D),bX s a=true->bX s b=true->ku a b=false->ku b a=false->a=b):∀ (xs ys:List D),fx s xs=true->fx s ys=true->kr xs ys=false->kr ys xs=false->xs=ys:=by
 intro xs;induction xs with
 | nil=>intro ys _ _ h _; cases ys with
  | nil=>rfl
  | cons _ _=>cases h
 | cons x xs L8 =>
  intro ys h1 h2 h3 h4;cases ys with
  | nil=>cases h4
  | cons y ys =>
   have h1:(bX s x&&fx s xs)=true:=h1;have h2:(bX s y&&fx s ys)=true:=h2;rw [aK] at h1 h2;simp only [lX] at h3 h4;by_cases e:gy x y=true
   ·have P7:=mH s x y h1.1 h2.1 e;subst P7;rw [if_pos e] at h3 h4;rw [L8 ys h1.2 h2.2 h3 h4]
   ·rw [if_neg e] at h3;by_cases e2:gy y x=true
    ·have:=mH s y x h2.1 h1.1 e2;subst this; exact absurd e2 e
    ·rw [if_neg e2] at h4;have:=ih x y h1.1 h2.1 h3 h4;subst this;exact absurd (i4 s x h1.1) e
mutual
theorem tj:∀ (sh:kl) (a b:D),bX sh a=true->bX sh b=true->ku a b=false->ku b a=false->a=b
 | .int,a,b,h1,h2,h3,h4=>by
  first | obtain⟨_,rfl⟩:=cI h1 | obtain⟨_,rfl⟩:=cG h1 | obtain⟨_,rfl⟩:=cH h1
  first | obtain⟨_,rfl⟩:=cI h2 | obtain⟨_,rfl⟩:=cG h2 | obtain⟨_,rfl⟩:=cH h2
  simp [Fb] at h3 h4; congr 1; lia
 | .tup l,a,b,h1,h2,h3,h4=>by
  first | obtain⟨_,rfl⟩:=cI h1 | obtain⟨_,rfl⟩:=cG h1 | obtain⟨_,rfl⟩:=cH h1
  first | obtain⟨_,rfl⟩:=cI h2 | obtain⟨_,rfl⟩:=cG h2 | obtain⟨_,rfl⟩:=cH h2
  rw [y7 l _ _ h1 h2 h3 h4]
 | .lst l,a,b,h1,h2,h3,h4=>by
  first | obtain⟨_,rfl⟩:=cI h1 | obtain⟨_,rfl⟩:=cG h1 | obtain⟨_,rfl⟩:=cH h1
  first | obtain⟨_,rfl⟩:=cI h2 | obtain⟨_,rfl⟩:=cG h2 | obtain⟨_,rfl⟩:=cH h2
  rw [E9 l (tj l) _ _ h1 h2 h3 h4]
theorem y7:∀ (l:List kl) (xs ys:List D),eg l xs=true->eg l ys=true->kr xs ys=false->kr ys xs=false->xs=ys
 | [],xs,ys,h1,h2,_,_=>by
  cases xs with
  | nil=>cases ys with
   | nil=>rfl
   | cons _ _=>cases h2
  | cons _ _=>cases h1
 | s :: l,xs,ys,h1,h2,h3,h4=>by
  cases xs with
  | nil=>cases h1
  | cons x xs =>
   cases ys with
   | nil=>cases h2
   | cons y ys =>
    have h1:(bX s x&&eg l xs)=true:=h1;have h2:(bX s y&&eg l ys)=true:=h2;rw [aK] at h1 h2;simp only [lX] at h3 h4;by_cases e:gy x y=true
    ·have P7:=mH s x y h1.1 h2.1 e;subst P7;rw [if_pos e] at h3 h4;rw [y7 l xs ys h1.2 h2.2 h3 h4]
    ·rw [if_neg e] at h3;by_cases e2:gy y x=true
     ·have:=mH s y x h2.1 h1.1 e2;subst this; exact absurd e2 e
     ·rw [if_neg e2] at h4;have:=tj s x y h1.1 h2.1 h3 h4;subst this;exact absurd (i4 s x h1.1) e
end
mutual
theorem xA:∀ (sh:kl) (a:D),bX sh a=true->ku a a=false
 | .int,.int i,_=>by rw [Fb]; exact decide_eq_false (Int.lt_irrefl _)
 | .tup l,.tup xs,h=>by show kr xs xs=false; exact y8 l xs h
 | .lst l,.dm xs,h=>by show kr xs xs=false; exact y9 l xs h
theorem y8:∀ (l:List kl) (xs:List D),eg l xs=true->kr xs xs=false
 | [],[],_=>rfl
 | s :: l,x :: xs,h=>by
  have h:(bX s x&&eg l xs)=true:=h;rw [aK] at h;simp only [lX,i4 s x h.1,if_true]; exact y8 l xs h.2
theorem y9:∀ (s:kl) (xs:List D),fx s xs=true->kr xs xs=false
 | _,[],_=>rfl
 | s,x :: xs,h=>by
  have h:(bX s x&&fx s xs)=true:=h;rw [aK] at h;simp only [lX,i4 s x h.1,if_true]; exact y9 s xs h.2
end
theorem AK(s:kl)(ih:∀ (a b c:D),bX s a=true->bX s b=true->bX s c=true->ku a b=true->ku b c=true->ku a c=true):∀ (xs ys zs:List D),fx s xs=true->fx s ys=true->fx s zs=true->kr xs ys=true->kr ys zs=true->kr xs zs=true:=by
 intro xs;induction xs with
 | nil =>
  intro ys zs _ _ _ h4 h5;cases ys with
  | nil=>cases h4
  | cons _ _=>cases zs with
   | nil=>cases h5
   | cons _ _=>rfl
 | cons x xs L8 =>
  intro ys zs h1 h2 h3 h4 h5;cases ys with
  | nil=>cases h4
  | cons y ys =>
   cases zs with
   | nil=>cases h5
   | cons z zs =>
    have h1:(bX s x&&fx s xs)=true:=h1;have h2:(bX s y&&fx s ys)=true:=h2;have h3:(bX s z&&fx s zs)=true:=h3;rw [aK] at h1 h2 h3;simp only [lX] at h4 h5 ⊢;by_cases e1:gy x y=true
    ·have:=mH s x y h1.1 h2.1 e1;subst this;rw [if_pos e1] at h4;by_cases e2:gy x z=true
     ·rw [if_pos e2] at h5 ⊢;exact L8 ys zs h1.2 h2.2 h3.2 h4 h5
     ·rw [if_neg e2] at h5 ⊢; exact h5
    ·rw [if_neg e1] at h4;by_cases e2:gy y z=true
     ·have:=mH s y z h2.1 h3.1 e2;subst this;rw [if_neg e1]; exact h4
     ·rw [if_neg e2] at h5;have h6:=ih x y z h1.1 h2.1 h3.1 h4 h5;rw [if_neg (fun e3=>by
       have:=mH s x z h1.1 h3.1 e3;subst this;rw [xA s x h1.1] at h6; cases h6)]
      exact h6
mutual
theorem oq:∀ (sh:kl) (a b c:D),bX sh a=true->bX sh b=true->bX sh c=true->ku a b=true->ku b c=true->ku a c=true
 | .int,a,b,c,h1,h2,h3,h4,h5=>by
  first | obtain⟨_,rfl⟩:=cI h1 | obtain⟨_,rfl⟩:=cG h1 | obtain⟨_,rfl⟩:=cH h1
  first | obtain⟨_,rfl⟩:=cI h2 | obtain⟨_,rfl⟩:=cG h2 | obtain⟨_,rfl⟩:=cH h2
  first | obtain⟨_,rfl⟩:=cI h3 | obtain⟨_,rfl⟩:=cG h3 | obtain⟨_,rfl⟩:=cH h3
  simp [Fb] at *; lia
 | .tup l,a,b,c,h1,h2,h3,h4,h5=>by
  first | obtain⟨_,rfl⟩:=cI h1 | obtain⟨_,rfl⟩:=cG h1 | obtain⟨_,rfl⟩:=cH h1
  first | obtain⟨_,rfl⟩:=cI h2 | obtain⟨_,rfl⟩:=cG h2 | obtain⟨_,rfl⟩:=cH h2
  first | obtain⟨_,rfl⟩:=cI h3 | obtain⟨_,rfl⟩:=cG h3 | obtain⟨_,rfl⟩:=cH h3
  exact ui l _ _ _ h1 h2 h3 h4 h5
 | .lst l,a,b,c,h1,h2,h3,h4,h5=>by
  first | obtain⟨_,rfl⟩:=cI h1 | obtain⟨_,rfl⟩:=cG h1 | obtain⟨_,rfl⟩:=cH h1
  first | obtain⟨_,rfl⟩:=cI h2 | obtain⟨_,rfl⟩:=cG h2 | obtain⟨_,rfl⟩:=cH h2
  first | obtain⟨_,rfl⟩:=cI h3 | obtain⟨_,rfl⟩:=cG h3 | obtain⟨_,rfl⟩:=cH h3
  exact AK l (oq l) _ _ _ h1 h2 h3 h4 h5
theorem ui:∀ (l:List kl) (xs ys zs:List D),eg l xs=true->eg l ys=true->eg l zs=true->kr xs ys=true->kr ys zs=true->kr xs zs=true
 | [],xs,ys,zs,h1,h2,_,h,_=>by
  cases xs with
  | nil=>cases ys with
   | nil=>cases h
   | cons _ _=>cases h2
  | cons _ _=>cases h1
 | s :: l,xs,ys,zs,h1,h2,h3,h4,h5=>by
  cases xs with
  | nil=>cases h1
  | cons x xs =>
   cases ys with
   | nil=>cases h2
   | cons y ys =>
    cases zs with
    | nil=>cases h3
    | cons z zs =>
     have h1:(bX s x&&eg l xs)=true:=h1;have h2:(bX s y&&eg l ys)=true:=h2;have h3:(bX s z&&eg l zs)=true:=h3;rw [aK] at h1 h2 h3;simp only [lX] at h4 h5 ⊢;by_cases e1:gy x y=true
     ·have:=mH s x y h1.1 h2.1 e1;subst this;rw [if_pos e1] at h4;by_cases e2:gy x z=true
      ·rw [if_pos e2] at h5 ⊢;exact ui l xs ys zs h1.2 h2.2 h3.2 h4 h5
      ·rw [if_neg e2] at h5 ⊢; exact h5
     ·rw [if_neg e1] at h4;by_cases e2:gy y z=true
      ·have:=mH s y z h2.1 h3.1 e2;subst this;rw [if_neg e1]; exact h4
      ·rw [if_neg e2] at h5;have h6:=oq s x y z h1.1 h2.1 h3.1 h4 h5;rw [if_neg (fun e3=>by
        have:=mH s x z h1.1 h3.1 e3;subst this;rw [xA s x h1.1] at h6; cases h6)]
       exact h6
end
theorem wx(sh:kl){a b:D}(h1:bX sh a=true)(h2:bX sh b=true)(h:ku a b=true):ku b a=false:=by
 cases q:ku b a with
 | false=>rfl
 | true=>have:=oq sh a b a h1 h2 h1 h q; rw [xA sh a h1] at this; cases this
theorem uj(sh:kl){a b c:D}(h1:bX sh a=true)(h2:bX sh b=true)(h3:bX sh c=true)(q1:ku b a=false)(q2:ku c b=false):ku c a=false:=by
 cases h:ku c a with
 | false=>rfl
 | true =>
  exfalso;cases q:ku a b with
  | false =>
   have:=tj sh a b h1 h2 q q1;subst this; rw [h] at q2; cases q2
  | true=>rw [oq sh c a b h3 h1 h2 h q] at q2; cases q2
theorem pQ(sh:kl){xs ys:List D}(hx:∀ x∈xs,bX sh x=true)(hp:ys.Perm xs)(hs:ys.Pairwise fun a b=>ku b a=false):nj xs=ys:=by
 have hy:∀ y∈ys,bX sh y=true:=fun y h=>hx y (hp.mem_iff.mp h);have p1:(nj xs).Perm xs:=List.mergeSort_perm xs GG;have hz:∀ z∈nj xs,bX sh z=true:=fun z h=>hx z (p1.mem_iff.mp h);have s1:(nj xs).Pairwise fun a b=>ku b a=false:=by
  let Lx:List { d:D // bX sh d=true }:=xs.attach.map fun x=>⟨x.1,hx x.1 x.2⟩
  have ex:xs=Lx.map (·.1):=by
   simp only [Lx,fD]
   conv=>lhs; rw [<-List.attach_map_subtype_val xs]
   rfl
  have e2:nj xs=(Lx.mergeSort fun a b=>GG a.1 b.1).map (·.1):=by
   unfold nj;rw [ex];exact(List.map_mergeSort (r:=fun (a b:{ d:D // bX sh d=true })=>GG a.1 b.1) (s:=GG) (f:=fun x=>x.1) (l:=Lx) fun a _ b _=>rfl).symm
  rw [e2,List.pairwise_map]
  have:=DB (le:=fun (a b:{ d:D // bX sh d=true })=>GG a.1 b.1) (fun a b c h1 h2=>by
   unfold GG at *;simp only [Bool.not_eq_true'] at *;exact uj sh a.2 b.2 c.2 h1 h2) (fun a b=>by
   unfold GG;cases q:ku b.1 a.1 with
   | false=>rfl
   | true=>rw [wx sh b.2 a.2 q]; rfl) Lx
  exact this.imp fun h=>by unfold GG at h; simpa using h
 refine yk (le:=fun a b=>ku b a=false) (fun a b ha hb h h'=>?_) s1 hs (p1.trans hp.symm);exact tj sh a b (hz a ha) (hy b hb) h' h
end K2
end
section
namespace K2
open PySem (Str)
open Enc (enc)
noncomputable def OL(P:D->Gp->Prop):List D->Gp->Prop
 | [x],G=>P x G
 | _,_=>False
noncomputable def IsL(G:Gp)(d:D)(ds:List D):Prop:=d=.dm ds\/∃ a,d=.ref a/\G a=some (.lst ds)
theorem IsL.enc{α:Type} [DecidableEq α] [Enc α]{G:Gp}(xs:List α):IsL G (enc xs) (xs.map enc):=.inl rfl
theorem IsL.ref{G:Gp}{a:Nat}{ds:List D}(h:G a=some (.lst ds)):IsL G (.ref a) ds:=.inr ⟨a,rfl,h⟩
theorem IsL.mono{G G':Gp}{d:D}{ds:List D}(h:IsL G d ds)(l:e8 G G'):IsL G' d ds:=by
 rcases h with h | ⟨a,h,e⟩
 ·exact .inl h
 ·exact .inr ⟨a,h,l a _ e⟩
theorem B4 {G:Gp} {d:D} {ds:List D} {C:String} {Q:DK} (h:IsL G d ds) (k:Q (.bl (C == "list")) G):isAt C d G Q:=by
 rcases h with rfl | ⟨a,rfl,e⟩
 ·exact k
 ·rw [Fj e]; exact k
theorem uC{G:Gp}{d:D}{ds:List D}(h:IsL G d ds):itemsOf d G=some ds:=by
 rcases h with rfl | ⟨a,rfl,e⟩
 ·rfl
 ·unfold itemsOf; simp only [e]
theorem Jo{G:Gp}{d:D}{ds:List D}(h:IsL G d ds):sR d G:=by
 rcases h with rfl | ⟨a,rfl,e⟩
 ·trivial
 ·unfold sR; simp only [e]
theorem q0{G:Gp}{d:D}{ds:List D}{lo hi:Option Int}{Q:DK}(h:IsL G d ds)(k:jw G (.lst (cut ds lo hi)) Q):CL d lo hi G Q:=by
 rcases h with rfl | ⟨a,rfl,e⟩
 ·exact k
 ·rw [Hg e]; exact k
theorem iL{G:Gp}{d:D}{ds:List D}{Q:DK}(h:IsL G d ds)(k:Q (.int (ds.length:Int)) G):jj [d] G Q:=by
 rcases h with rfl | ⟨a,rfl,e⟩
 ·exact k
 ·rw [Gh e]; exact k
theorem Gf{G:Gp}{d:D}{ds:List D}{Q:DK}(h:IsL G d ds)(k:jw G (.lst ds) Q):oU [d] G Q:=by
 unfold oU; simp only [uC h]; exact k
theorem Bb{α:Type} [DecidableEq α] [Enc α] [aU α]{G:Gp}{d:D}{xs:List α}{Q:DK}(h:IsL G d (xs.map enc))(hl:xs.length < 64)(k:jw G (.lst ((DI xs).map enc)) Q)(ok:autoParam (JS (aU.w9 α)=true) Ad._auto_1):tG [d] G Q :=
 ⟨aU.w9 α,xs.map enc,Jo h,uC h,by rw [qP,iS]; intro x _; exact aU.xJ x,ok,by rw [af]; exact hl,by rw [CF]; exact k⟩
theorem o8{G:Gp}{d x:D}{ds:List D}{i:Int}{Q:DK}(h:IsL G d ds)(e:oV ds i=some x)(k:Q x G):kj d (.int i) G Q:=by
 rcases h with rfl | ⟨a,rfl,e2⟩
 ·rw [Hh e]; exact k
 ·rw [Hj e2 e]; exact k
theorem j6{G:Gp}{d:D}{ds:List D}(h:IsL G d ds):mF d G=some ds:=by
 rcases h with rfl | ⟨a,rfl,e⟩
 ·rfl
 ·unfold mF; simp only [e]
theorem tJ{G:Gp}{d e:D}{ds es:List D}{Q:DK}(h:IsL G d ds)(h':IsL G e es)(hz:ds.length+es.length<=SZ)(k:jw G (.lst (ds++es)) Q):uZ d e G Q:=by
 unfold uZ; simp only [j6 h,j6 h']; exact⟨hz,k⟩
theorem qF{α:Type}(xs:List α)(i:Nat)(h:i<=xs.length):cut xs (some (i:Int)) none=xs.drop i:=by
 unfold cut g6;simp only;rw [if_neg (by lia),jU,Nat.min_eq_left h];exact D6 (by rw [dI]; lia)
theorem Ba{α:Type}(xs:List α)(i:Nat)(h:i<=xs.length):cut xs none (some (i:Int))=xs.take i:=by
 unfold cut g6;simp only;rw [if_neg (by lia),jU,Nat.min_eq_left h];simp
theorem mf{α β:Type}(f:α->β)(xs:List α)(lo hi:Option Int):cut (xs.map f) lo hi=(cut xs lo hi).map f:=by
 unfold cut; rw [af,DC,DD]
theorem kL{α:Type}(xs:List α){k:Int}(h0:0<=k)(h1:k < xs.length):oV xs k=some (xs[k.toNat]'(by lia)):=by
 unfold oV B3;rw [if_pos h0,if_pos h1];show xs[k.toNat]?=_;exact aq (by lia)
noncomputable def Oy{α β:Type} [DecidableEq α] [Enc α] [DecidableEq β] [Enc β](pre:α->Prop)(f:α->β):mq:=fun ds G Q _=>∃ a:α,ds=[enc a]/\pre a/\Q (enc (f a)) G
end K2
end
section
namespace K2
open PySem (Str)
open Enc (enc)
noncomputable def Cd:D->Gp->Option (List (D×D))
 | .mR aY,_=>some aY
 | .ref a,G=>match G a with
  | some (.iV aY)=>some aY
  | _=>none
 | _,_=>none
noncomputable def BY(aY:List (D×D)):Bool:=aY.all fun p=>dF p.1
noncomputable def Dh(l m:List (Int×Int)):Bool:=l.length == m.length&&l.all fun p=>eA m p.1 == some p.2
noncomputable def JJ(neg:Bool):vY:=fun x y G Q=>∃ l m:List (Int×Int),Cd x G=some (cJ l)/\Cd y G=some (cJ m)/\Q (.bl (if neg then !Dh l m else Dh l m)) G
noncomputable def lR(neg:Bool):vY:=fun x y G Q=>IK neg x y G Q\/JJ neg x y G Q
section
variable {κ α:Type} [DecidableEq κ] [Enc κ] [DecidableEq α] [Enc α] {l:List (κ×α)} {G G':Gp} {d:D}
theorem ot{β:Type} [DecidableEq β] [Enc β](l:List (Int×β)):BY (cJ l)=true:=by
 unfold BY cJ; rw [qP,iS]; intro p _; rfl
end
theorem EN{neg:Bool}{G:Gp}{i j:Int}{Q:DK}(k:Q (.bl (if neg then !decide (i=j) else decide (i=j))) G):lR neg (.int i) (.int j) G Q:=.inl ⟨_,_,.int _,.int _,by
 have:gy (.int i) (.int j)=decide (i=j):=Enc.eqv i j;rw [this]; exact k⟩
end K2
end
section
namespace K2
open PySem (Str)
open Enc (enc)
noncomputable abbrev U4:=ke->gx->Gp->(List Str->Gp->Prop)->Prop
noncomputable def FY(a:fQ):fQ:=fun E τ G Q=>a E τ G fun x G1=>∃ ds,mF x G1=some ds/\jw G1 (.lst ds.reverse) Q
end K2
end
section
namespace K2
open PySem (Str)
open Enc (enc)
noncomputable def h2(t:T2):Int:=PySem.reduceHash (PySem.Builtin.Tuple.tupleHashOf [PySem.hashInt t.a,PySem.hashInt t.b])
noncomputable def Ds(ds:List D)(G:Gp)(Q:DK):Prop:=match ds with
 | [.int a,.int b]=>Q (.int (if a < b then b else a)) G
 | _=>False
end K2
end
section
namespace K2
open Enc (enc)
noncomputable def JH:vY:=fun x y G Q=>∃ (sh:kl) (a b:D),(Sn G SN x a/\Sn G SN y b)/\(bX sh a=true/\bX sh b=true)/\Q (.bl (ku a b)) G
theorem EM{α:Type} [DecidableEq α] [Enc α] [aU α]{x y:α}{G:Gp}{Q:DK}(hd:Enc.dep α<=8)(q:Q (.bl (aU.lt x y)) G):JH (enc x) (enc y) G Q :=
 ⟨aU.w9 α,enc x,enc y,⟨Enc.sn _ _ _ hd,Enc.sn _ _ _ hd⟩,⟨aU.xJ _,aU.xJ _⟩,by rw [aU.IQ]; exact q⟩
end K2
end
section
namespace K2
open Enc (enc)
noncomputable def vn(lt:Nat->Nat->Bool):Nat->Nat
 | 0=>0
 | j+1=>if lt (j+1) (vn lt j)=true then j+1 else vn lt j
theorem Gm(lt:Nat->Nat->Bool):∀ j,vn lt j<=j:=by
 intro j;induction j with
 | zero=>exact aG _
 | succ j ih =>
  show (if lt (j+1) (vn lt j)=true then j+1 else vn lt j)<=j+1;split
  ·exact aG _
  ·exact Nat.le_succ_of_le ih
noncomputable def AI(x:D)(G:Gp)(Q:DK):Prop:=∃ (ds:List D) (sh:kl) (kf:Nat->D),IsL G x ds/\0 < ds.length/\(∀ i d,ds[i]?=some d->∃ k r,d=.tup (k :: r)/\Sn G SN k (kf i)/\bX sh (kf i)=true) /\
 ∀ d,ds[vn (fun i j=>ku (kf i) (kf j)) (ds.length - 1)]?=some d->Q d G
noncomputable def FX(ta:fQ):fQ:=fun E τ G Q=>ta E τ G fun x G1=>AI x G1 Q
end K2
namespace K2
noncomputable def BU(x y:D)(G1:Gp)(Q:DK):Prop:=match x,y with
 | .int i,.int j=>(0<=i/\i<=j/\j<=1000)/\jw G1 (.lst (e7 i (j - i).toNat)) Q
 | _,_=>False
noncomputable def uW(a b:fQ):fQ:=fun E τ G Q=>a E τ G fun x G1=>b E τ G1 fun y G2=>BU x y G2 Q
end K2
end
section
namespace K2
open PySem PySem.Spec PyProof.Rows L2
noncomputable def KU(K:ah)(H:Hp)(a:Addr)(xs:List V):Prop :=
 (∃ o,H a=some (.lH o (.lst xs))) \/
  ∃ (o:Obj) (its:Array Value) (n:Nat),K.lookup a=some o/\o.cls=.type "list"/\o.dict=none/\o.data=.seq its n/\its.size<=aX/\Vals xs its.toList
theorem KU.sq{K:ah}{H:Hp}{a:Addr}{xs:List V}(h:KU K H a xs):vW K H a xs:=by
 rcases h with ⟨o,h⟩ | h
 ·exact .inl (.inr ⟨o,h⟩)
 ·exact .inr h
noncomputable def eL:Key->D
 | .inl i=>.int i
 | .inr x=>.str x
noncomputable def ExcAt(K:ah)(H:Hp)(a:Addr)(c:Str):Prop:=∃ (o:Obj) (C:Addr),H a=some (.lH o (.ext fun h=>h.get? a=some o))/\o.cls=.ref C/\dB K bG c=some (some (.ref C))
mutual
inductive bW (K:ah) (H:Hp):V->D->Prop
 | cR:bW K H .cR .cR
 | bl (b:Bool):bW K H (.bl b) (.bl b)
 | int (i:Int):bW K H (.int i) (.int i)
 | str (x:Str):bW K H (.str x) (.str x)
 | tup {a:Addr} {vs:List V} {ds:List D}:H a=some (.tup vs)->a5 K H vs ds->bW K H (.ref a) (.tup ds)
 | dm {a:Addr} {vs:List V} {ds:List D}:KU K H a vs->a5 K H vs ds->bW K H (.ref a) (.dm ds)
 | pX {a:Addr} {o:Obj} {kv:List (Key×V)} {aY:List (D×D)}:H a=some (.lH o (.dK kv))->lJ K H kv aY->bW K H (.ref a) (.mR aY)
 | pW {a:Addr} {o:Obj} {kv:List (List Key×V)} {aY:List (D×D)}:H a=some (.lH o (.dT kv))->mS K H kv aY->bW K H (.ref a) (.mR aY)
 | ref (a:Addr):bW K H (.ref a) (.ref a)
 | exc {a:Addr} {c:Str}:ExcAt K H a c->bW K H (.ref a) (.exc c)
inductive a5 (K:ah) (H:Hp):List V->List D->Prop
 | nil:a5 K H [] []
 | cons {v:V} {d:D} {vs:List V} {ds:List D}:bW K H v d->a5 K H vs ds->a5 K H (v :: vs) (d :: ds)
inductive lJ (K:ah) (H:Hp):List (Key×V)->List (D×D)->Prop
 | nil:lJ K H [] []
 | cons {k:Key} {v:V} {d:D} {r:List (Key×V)} {t:List (D×D)}:bW K H v d->lJ K H r t->lJ K H ((k,v) :: r) ((eL k,d) :: t)
inductive mS (K:ah) (H:Hp):List (List Key×V)->List (D×D)->Prop
 | nil:mS K H [] []
 | cons {k:List Key} {v:V} {d:D} {r:List (List Key×V)} {t:List (D×D)}:bW K H v d->mS K H r t->mS K H ((k,v) :: r) ((.tup (k.map eL),d) :: t)
end
structure Kp(H H':Hp):Prop where
 tup:∀ a xs,H a=some (.tup xs)->H' a=some (.tup xs)
 lH:∀ a o u,H a=some (.lH o u)->H' a=some (.lH o u)
theorem Kp.refl(H:Hp):Kp H H:=⟨fun _ _ h=>h,fun _ _ _ h=>h⟩
theorem Kp.trans{H H1 H2:Hp}(a:Kp H H1)(b:Kp H1 H2):Kp H H2:=⟨fun c xs h=>b.tup c xs (a.tup c xs h),fun c o u h=>b.lH c o u (a.lH c o u h)⟩
theorem Kp.RQ{K:ah}{H H':Hp}{a:Addr}{xs:List V}(k:Kp H H')(h:u6 K H a xs):u6 K H' a xs:=by
 rcases h with (h | ⟨o,h⟩) | h
 ·exact .inl (.inl (k.tup _ _ h))
 ·exact .inl (.inr ⟨o,k.lH _ _ _ h⟩)
 ·exact .inr h
theorem Kp.LD{K:ah}{H H':Hp}{a:Addr}{xs:List V}(k:Kp H H')(h:KU K H a xs):KU K H' a xs:=by
 rcases h with ⟨o,h⟩ | h
 ·exact .inl ⟨o,k.lH _ _ _ h⟩
 ·exact .inr h
theorem ExcAt.mono{K:ah}{H H':Hp}(k:Kp H H'){a:Addr}{c:Str}(h:ExcAt K H a c):ExcAt K H' a c :=
 let ⟨o,C,h1,h2,h3⟩:=h
 ⟨o,C,k.lH _ _ _ h1,h2,h3⟩
theorem a5.ze{K:ah}{H:Hp}{P:List V->List D->Prop}(h0:P [] [])(h1:∀ {v:V} {d:D} {vs:List V} {ds:List D},bW K H v d->a5 K H vs ds->P vs ds->P (v :: vs) (d :: ds)){vs:List V}{ds:List D}(h:a5 K H vs ds):P vs ds :=
 a5.rec (motive_1:=fun _ _ _=>True) (motive_2:=fun vs ds _=>P vs ds) (motive_3:=fun _ _ _=>True) (motive_4:=fun _ _ _=>True) trivial (fun _=>trivial) (fun _=>trivial) (fun _=>trivial) (fun _ _ _=>trivial) (fun _ _ _=>trivial) (fun _ _ _=>trivial) (fun _ _ _=>trivial) (fun _=>trivial) (fun _=>trivial) h0 (fun a b _ ih=>h1 a b ih) trivial (fun _ _ _ _=>trivial) trivial (fun _ _ _ _=>trivial) h
theorem bW.mono{K:ah}{H H':Hp}(k:Kp H H'):∀ {v:V} {d:D},bW K H v d->bW K H' v d:=fun h =>
 bW.rec (motive_1:=fun v d _=>bW K H' v d) (motive_2:=fun v d _=>a5 K H' v d) (motive_3:=fun v d _=>lJ K H' v d) (motive_4:=fun v d _=>mS K H' v d)
  .cR .bl .int .str (fun h _ r=>.tup (k.tup _ _ h) r) (fun h _ r=>.dm (k.LD h) r) (fun h _ r=>.pX (k.lH _ _ _ h) r) (fun h _ r=>.pW (k.lH _ _ _ h) r) .ref (fun h=>.exc (h.mono k)) .nil (fun _ _ a b=>.cons a b) .nil (fun _ _ a b=>.cons a b) .nil (fun _ _ a b=>.cons a b) h
theorem a5.mono{K:ah}{H H':Hp}(k:Kp H H'){v:List V}{d:List D}(h:a5 K H v d):a5 K H' v d :=
 a5.ze (P:=fun v d=>a5 K H' v d) .nil (fun r _ ih=>.cons (r.mono k) ih) h
theorem lJ.mono{K:ah}{H H':Hp}(k:Kp H H'){v:List (Key×V)}{d:List (D×D)}(h:lJ K H v d):lJ K H' v d :=
 lJ.rec (motive_1:=fun v d _=>bW K H' v d) (motive_2:=fun v d _=>a5 K H' v d) (motive_3:=fun v d _=>lJ K H' v d) (motive_4:=fun v d _=>mS K H' v d)
  .cR .bl .int .str (fun h _ r=>.tup (k.tup _ _ h) r) (fun h _ r=>.dm (k.LD h) r) (fun h _ r=>.pX (k.lH _ _ _ h) r) (fun h _ r=>.pW (k.lH _ _ _ h) r) .ref (fun h=>.exc (h.mono k)) .nil (fun _ _ a b=>.cons a b) .nil (fun _ _ a b=>.cons a b) .nil (fun _ _ a b=>.cons a b) h
theorem mS.mono{K:ah}{H H':Hp}(k:Kp H H'){v:List (List Key×V)}{d:List (D×D)}(h:mS K H v d):mS K H' v d :=
 mS.rec (motive_1:=fun v d _=>bW K H' v d) (motive_2:=fun v d _=>a5 K H' v d) (motive_3:=fun v d _=>lJ K H' v d) (motive_4:=fun v d _=>mS K H' v d)
  .cR .bl .int .str (fun h _ r=>.tup (k.tup _ _ h) r) (fun h _ r=>.dm (k.LD h) r) (fun h _ r=>.pX (k.lH _ _ _ h) r) (fun h _ r=>.pW (k.lH _ _ _ h) r) .ref (fun h=>.exc (h.mono k)) .nil (fun _ _ a b=>.cons a b) .nil (fun _ _ a b=>.cons a b) .nil (fun _ _ a b=>.cons a b) h
theorem a5.length{K:ah}{H:Hp}:∀ {vs:List V} {ds:List D},a5 K H vs ds->vs.length=ds.length:=fun h =>
 a5.ze (P:=fun vs ds=>vs.length=ds.length) rfl (fun _ _ ih=>congrArg (· + 1) ih) h
theorem a5.get{K:ah}{H:Hp}:∀ {vs:List V} {ds:List D} {i:Nat} {d:D},a5 K H vs ds->ds[i]?=some d->∃ v,vs[i]?=some v/\bW K H v d:=by
 intro vs ds i d h;refine a5.ze (P:=fun vs ds=>∀ (i:Nat) (d:D),ds[i]?=some d->∃ v,vs[i]?=some v/\bW K H v d) (fun i d e=>by cases e) (fun r _ ih i d e=>?_) h i d;cases i with
 | zero=>cases e; exact⟨_,rfl,r⟩
 | succ i=>exact ih i d e
theorem a5.P1{K:ah}{H:Hp}:∀ {vs:List V} {ds:List D} {i:Nat} {v:V},a5 K H vs ds->vs[i]?=some v->∃ d,ds[i]?=some d/\bW K H v d:=by
 intro vs ds i v h;refine a5.ze (P:=fun vs ds=>∀ (i:Nat) (v:V),vs[i]?=some v->∃ d,ds[i]?=some d/\bW K H v d) (fun i d e=>by cases e) (fun r _ ih i d e=>?_) h i v;cases i with
 | zero=>cases e; exact⟨_,rfl,r⟩
 | succ i=>exact ih i d e
theorem a5.append{K:ah}{H:Hp}:∀ {vs ws:List V} {ds es:List D},a5 K H vs ds->a5 K H ws es->a5 K H (vs++ws) (ds++es):=fun {_ ws _ es} h s =>
 a5.ze (P:=fun vs ds=>a5 K H (vs++ws) (ds++es)) s (fun r _ ih=>.cons r ih) h
theorem a5.take{K:ah}{H:Hp}:∀ {vs:List V} {ds:List D} (n:Nat),a5 K H vs ds->a5 K H (vs.take n) (ds.take n):=fun {_ _} n h =>
 a5.ze (P:=fun vs ds=>∀ n,a5 K H (vs.take n) (ds.take n)) (fun n=>by rw [vi,vi]; exact .nil) (fun r _ ih n=>by
  cases n with
  | zero=>exact .nil
  | succ n=>exact .cons r (ih n)) h n
theorem a5.drop{K:ah}{H:Hp}:∀ {vs:List V} {ds:List D} (n:Nat),a5 K H vs ds->a5 K H (vs.drop n) (ds.drop n):=fun {_ _} n h =>
 a5.ze (P:=fun vs ds=>∀ n,a5 K H (vs.drop n) (ds.drop n)) (fun n=>by rw [vk,vk]; exact .nil) (fun r t ih n=>by
  cases n with
  | zero=>exact .cons r t
  | succ n=>exact ih n) h n
theorem a5.set{K:ah}{H:Hp}{v:V}{d:D}(r:bW K H v d):∀ {vs:List V} {ds:List D} (i:Nat),a5 K H vs ds->a5 K H (vs.set i v) (ds.set i d):=fun {_ _} i h =>
 a5.ze (P:=fun vs ds=>∀ i,a5 K H (vs.set i v) (ds.set i d)) (fun i=>by rw [wX,wX]; exact .nil) (fun q t ih i=>by
  cases i with
  | zero=>exact .cons r t
  | succ i=>exact .cons q (ih i)) h i
theorem a5.one{K:ah}{H:Hp}:∀ {vs:List V} {d:D},a5 K H vs [d]->∃ v,vs=[v]/\bW K H v d:=by
 intro vs d h;cases h with
 | cons r t=>cases t; exact⟨_,rfl,r⟩
theorem a5.two{K:ah}{H:Hp}:∀ {vs:List V} {d e:D},a5 K H vs [d,e]->∃ v u,vs=[v,u]/\bW K H v d/\bW K H u e:=by
 intro vs d e h;cases h with
 | cons r t =>
  obtain⟨u,rfl,q⟩:=a5.one t;exact⟨_,_,rfl,r,q⟩
theorem a5.zero{K:ah}{H:Hp}:∀ {vs:List V},a5 K H vs []->vs=[]
 | _,.nil=>rfl
theorem a5.ints{K:ah}{H:Hp}:∀ {vs:List V} {ns:List Int},a5 K H vs (ns.map D.int)->vs=ns.map V.int:=by
 intro vs ns;induction ns generalizing vs with
 | nil=>intro h; exact h.zero
 | cons n ns ih =>
  intro h;cases h with
  | cons r t =>
   cases r;rw [ih t]; rfl
theorem a5.BO{K:ah}{H:Hp}:∀ (ns:List Int),a5 K H (ns.map V.int) (ns.map D.int)
 | []=>.nil
 | n :: ns=>.cons (.int n) (a5.BO ns)
theorem lJ.ind{K:ah}{H:Hp}{motive:∀ (kv:List (Key×V)) (aY:List (D×D)),lJ K H kv aY->Prop}(nil:motive [] [] .nil)
  (cons:∀ {k:Key} {v:V} {d:D} {r:List (Key×V)} {t:List (D×D)} (re:bW K H v d) (rs:lJ K H r t),motive r t rs->motive ((k,v) :: r) ((eL k,d) :: t) (.cons re rs)):∀ {kv:List (Key×V)} {aY:List (D×D)} (h:lJ K H kv aY),motive kv aY h:=fun h =>
 lJ.rec (motive_1:=fun _ _ _=>True) (motive_2:=fun _ _ _=>True) (motive_3:=motive) (motive_4:=fun _ _ _=>True) trivial (fun _=>trivial) (fun _=>trivial) (fun _=>trivial) (fun _ _ _=>trivial) (fun _ _ _=>trivial) (fun _ _ _=>trivial) (fun _ _ _=>trivial) (fun _=>trivial) (fun _=>trivial) trivial (fun _ _ _ _=>trivial) nil (fun a b _ ih=>cons a b ih) trivial (fun _ _ _ _=>trivial) h
theorem mS.ind{K:ah}{H:Hp}{motive:∀ (kv:List (List Key×V)) (aY:List (D×D)),mS K H kv aY->Prop}(nil:motive [] [] .nil)
  (cons:∀ {k:List Key} {v:V} {d:D} {r:List (List Key×V)} {t:List (D×D)} (re:bW K H v d) (rs:mS K H r t),motive r t rs->motive ((k,v) :: r) ((.tup (k.map eL),d) :: t) (.cons re rs)):∀ {kv:List (List Key×V)} {aY:List (D×D)} (h:mS K H kv aY),motive kv aY h:=fun h =>
 mS.rec (motive_1:=fun _ _ _=>True) (motive_2:=fun _ _ _=>True) (motive_3:=fun _ _ _=>True) (motive_4:=motive) trivial (fun _=>trivial) (fun _=>trivial) (fun _=>trivial) (fun _ _ _=>trivial) (fun _ _ _=>trivial) (fun _ _ _=>trivial) (fun _ _ _=>trivial) (fun _=>trivial) (fun _=>trivial) trivial (fun _ _ _ _=>trivial) trivial (fun _ _ _ _=>trivial) nil (fun a b _ ih=>cons a b ih) h
theorem lJ.length{K:ah}{H:Hp}:∀ {v:List (Key×V)} {d:List (D×D)},lJ K H v d->v.length=d.length:=fun h =>
 lJ.ind (motive:=fun v d _=>v.length=d.length) rfl (fun _ _ ih=>congrArg (· + 1) ih) h
theorem mS.length{K:ah}{H:Hp}:∀ {v:List (List Key×V)} {d:List (D×D)},mS K H v d->v.length=d.length:=fun h =>
 mS.ind (motive:=fun v d _=>v.length=d.length) rfl (fun _ _ ih=>congrArg (· + 1) ih) h
noncomputable def Gy(K:ah)(H:Hp)(a:Addr):GO->Prop
 | .lst ds=>∃ vs,H a=some (.lst vs)/\a5 K H vs ds
 | .iV aY=>(∃ kv,H a=some (.dK kv)/\lJ K H kv aY)\/∃ kv,H a=some (.dT kv)/\mS K H kv aY
noncomputable def kA(K:ah)(H:Hp)(G:Gp):Prop:=∀ a g,G a=some g->Gy K H a g
theorem Gy.dk{K:ah}{H:Hp}{a:Addr}{kv:List (Key×V)}{aY:List (D×D)}(h:H a=some (.dK kv))(r:lJ K H kv aY):Gy K H a (.iV aY):=.inl ⟨kv,h,r⟩
theorem Gy.mono{K:ah}{H H':Hp}{a:Addr}{g:GO}(k:Kp H H')(e:H' a=H a)(h:Gy K H a g):Gy K H' a g:=by
 cases g with
 | lst ds=>obtain⟨vs,q,r⟩:=h; exact⟨vs,e.trans q,r.mono k⟩
 | iV aY =>
  rcases h with ⟨kv,q,r⟩ | ⟨kv,q,r⟩
  ·exact .inl ⟨kv,e.trans q,r.mono k⟩
  ·exact .inr ⟨kv,e.trans q,r.mono k⟩
theorem Gy.tracked{K:ah}{H:Hp}{a:Addr}{g:GO}(h:Gy K H a g):H a≠none:=by
 cases g with
 | lst ds=>obtain⟨vs,q,r⟩:=h; rw [q]; simp
 | iV aY =>
  rcases h with ⟨kv,q,r⟩ | ⟨kv,q,r⟩
  ·rw [q]; simp
  ·rw [q]; simp
theorem kA.free{K:ah}{H:Hp}{G:Gp}{a:Addr}(h:kA K H G)(e:H a=none):G a=none:=by
 cases q:G a with
 | none=>rfl
 | some g=>exact absurd e (h a g q).tracked
theorem kA.LZ{K:ah}{H:Hp}{G:Gp}{a:Addr}{xs:List V}(h:kA K H G)(e:H a=some (.tup xs)):G a=none:=by
 cases q:G a with
 | none=>rfl
 | some g =>
  have z:=h a g q;cases g with
  | lst ds=>obtain⟨vs,q,r⟩:=z; rw [e] at q; cases q
  | iV aY =>
   rcases z with ⟨kv,q,r⟩ | ⟨kv,q,r⟩
   ·rw [e] at q; cases q
   ·rw [e] at q; cases q
theorem kA.L0{K:ah}{H:Hp}{G:Gp}{a:Addr}{o:Obj}{u:HO}(h:kA K H G)(e:H a=some (.lH o u)):G a=none:=by
 cases q:G a with
 | none=>rfl
 | some g =>
  have z:=h a g q;cases g with
  | lst ds=>obtain⟨vs,q,r⟩:=z; rw [e] at q; cases q
  | iV aY =>
   rcases z with ⟨kv,q,r⟩ | ⟨kv,q,r⟩
   ·rw [e] at q; cases q
   ·rw [e] at q; cases q
structure Mv(K:ah)(H:Hp)(G:Gp)(H':Hp)(G':Gp):Prop where
 keep:∀ a o,H a=some o->G a=none->H' a=some o/\G' a=none
 k8:∀ a,G a≠none->H' a≠none
 ab:kA K H' G'
theorem Mv.refl{K:ah}{H:Hp}{G:Gp}(h:kA K H G):Mv K H G H G:=⟨fun _ _ e n=>⟨e,n⟩,fun a n=>by
 cases q:G a with
 | none=>exact absurd q n
 | some g=>exact(h a g q).tracked,h⟩
theorem Mv.trans{K:ah}{H H1 H2:Hp}{G G1 G2:Gp}(a:Mv K H G H1 G1)(b:Mv K H1 G1 H2 G2):Mv K H G H2 G2 :=
 ⟨fun c o e n=>let ⟨e1,n1⟩:=a.keep c o e n; b.keep c o e1 n1,fun c n=>by
  have h1:=a.k8 c n;cases q:G1 c with
  | some g=>exact b.k8 c (by rw [q]; simp)
  | none =>
   cases q1:H1 c with
   | none=>exact absurd q1 h1
   | some o=>rw [(b.keep c o q1 q).1]; simp,b.ab⟩
theorem Mv.kp{K:ah}{H H':Hp}{G G':Gp}(m:Mv K H G H' G')(h:kA K H G):Kp H H' :=
 ⟨fun a xs e=>(m.keep a _ e (h.LZ e)).1,fun a o u e=>(m.keep a _ e (h.L0 e)).1⟩
theorem Kp.new{H:Hp}{p:Addr}{o:HO}(hp:H p=none):Kp H (upd H p o):=⟨fun a xs e=>by rw [bM (cy e hp)]; exact e,fun a ob u e=>by rw [bM (cy e hp)]; exact e⟩
theorem Kp.putL{H:Hp}{p:Addr}{xs:List V}{o:HO}(hp:H p=some (.lst xs)):Kp H (upd H p o) :=
 ⟨fun a ys e=>by rw [bM (by rintro rfl; rw [hp] at e; cases e)]; exact e,fun a ob u e=>by rw [bM (by rintro rfl; rw [hp] at e; cases e)]; exact e⟩
theorem Mv.new{K:ah}{H:Hp}{G:Gp}{p:Addr}{o:HO}{g:GO}(h:kA K H G)(hp:H p=none)(ho:Gy K (upd H p o) p g):Mv K H G (upd H p o) (cB G p g) where
 keep:=fun a ob e n=>by
  have ne:=cy e hp;exact⟨by rw [bM ne]; exact e,by rw [cw ne]; exact n⟩
 k8:=fun a n=>by
  have ne:a≠p:=by rintro rfl; exact n (h.free hp)
  rw [bM ne];exact(Mv.refl h).k8 a n
 ab:=fun a g' e=>by
  by_cases ha:a=p
  ·subst ha; rw [aC] at e; cases e; exact ho
  ·rw [cw ha] at e;exact(h a g' e).mono (.new hp) (bM ha)
theorem Mv.Ib{K:ah}{H:Hp}{G:Gp}{p:Addr}{o:HO}(h:kA K H G)(hp:H p=none):Mv K H G (upd H p o) G where
 keep:=fun a ob e n=>⟨by rw [bM (cy e hp)]; exact e,n⟩
 k8:=fun a n=>by
  have ne:a≠p:=by rintro rfl; exact n (h.free hp)
  rw [bM ne];exact(Mv.refl h).k8 a n
 ab:=fun a g' e=>by
  have ne:a≠p:=by rintro rfl; rw [h.free hp] at e; cases e
  exact(h a g' e).mono (.new hp) (bM ne)
theorem Mv.put{K:ah}{H:Hp}{G:Gp}{p:Addr}{o:HO}{g g0:GO}(h:kA K H G)(hg:G p=some g0)(k:Kp H (upd H p o))(ho:Gy K (upd H p o) p g):Mv K H G (upd H p o) (cB G p g) where
 keep:=fun a ob e n=>by
  have ne:a≠p:=by rintro rfl; rw [hg] at n; cases n
  exact⟨by rw [bM ne]; exact e,by rw [cw ne]; exact n⟩
 k8:=fun a n=>by
  by_cases ha:a=p
  ·subst ha; rw [cN]; simp
  ·rw [bM ha]; exact(Mv.refl h).k8 a n
 ab:=fun a g' e=>by
  by_cases ha:a=p
  ·subst ha; rw [aC] at e; cases e; exact ho
  ·rw [cw ha] at e;exact(h a g' e).mono k (bM ha)
theorem kA.lst{K:ah}{H:Hp}{G:Gp}{a:Addr}{ds:List D}(h:kA K H G)(e:G a=some (.lst ds)):∃ vs,H a=some (.lst vs)/\a5 K H vs ds:=h a _ e
theorem Mv.xw{K:ah}{H:Hp}{G:Gp}{p:Addr}{vs:List V}{ds:List D}(h:kA K H G)(hp:H p=none)(r:a5 K H vs ds):Mv K H G (upd H p (.lst vs)) (cB G p (.lst ds)) :=
 .new h hp ⟨vs,cN,r.mono (.new hp)⟩
theorem Mv.putL{K:ah}{H:Hp}{G:Gp}{p:Addr}{RD vs:List V}{Uu ds:List D}(h:kA K H G)(hg:G p=some (.lst Uu))(hp:H p=some (.lst RD))(r:a5 K H vs ds):Mv K H G (upd H p (.lst vs)) (cB G p (.lst ds)) :=
 .put h hg (.putL hp) ⟨vs,cN,r.mono (.putL hp)⟩
structure GJ(K:ah)(H:Hp)(σ:L2.St)(τ:gx):Prop where
 len:σ.length=τ.length
 at':∀ (i:Nat) (d:D),τ[i]?=some (some d)->∃ v,σ[i]?=some (some v)/\bW K H v d
theorem GJ.mono{K:ah}{H H':Hp}{σ:L2.St}{τ:gx}(k:Kp H H')(a:GJ K H σ τ):GJ K H' σ τ :=
 ⟨a.len,fun i d e=>let ⟨v,h1,h2⟩:=a.at' i d e; ⟨v,h1,h2.mono k⟩⟩
theorem GJ.set{K:ah}{H:Hp}{σ:L2.St}{τ:gx}{v:V}{d:D}(a:GJ K H σ τ)(i:Nat)(r:bW K H v d):GJ K H (σ.set i (some v)) (τ.set i (some d)):=by
 refine⟨by rw [jm,jm]; exact a.len,fun j e h=>?_⟩;by_cases hj:i=j
 ·subst hj;by_cases hi:i < τ.length
  ·rw [gH hi] at h;cases h;exact⟨v,by rw [gH (by rw [a.len]; exact hi)],r⟩
  ·rw [List.set_eq_of_length_le (by lia)] at h;rw [kg (by lia)] at h;cases h
 ·rw [iu hj] at h;obtain⟨w,h1,h2⟩:=a.at' j e h;exact⟨w,by rw [iu hj]; exact h1,h2⟩
structure I2(X:Cx)(pins:List (Addr×Obj))(σ:L2.St)(H:Hp)(τ:gx)(G:Gp)(s:ak):Prop where
 inv:Inv X pins σ H s
 st:GJ X.K H σ τ
 ab:kA X.K H G
theorem I2.mv{X:Cx}{pins:List (Addr×Obj)}{σ:L2.St}{H H':Hp}{τ:gx}{G G':Gp}{s s':ak}(I:I2 X pins σ H τ G s)(I':Inv X pins σ H' s')(m:Mv X.K H G H' G'):I2 X pins σ H' τ G' s' :=
 ⟨I',I.st.mono (m.kp I.ab),m.ab⟩
noncomputable def Vg(P:bC)(w:World):DS:=fun outer H s E e s'=>∃ (a C t:Addr) (B:Heap) (H':Hp),e=.ref a/\s'.os=s.os/\w4 s'.gens/\Un (DN outer) [] H H' s.heap s'.heap/\pG P w H' s'.heap /\
 (∀ b o,s'.heap.get? b=some o->b∉DN outer->(s.heap.get? b≠none\/H' b≠none)->B.get? b=some o)/\PySem.Heap.FlyingW B outer a (.ref C) (.ref t) s'.heap/\H' a=none/\s.heap.get? a=none/\E (.ref C) none H'
noncomputable def Ur(mg:Str->Option Value)(E:ke):XK:=fun cls _ _=>∃ (ex:Ex) (C:Addr),cls=.ref C/\mg ex.cls=some (.ref C)/\E ex (fun _=>none)
structure Lk(X:Cx)(E:ke):Prop where
 made:∀ (pins:List (Addr×Obj)) (σ:L2.St) (H:Hp) (s:ak) (h1:Heap) (a C:Addr) (args:List Value) (ex:Ex),Inv X pins σ H s->PySem.Heap.MadeExcOf s.heap h1 a (.ref C) args->X.mg ex.cls=some (.ref C)->E ex (fun _=>none)->X.xe (.ref a) { s with heap:=h1 }
 pass:∀ (pins:List (Addr×Obj)) (σ:L2.St) (H:Hp) (s s':ak) (e:Value),Inv X pins σ H s->Vg X.prog X.w X.stack H s (Ur X.mg E) e s'->X.xe e s'
theorem Lk.none{X:Cx}{E:ke}(h:∀ ex G,¬ E ex G):Lk X E where
 made:=fun _ _ _ _ _ _ _ _ ex _ _ _ z=>absurd z (h ex _)
 pass:=fun _ _ _ _ _ _ _ hc=>by
  obtain⟨_,_,_,_,_,_,_,_,_,_,_,_,_,_,hz⟩:=hc;obtain⟨ex,_,_,_,z⟩:=hz;exact absurd z (h ex _)
inductive oA (X:Cx) (pins:List (Addr×Obj)) (σ:L2.St) (H:Hp) (G:Gp) (Q:DK) (u:Value) (s':ak):Prop
 | mk (v:V) (H':Hp) (d:D) (G':Gp) (i:Inv X pins σ H' s') (m:Mv X.K H G H' G') (r:RelV v u) (rd:bW X.K H' v d) (q:Q d G'):oA X pins σ H G Q u s'
inductive Ln (X:Cx) (pins:List (Addr×Obj)) (σ:L2.St) (H:Hp) (G:Gp) (Q:Bool->Gp->Prop) (b:Bool) (s':ak):Prop
 | mk (H':Hp) (G':Gp) (i:Inv X pins σ H' s') (m:Mv X.K H G H' G') (q:Q b G'):Ln X pins σ H G Q b s'
inductive Rz (X:Cx) (pins:List (Addr×Obj)) (σ:L2.St) (H:Hp) (G:Gp) (Q:List D->Gp->Prop) (us:List Value) (s':ak):Prop
 | mk (vs:List V) (H':Hp) (ds:List D) (G':Gp) (i:Inv X pins σ H' s') (m:Mv X.K H G H' G') (r:Vals vs us) (rd:a5 X.K H' vs ds) (q:Q ds G'):Rz X pins σ H G Q us s'
inductive NZ (X:Cx) (pins:List (Addr×Obj)) (H:Hp) (G:Gp) (P:gx->Gp->Prop) (s':ak):Prop
 | mk (hW:L2.St) (H':Hp) (mx:gx) (G':Gp) (i:I2 X pins hW H' mx G' s') (m:Mv X.K H G H' G') (q:P mx G'):NZ X pins H G P s'
inductive Rq (X:Cx) (pins:List (Addr×Obj)) (H:Hp) (G:Gp) (P:D->Gp->Prop) (u:Value) (s':ak):Prop
 | mk (v:V) (hW:L2.St) (H':Hp) (d:D) (G':Gp) (i:Inv X pins hW H' s') (m:Mv X.K H G H' G') (r:RelV v u) (rd:bW X.K H' v d) (q:P d G'):Rq X pins H G P u s'
noncomputable def KW(X:Cx)(pins:List (Addr×Obj))(H:Hp)(G:Gp)(D:jB)(f:Flow)(s':ak):Prop :=
 match f with
 | .next=>NZ X pins H G D.nx s'
 | .brk=>NZ X pins H G D.bk s'
 | .cont=>NZ X pins H G D.ct s'
 | .ret u=>Rq X pins H G D.rt u s'
noncomputable def gh(X:Cx)(e:Expr)(t:fQ):Prop :=
 ∀ (E:ke) (pins:List (Addr×Obj)) (s:ak) (σ:L2.St) (H:Hp) (τ:gx) (G:Gp) (Q:DK),Lk X E->I2 X pins σ H τ G s->t E τ G Q->wpAny (model X.prog X.w) X.A (eval e X.env) (oA X pins σ H G Q) X.xe s
noncomputable def Bf(X:Cx)(e:Expr)(t:u5):Prop :=
 ∀ (E:ke) (pins:List (Addr×Obj)) (s:ak) (σ:L2.St) (H:Hp) (τ:gx) (G:Gp) (Q:Bool->Gp->Prop),Lk X E->I2 X pins σ H τ G s->t E τ G Q->wpAny (model X.prog X.w) X.A (isTrue e X.env (eval e X.env)) (Ln X pins σ H G Q) X.xe s
noncomputable def Cw(X:Cx)(e:Expr)(t:u5):Prop :=
 ∀ (wh:Sem Value) (E:ke) (pins:List (Addr×Obj)) (s:ak) (σ:L2.St) (H:Hp) (τ:gx) (G:Gp) (Q:Bool->Gp->Prop),Lk X E->I2 X pins σ H τ G s->t E τ G Q->wpAny (model X.prog X.w) X.A (isTrue e X.env wh) (Ln X pins σ H G Q) X.xe s
noncomputable def Bg(X:Cx)(es:List Expr)(t:zZ):Prop :=
 ∀ (pos:Pos) (E:ke) (pins:List (Addr×Obj)) (s:ak) (σ:L2.St) (H:Hp) (τ:gx) (G:Gp) (Q:List D->Gp->Prop),Lk X E->I2 X pins σ H τ G s->t E τ G Q->wpAny (model X.prog X.w) X.A (z8 (jd pos (bA es X.env))) (Rz X pins σ H G Q) X.xe s
noncomputable def Cy(X:Cx)(st:Stmt)(t:gW):Prop :=
 ∀ (E:ke) (pins:List (Addr×Obj)) (s:ak) (σ:L2.St) (H:Hp) (τ:gx) (G:Gp) (D:jB),Lk X E->I2 X pins σ H τ G s->t E D τ G->wpAny (model X.prog X.w) X.A (exec st X.env) (KW X pins H G D) X.xe s
noncomputable def rN(X:Cx)(st:List Stmt)(t:gW):Prop :=
 ∀ (E:ke) (pins:List (Addr×Obj)) (s:ak) (σ:L2.St) (H:Hp) (τ:gx) (G:Gp) (D:jB),Lk X E->I2 X pins σ H τ G s->t E D τ G->wpAny (model X.prog X.w) X.A (execs st X.env) (KW X pins H G D) X.xe s
theorem KW.trans{X:Cx}{pins:List (Addr×Obj)}{H H1:Hp}{G G1:Gp}{D:jB}{f:Flow}{s':ak}(m:Mv X.K H G H1 G1)(h:KW X pins H1 G1 D f s'):KW X pins H G D f s':=by
 cases f with
 | next=>obtain⟨hW,H',mx,G',I,m',q⟩:=h; exact⟨hW,H',mx,G',I,m.trans m',q⟩
 | brk=>obtain⟨hW,H',mx,G',I,m',q⟩:=h; exact⟨hW,H',mx,G',I,m.trans m',q⟩
 | cont=>obtain⟨hW,H',mx,G',I,m',q⟩:=h; exact⟨hW,H',mx,G',I,m.trans m',q⟩
 | ret u=>obtain⟨v,hW,H',d,G',I,m',r,rd,q⟩:=h; exact⟨v,hW,H',d,G',I,m.trans m',r,rd,q⟩
section
variable {X:Cx} {a b c:Expr} {ta tb tc:fQ} {pos:Pos}
theorem kQ{pins:List (Addr×Obj)}{σ:L2.St}{H:Hp}{τ:gx}{G:Gp}{s:ak}{E:ke}{R:DK}{Q:Value->ak->Prop}(ha:gh X a ta)(hE:Lk X E)(I:I2 X pins σ H τ G s)(h:ta E τ G R)
  (k:∀ v H1 d G1 u s1,I2 X pins σ H1 τ G1 s1->Mv X.K H G H1 G1->RelV v u->bW X.K H1 v d->R d G1->Q u s1):wpAny (model X.prog X.w) X.A (eval a X.env) Q X.xe s :=
 fG (ha E pins s σ H τ G R hE I h) (by rintro u s1 ⟨v,H1,d,G1,I1,m,r,rd,q⟩; exact k v H1 d G1 u s1 (I.mv I1 m) m r rd q)
theorem oA.trans{pins:List (Addr×Obj)}{σ:L2.St}{H H1:Hp}{G G1:Gp}{Q:DK}{u:Value}{s':ak}(m:Mv X.K H G H1 G1)(h:oA X pins σ H1 G1 Q u s'):oA X pins σ H G Q u s':=by
 obtain⟨v,H',d,G',I,m',r,rd,q⟩:=h;exact⟨v,H',d,G',I,m.trans m',r,rd,q⟩
theorem Ln.trans{pins:List (Addr×Obj)}{σ:L2.St}{H H1:Hp}{G G1:Gp}{Q:Bool->Gp->Prop}{u:Bool}{s':ak}(m:Mv X.K H G H1 G1)(h:Ln X pins σ H1 G1 Q u s'):Ln X pins σ H G Q u s':=by
 obtain⟨H',G',I,m',r⟩:=h;exact⟨H',G',I,m.trans m',r⟩
theorem Hs {i:Nat} {x:Str} (hN:X.N[i]?=some x) (hv:NX X.env.scope x) (hd:autoParam ((x == ("__debug__" : Str))=false) Ad._auto_1) (yq:autoParam ((x == ("__classdict__" : Str))=false) Ad._auto_1):gh X (.Name x pos) (au i):=by
 intro E pins s σ H τ G Q hE I h;unfold au at h;split at h
 ·rename_i d e;obtain⟨v,h1,h2⟩:=I.st.at' i d e;exact fG (JK hN hv hd yq pins s σ H (fun v' H'=>v'=v/\H'=H) I.inv ⟨v,h1,rfl,rfl⟩) fun u s1 DL=>by
   obtain⟨v',H',I1,r,e1,e2⟩:=DL;subst e1; subst e2;exact⟨_,_,d,G,I1,.refl I.ab,r,h2,h⟩
 ·exact h.elim
theorem q5{e:Expr}{v:V}{d:D}(h:PE X e (tC v))(r:∀ K H,bW K H v d):gh X e (dC d):=by
 intro E pins s σ H τ G Q hE I hq;exact fG (h pins s σ H (fun v' H'=>v'=v/\H'=H) I.inv ⟨rfl,rfl⟩) fun u s1 S6=>by
  obtain⟨v',H',I1,rr,e1,e2⟩:=S6;subst e1; subst e2;exact⟨_,_,d,G,I1,.refl I.ab,rr,r _ _,hq⟩
theorem aQ{i j}:gh X (.Constant (.int i) j pos) (dC (.int i)):=q5 JM fun _ _=>.int i
noncomputable def lF(X:Cx)(f:Value->Value->Sem Value)(r:vY):Prop :=
 ∀ (pins:List (Addr×Obj)) (s:ak) (σ:L2.St) (H:Hp) (G:Gp) (x y:V) (dx dy:D) (v u:Value) (Q:DK),Inv X pins σ H s->kA X.K H G->RelV x v->RelV y u->bW X.K H x dx->bW X.K H y dy->r dx dy G Q ->
  wpAny (model X.prog X.w) X.A (f v u) (oA X pins σ H G Q) X.xe s
noncomputable def M6(X:Cx)(f:Value->Sem Value)(r:D->Gp->DK->Prop):Prop :=
 ∀ (pins:List (Addr×Obj)) (s:ak) (σ:L2.St) (H:Hp) (G:Gp) (x:V) (dx:D) (v:Value) (Q:DK),Inv X pins σ H s->kA X.K H G->RelV x v->bW X.K H x dx->r dx G Q ->
  wpAny (model X.prog X.w) X.A (f v) (oA X pins σ H G Q) X.xe s
noncomputable def oe(X:Cx)(f:Value)(r:List D->Gp->DK->Prop):Prop :=
 ∀ (pins:List (Addr×Obj)) (s:ak) (σ:L2.St) (H:Hp) (G:Gp) (xs:List V) (ds:List D) (us:List Value) (Q:DK),Inv X pins σ H s->kA X.K H G->Vals xs us->a5 X.K H xs ds->r ds G Q ->
  wpAny (model X.prog X.w) X.A (call f us) (oA X pins σ H G Q) X.xe s
noncomputable abbrev ya(K:ah)(H:Hp)(G:Gp)(Q:DK):VK:=fun v H'=>∃ d G',Mv K H G H' G'/\bW K H' v d/\Q d G'
theorem oA.of{pins:List (Addr×Obj)}{σ:L2.St}{H:Hp}{G:Gp}{Q:DK}{u:Value}{s':ak}(h:EP X pins σ (ya X.K H G Q) u s'):oA X pins σ H G Q u s':=by
 obtain⟨v,H',I,r,d,G',m,rd,q⟩:=h;exact⟨v,H',d,G',I,m,r,rd,q⟩
theorem Gn(ha:gh X a ta)(hb:gh X b tb){E:ke}{pins:List (Addr×Obj)}{s:ak}{σ:L2.St}{H:Hp}{τ:gx}{G:Gp}{R:D->D->Gp->Prop}(hE:Lk X E)(I:I2 X pins σ H τ G s)
  (h:ta E τ G fun x G1=>tb E τ G1 fun y G2=>R x y G2) {Q:Value->ak->Prop} {f:Value->Value->Sem Value}
  (hf:∀ v u s2 x y dx dy H2 G2,I2 X pins σ H2 τ G2 s2->Mv X.K H G H2 G2->RelV x v->RelV y u->bW X.K H2 x dx->bW X.K H2 y dy->R dx dy G2->wpAny (model X.prog X.w) X.A (f v u) Q X.xe s2) :
  wpAny (model X.prog X.w) X.A (eval a X.env) (fun v dS=>wpAny (model X.prog X.w) X.A (eval b X.env) (fun u jt=>wpAny (model X.prog X.w) X.A (f v u) Q X.xe jt) X.xe dS) X.xe s:=by
 refine kQ ha hE I h fun x H1 dx G1 v s1 I1 m1 r1 j4 q1=>?_;refine kQ hb hE I1 q1 fun y H2 dy G2 u s2 kz m2 r2 BI q2=>?_;exact hf v u s2 x y dx dy H2 G2 kz (m1.trans m2) r1 r2 (j4.mono (m2.kp I1.ab)) BI q2
theorem bH{op:Operator}{r:vY}(ho:lF X (iR op) r)(ha:gh X a ta)(hb:gh X b tb):gh X (.BinOp a op b pos) (aZ r ta tb):=by
 intro E pins s σ H τ G Q hE I h;exact wpAny_BinOp (Gn ha hb hE I h fun v u s2 x y dx dy H2 G2 kz m rx ry dX dY q=>fG (ho pins s2 σ H2 G2 x y dx dy v u Q kz.inv kz.ab rx ry dX dY q) fun _ _ z=>z.trans m)
theorem EV{op:UnaryOp}{r:D->Gp->DK->Prop}(ho:M6 X (unaryOp op) r)(ha:gh X a ta):gh X (.UnaryOp op a pos) (Dm r ta):=by
 intro E pins s σ H τ G Q hE I h;exact UnaryOp_ (kQ ha hE I h fun x H1 dx G1 v s1 I1 m1 r1 j4 q1=>fG (ho pins s1 σ H1 G1 x dx v Q I1.inv I1.ab r1 j4 q1) fun _ _ z=>z.trans m1)
theorem xp{op:CmpOp}{r:vY}(ho:lF X (cX op) r)(ha:gh X a ta)(hb:gh X b tb)(hm:behindInMarks op b=false):gh X (.Compare a [op] [b] pos) (aZ r ta tb):=by
 intro E pins s σ H τ G Q hE I h;exact wpAny_Compare1 (Gn ha hb hE I h fun v u s2 x y dx dy H2 G2 kz m rx ry dX dY q=>fG (ho pins s2 σ H2 G2 x y dx dy v u Q kz.inv kz.ab rx ry dX dY q) fun _ _ z=>z.trans m) hm
end
end K2
end
section
namespace K2
open PySem PySem.Spec PyProof.Rows L2
theorem Ly{K:ah}{H:Hp}{G:Gp}{x:V}{d:D}{k:Bool}(ab:kA K H G)(r:bW K H x d)(e:CC d G=some k):(∃ p,x=.ref p/\Rd H p (.dT [])/\k=false)\/(∃ p kv,x=.ref p/\Rd H p (.dK kv)/\k=!kv.isEmpty)\/KR K x H k:=by
 have FR:∀ aY:List (D×D),(if (aY.all fun p=>dF p.1)=true then some (!aY.isEmpty) else none)=some k->∀ p,((∃ kv,Rd H p (.dK kv)/\lJ K H kv aY)\/∃ kv,Rd H p (.dT kv)/\mS K H kv aY) ->
   (∃ p',V.ref p=.ref p'/\Rd H p' (.dT [])/\k=false)\/(∃ p' kv,V.ref p=.ref p'/\Rd H p' (.dK kv)/\k=!kv.isEmpty)\/KR K (.ref p) H k:=by
  intro aY e p z;by_cases ha:(aY.all fun p=>dF p.1)=true
  ·rw [if_pos ha] at e;cases e;rcases z with ⟨kv,hv,rs⟩ | ⟨kv,hv,rs⟩
   ·right; left;refine⟨p,kv,rfl,hv,?_⟩;cases rs <;> rfl
   ·left;cases rs with
    | nil=>exact⟨p,rfl,hv,rfl⟩
    | cons _ _=>simp [dF] at ha
  ·rw [if_neg ha] at e; cases e
 cases r with
 | cR=>right; right; cases e; rfl
 | bl b=>right; right; cases e; rfl
 | int i=>right; right; cases e; rfl
 | str y =>
  right; right;unfold CC at e;dsimp only at e;by_cases h:y.length<=SZ
  ·rw [if_pos h] at e; cases e; exact⟨by rw [cf]; exact h,rfl⟩
  ·rw [if_neg h] at e; cases e
 | tup h rs =>
  right; right;cases e;refine .inr (.inl ⟨_,.of h,?_⟩);cases rs <;> rfl
 | dm h rs =>
  right; right;cases e;refine .inl ⟨_,h.sq,?_⟩;cases rs <;> rfl
 | pX h rs=>exact FR _ e _ (.inl ⟨_,.inr ⟨_,h⟩,rs⟩)
 | pW h rs=>exact FR _ e _ (.inr ⟨_,.inr ⟨_,h⟩,rs⟩)
 | exc h=>simp [CC] at e
 | ref a =>
  unfold CC at e;dsimp only at e;cases q:G a with
  | none=>rw [q] at e; cases e
  | some g =>
   rw [q] at e;have z:=ab a g q;cases g with
   | lst ds =>
    right; right;obtain⟨vs,hv,rs⟩:=z;cases e;refine .inl ⟨vs,.of hv,?_⟩;cases rs <;> rfl
   | iV aY =>
    refine FR aY e a ?_;rcases z with ⟨kv,hv,rs⟩ | ⟨kv,hv,rs⟩
    ·exact .inl ⟨kv,.inl hv,rs⟩
    ·exact .inr ⟨kv,.inl hv,rs⟩
section
variable {X:Cx} {a b c:Expr} {ta tb tc:fQ} {pos:Pos}
noncomputable def M8(X:Cx):Prop:=∀ (pins:List (Addr×Obj)) (s:ak) (σ:L2.St) (H:Hp) (G:Gp) (x:V) (d:D) (v:Value) (k:Bool) (Q:Bool->ak->Prop),Inv X pins σ H s->kA X.K H G->RelV x v->bW X.K H x d->CC d G=some k ->
  (∀ s',Inv X pins σ H s'->Q k s')->wpAny (model X.prog X.w) X.A (truthy v) Q X.xe s
theorem Ei:M8 X:=by
 intro pins s σ H G x d v k Q I ab rx rd e q;rcases Ly ab rd e with ⟨p,rfl,hv,hk⟩ | ⟨p,kv,rfl,hv,hk⟩ | h
 ·obtain⟨z,hS,xs,rel,o,es,ep,ho,hx,C9,hl,nd⟩:=hv.ok I.dA;have Lc:xs=[]:=by cases rel; rfl
  subst Lc;have he:es=#[]:=by simpa using hl
  subst he;cases rx;have dd:s.heap.DictOf (eP X.prog X.w) p []:=⟨o,#[],ep,ho,hx,C9,(fun _ h=>by simp at h),.nil,bZ⟩;refine z0 hS dd (by simp) ?_;subst hk;exact q _ (I.tok _)
 ·cases rx;subst hk;exact Ip I hv q
 ·exact fG (Jq pins s σ H x v (fun k' H'=>k'=k/\H'=H) I rx ⟨k,h,rfl,rfl⟩) fun k' s' DL=>by
   obtain⟨H',I',e1,e2⟩:=DL;subst e1; subst e2; exact q s' I'
theorem ic(ha:gh X a ta)(he:autoParam (∀ whole,isTrue a X.env whole=(do let v ← whole; standAt a.pos; Aa [v] (truthy v))) Ai._auto_1):Bf X a (fX ta):=by
 intro E pins s σ H τ G Q hE I h;refine isTrue_plain (kQ ha hE I h fun x H1 d G1 v s1 I1 m1 r1 j4 q1=>?_) (he _)
 try dsimp only at q1
 split at q1
 ·rename_i k e;exact Ei pins s1 σ H1 G1 x d v k _ I1.inv I1.ab r1 j4 e fun s' I'=>⟨H1,G1,I',m1,q1⟩
 ·exact q1.elim
theorem dM{op:CmpOp}{r:vY}(ho:lF X (cX op) r)(ha:gh X a ta)(hb:gh X b tb)(hm:behindInMarks op b=false):Bf X (.Compare a [op] [b] pos) (fX (aZ r ta tb)):=by
 intro E pins s σ H τ G Q hE I h;refine wpAny_isTrue_Compare1 (kQ ha hE I h fun x H1 dx G1 v s1 I1 m1 r1 j4 q1=>kQ hb hE I1 q1 fun y H2 dy G2 u s2 kz m2 r2 BI q2 =>
  fG (ho pins s2 σ H2 G2 x y dx dy v u _ kz.inv kz.ab r1 r2 (j4.mono (m2.kp I1.ab)) BI q2) ?_) hm
 rintro c s3 ⟨z,H3,dz,G3,I3,m3,r3,OD,q3⟩
 try dsimp only at q3
 split at q3
 ·rename_i k e;exact Ei pins s3 σ H3 G3 z dz c k _ I3 m3.ab r3 OD e fun s' I'=>⟨H3,G3,I',(m1.trans m2).trans m3,q3⟩
 ·exact q3.elim
variable {tA tB:u5} {rest:List Expr}
theorem Cw.pt{e:Expr}{t:u5}(h:Cw X e t):Bf X e t:=fun E pins s σ H τ G Q hE I q=>h _ E pins s σ H τ G Q hE I q
theorem Em{pins:List (Addr×Obj)}{σ:L2.St}{H:Hp}{τ:gx}{G:Gp}{s:ak}{E:ke}{R:Bool->Gp->Prop}{Q:Bool->ak->Prop}(ha:Bf X a tA)(hE:Lk X E)(I:I2 X pins σ H τ G s)(h:tA E τ G R)
  (k:∀ c H1 G1 s1,I2 X pins σ H1 τ G1 s1->Mv X.K H G H1 G1->R c G1->Q c s1):wpAny (model X.prog X.w) X.A (isTrue a X.env (eval a X.env)) Q X.xe s :=
 fG (ha E pins s σ H τ G R hE I h) (by rintro c s1 ⟨H1,G1,I1,m,q⟩; exact k c H1 G1 s1 (I.mv I1 m) m q)
theorem yP(ha:Bf X a tA):Cw X (.BoolOp .And [a] pos) tA:=by
 intro wh E pins s σ H τ G Q hE I h;refine isTrue_and (fG (ha E pins s σ H τ G Q hE I h) fun c s1 e=>?_);cases c with
 | true=>exact isTrue_and_nil e
 | false=>exact e
theorem sY(ha:Bf X a tA):Cw X (.BoolOp .Or [a] pos) tA:=by
 intro wh E pins s σ H τ G Q hE I h;refine isTrue_or (fG (ha E pins s σ H τ G Q hE I h) fun c s1 e=>?_);cases c with
 | false=>exact isTrue_or_nil e
 | true=>exact e
theorem BK(ha:Bf X a tA)(hb:Cw X (.BoolOp .And (b :: rest) pos) tB):Cw X (.BoolOp .And (a :: b :: rest) pos) (xY tA tB):=by
 intro wh E pins s σ H τ G Q hE I h;refine isTrue_and (Em ha hE I h fun c H1 G1 s1 I1 m1 q1=>?_);cases c with
 | true=>exact fG (hb wh E pins s1 σ H1 τ G1 Q hE I1 (by simpa using q1)) fun _ _ z=>z.trans m1
 | false=>exact⟨H1,G1,I1.inv,m1,by simpa using q1⟩
theorem t6(ha:Bf X a tA)(hb:Cw X (.BoolOp .Or (b :: rest) pos) tB):Cw X (.BoolOp .Or (a :: b :: rest) pos) (Ck tA tB):=by
 intro wh E pins s σ H τ G Q hE I h;refine isTrue_or (Em ha hE I h fun c H1 G1 s1 I1 m1 q1=>?_);cases c with
 | false=>exact fG (hb wh E pins s1 σ H1 τ G1 Q hE I1 (by simpa using q1)) fun _ _ z=>z.trans m1
 | true=>exact⟨H1,G1,I1.inv,m1,by simpa using q1⟩
theorem kC(ha:Bf X a tA):Bf X (.UnaryOp .Not a pos) (me tA):=by
 intro E pins s σ H τ G Q hE I h;exact isTrue_not (fG (ha E pins s σ H τ G (fun c H1=>Q (!c) H1) hE I h) (by rintro c s' ⟨H',G',i,m,q⟩; exact⟨H',G',i,m,q⟩))
theorem Ht{op}{t:fQ}(h:gh X a t):gh X (.BoolOp op [a] pos) t:=fun E pins s σ H τ G Q hE I hw=>BoolOp_one (h E pins s σ H τ G Q hE I hw)
theorem Hv(ha:gh X a ta)(hb:gh X (.BoolOp .And (b :: rest) pos) tb):gh X (.BoolOp .And (a :: b :: rest) pos) (Cm ta tb):=by
 intro E pins s σ H τ G Q hE I h;refine BoolOp_and (kQ ha hE I h fun x H1 d G1 v s1 I1 m1 r1 j4 q1=>?_)
 try dsimp only at q1
 split at q1
 ·rename_i e;exact Ei pins s1 σ H1 G1 x d v true _ I1.inv I1.ab r1 j4 e fun s' I'=>fG (hb E pins s' σ H1 τ G1 Q hE ⟨I',I1.st,I1.ab⟩ q1) fun _ _ z=>z.trans m1
 ·rename_i e;exact Ei pins s1 σ H1 G1 x d v false _ I1.inv I1.ab r1 j4 e fun s' I'=>⟨x,H1,d,G1,I',m1,r1,j4,q1⟩
 ·exact q1.elim
theorem Hu(ha:gh X a ta):gh X (.UnaryOp .Not a pos) (FW ta):=by
 intro E pins s σ H τ G Q hE I h;refine UnaryOp_ (kQ ha hE I h fun x H1 d G1 v s1 I1 m1 r1 j4 q1=>?_)
 try dsimp only at q1
 split at q1
 ·rename_i k e;exact not_of (Ei pins s1 σ H1 G1 x d v k _ I1.inv I1.ab r1 j4 e fun s' I'=>⟨.bl (!k),H1,.bl (!k),G1,I',m1,rfl,.bl _,q1⟩)
 ·exact q1.elim
variable {e:Expr} {es:List Expr} {te:fQ} {t:zZ}
theorem aA:Bg X [] aT:=fun _ _ _ _ _ H _ G Q _ I h=>jE ⟨[],H,[],G,I.inv,.refl I.ab,.nil,.nil,h⟩
theorem ao(ha:gh X e te)(hr:Bg X es t)(hs:autoParam (bA (e :: es) X.env=(false,eval e X.env) :: bA es X.env) Ar._auto_1):Bg X (e :: es) (az te t):=by
 intro pos E pins s σ H τ G Q hE I h;rw [hs];show wpAny _ _ (z8 ((false,eval e X.env) :: jd pos (bA es X.env))) _ _ s;refine gJ (kQ ha hE I h fun x H1 d G1 u s1 I1 m1 r1 j4 q1=>?_);exact fG (hr pos E pins s1 σ H1 τ G1 _ hE I1 q1) (by rintro us s2 ⟨xs,H2,ds,G2,kz,m2,r2,BI,q2⟩; exact⟨x :: xs,H2,d :: ds,G2,kz,m1.trans m2,.cons r1 r2,.cons (j4.mono (m2.kp I1.ab)) BI,q2⟩)
theorem w7{pins:List (Addr×Obj)}{σ:L2.St}{H:Hp}{τ:gx}{G:Gp}{s:ak}{E:ke}{R:List D->Gp->Prop}{Q:List Value->ak->Prop}(ha:Bg X es t)(pos:Pos)(hE:Lk X E)(I:I2 X pins σ H τ G s)(h:t E τ G R)
  (k:∀ vs H1 ds G1 us s1,I2 X pins σ H1 τ G1 s1->Mv X.K H G H1 G1->Vals vs us->a5 X.K H1 vs ds->R ds G1->Q us s1):wpAny (model X.prog X.w) X.A (z8 (jd pos (bA es X.env))) Q X.xe s :=
 fG (ha pos E pins s σ H τ G R hE I h) (by rintro us s1 ⟨vs,H1,ds,G1,I1,m,r,rd,q⟩; exact k vs H1 ds G1 us s1 (I.mv I1 m) m r rd q)
theorem lS{x1}(h:Bg X es t):gh X (.Tuple es x1 pos) (lC t):=by
 intro E pins s σ H τ G Q hE I hq;refine wpAny_Tuple_spliced (w7 h pos hE I hq ?_);rintro xs H1 ds G1 us s1 I1 m1 r rd ⟨z,q⟩;refine⟨by rw [<-r.length,rd.length,cf]; exact z,?_⟩;have hf:H1 s1.heap.objs.size=none:=I1.inv.dA.fresh (aG _);refine⟨.ref s1.heap.objs.size,upd H1 s1.heap.objs.size (.tup xs),.tup ds,G1,I1.inv.laid (t':=s1.toks) (fun b u e=>ax _ e) (aG _) ?_,m1.trans (.Ib I1.ab hf),rfl,?_,q⟩
 ·exact⟨by rw [rd.length,cf]; exact z,us,r,⟨_,ba _ rfl,rfl,_,rfl⟩⟩
 ·exact .tup cN (rd.mono (.new hf))
theorem dZ(h:Bg X es t):gh X (.List es pos) (fe t):=by
 intro E pins s σ H τ G Q hE I hq;refine wpAny_List_spliced (w7 h pos hE I hq ?_);rintro xs H1 ds G1 us s1 I1 m1 r rd ⟨z,q⟩;refine⟨by rw [<-r.length,rd.length,cf]; exact z,?_⟩;have hf:H1 s1.heap.objs.size=none:=I1.inv.dA.fresh (aG _);refine⟨.ref s1.heap.objs.size,upd H1 s1.heap.objs.size (.lst xs),.ref _,cB G1 s1.heap.objs.size (.lst ds),I1.inv.laid (t':=s1.toks) (fun b u e=>ax _ e) (aG _) ?_,m1.trans (.xw I1.ab hf rd),rfl,.ref _,q _ (I1.ab.free hf)⟩;exact⟨by rw [rd.length,cf]; exact z,us,0,r,ba _ rfl⟩
noncomputable def da(K:ah)(sp:mq):Sp:=fun vs H Q _=>∃ ds G Q2,a5 K H vs ds/\kA K H G/\sp ds G Q2 (fun _ _=>False)/\∀ d G' v H',Q2 d G'->Mv K H G H' G'->bW K H' v d->Q v H'
variable {k:Nat} {f:Addr} {fd:aB} {ps:List Str} {sp:mq} {x:Str} {p:Pos} {r:List D->Gp->DK->Prop} {id:String}
theorem EY(F:fB X.prog X.w X.K X.mg X.base fV k f fd ps (da X.K sp))(hr:iM k X.A)(hg:Gl X x)(hm:X.mg x=some (.ref f))(hk:iq X.K (.ref f)=true)(hb:Binds X.K fd ps [])
  (ha:Bg X (e :: es) t) (AS:autoParam ((x == ("__debug__" : Str))=false) Ad._auto_1) (he:autoParam (bA (e :: es) X.env=(false,eval e X.env) :: bA es X.env) Ar._auto_1) (zY:autoParam ((jd pos (bA es X.env)).any (·.1)=false) Ar._auto_1) :
  gh X (.Call (.Name x p) (e :: es) [] pos) (fun E τ G Q=>br (fun ds G1 Q1 _=>sp ds G1 Q1 fun _ _=>False) t E τ G Q):=by
 intro E pins s σ H τ G Q hE I h;refine c6 (BW I.inv hg hm ?_ AS);refine Gz (h₀:=X.base) I.inv.ok.mod.Nz hk (w7 ha pos hE I h fun vs H1 ds G1 us s1 I1 m1 r rd q=>⟨I1.inv.B0,?_⟩) he zY;refine fG (EB F hr hb .nil IP I1.inv r (Q:=ya X.K H1 G1 Q) ?_) fun _ _ z=>(oA.of z).trans m1;rw [eE];exact⟨ds,G1,Q,rd,I1.ab,q,fun d G' v H' q' m' K7=>⟨d,G',m',K7,q'⟩⟩
theorem cD (hc:oe X (.builtin id) r) (hg:Gl X x) (hm:X.mg x=none) (hv:c7 x=some (.builtin id)) (ha:Bg X (e :: es) t) (hn:autoParam (x≠"__name__") Ad._auto_1) (AS:autoParam ((x == ("__debug__" : Str))=false) Ad._auto_1)
  (he:autoParam (bA (e :: es) X.env=(false,eval e X.env) :: bA es X.env) Ar._auto_1) (zY:autoParam ((jd pos (bA es X.env)).any (·.1)=false) Ar._auto_1):gh X (.Call (.Name x p) (e :: es) [] pos) (ky r t):=by
 intro E pins s σ H τ G Q hE I h;refine c6 (kU I.inv hg hm hv ?_ hn AS);exact qU (w7 ha pos hE I h fun vs H1 ds G1 us s1 I1 m1 r1 j4 q1=>fG (hc pins s1 σ H1 G1 vs ds us Q I1.inv I1.ab r1 j4 q1) fun _ _ z=>z.trans m1) he zY
variable {st:Stmt} {Qo:List Stmt} {u v:gW}
theorem cY:rN X [] cW:=fun _ _ _ σ H τ G _ _ I h=>tL ⟨σ,H,τ,G,I,.refl I.ab,h⟩
theorem aF(h1:Cy X st u)(h2:rN X Qo v):rN X (st :: Qo) (cm u v):=by
 intro E pins s σ H τ G D hE I h;refine wpAny_execs_cons (fG (h1 E pins s σ H τ G { D with nx:=v E D } hE I h) fun f s1 q=>?_);cases f with
 | next =>
  obtain⟨hW,H',mx,G',I',m,q⟩:=q;exact fG (h2 E pins s1 hW H' mx G' D hE I' q) fun _ _ z=>z.trans m
 | ret v=>exact q
 | brk=>exact q
 | cont=>exact q
theorem aM(h1:Cy X st u):rN X [st] u:=by
 intro E pins s σ H τ G D hE I h;refine wpAny_execs_cons (fG (h1 E pins s σ H τ G D hE I h) fun f s1 q=>?_);cases f with
 | next=>exact tL q
 | ret v=>exact q
 | brk=>exact q
 | cont=>exact q
theorem bJ(he:gh X e te):Cy X (.Return (some e) pos) (cq te):=by
 intro E pins s σ H τ G D hE I h;exact wpAny_Return_some (fG (he E pins s σ H τ G _ hE I h) (by rintro v s1 ⟨x,H1,d,G1,I1,m,r1,rd,q1⟩; exact⟨x,σ,H1,d,G1,I1,m,r1,rd,q1⟩))
theorem fv{sa sb:List Stmt}(hc:Bf X c tA)(ha:rN X sa u)(hb:rN X sb v):Cy X (.If c sa sb pos) (fO tA u v):=by
 intro E pins s σ H τ G D hE I h;refine wpAny_If (Em hc hE I h fun d H1 G1 s1 I1 m1 q1=>?_);cases d with
 | true=>exact fG (ha E pins s1 σ H1 τ G1 D hE I1 (by simpa using q1)) fun _ _ z=>z.trans m1
 | false=>exact fG (hb E pins s1 σ H1 τ G1 D hE I1 (by simpa using q1)) fun _ _ z=>z.trans m1
noncomputable def DP(X:Cx)(target:Expr)(t:wV):Prop :=
 ∀ (E:ke) (pins:List (Addr×Obj)) (s:ak) (σ:L2.St) (H:Hp) (τ:gx) (G:Gp) (w:V) (d:D) (u:Value) (Q:gx->Gp->Prop),Lk X E->I2 X pins σ H τ G s->RelV w u->bW X.K H w d->t E d τ G Q ->
  wpAny (model X.prog X.w) X.A (D4 target X.env u) (fun _ s'=>∃ hW H' mx G',I2 X pins hW H' mx G' s'/\Mv X.K H G H' G'/\Q mx G') X.xe s
noncomputable def IA(X:Cx)(ts:List Expr)(t:x9):Prop :=
 ∀ (E:ke) (pins:List (Addr×Obj)) (s:ak) (σ:L2.St) (H:Hp) (τ:gx) (G:Gp) (ws:List V) (ds:List D) (us:List Value) (Q:gx->Gp->Prop),Lk X E->I2 X pins σ H τ G s->Vals ws us->a5 X.K H ws ds->t E ds τ G Q ->
  wpAny (model X.prog X.w) X.A (assignInOrder ((vh ts X.env).map (·.2)) us) (fun _ s'=>∃ hW H' mx G',I2 X pins hW H' mx G' s'/\Mv X.K H G H' G'/\Q mx G') X.xe s
theorem ET{i:Nat}{x:Str}(hN:X.N.Nodup)(hi:X.N[i]?=some x)(hx:Loc X.env.scope x)(hf:autoParam (X.fn x=true\/X.env.scope.names.lookup x=some .local) Ao._auto_1):DP X (.Name x pos) (aJ i):=by
 intro E pins s σ H τ G w d u Q hE I r rd h;exact wpAny_assign_Name (yC I.inv hN hi hx r (fun s' I'=>⟨_,H,_,G,⟨I',I.st.set i rd,I.ab⟩,.refl I.ab,h⟩) hf)
theorem ES:IA X [] FF:=by
 intro E pins s σ H τ G ws ds us Q hE I r rd h;unfold FF at h;split at h
 ·have e:=rd.zero;subst e;cases r;exact assignInOrder_nil ⟨σ,H,τ,G,I,.refl I.ab,h⟩
 ·exact h.elim
theorem q4{t:wV}{u:x9}(h1:DP X e t)(h2:IA X es u)
  (hs:autoParam ((vh (e :: es) X.env).map (·.2)=D4 e X.env :: (vh es X.env).map (·.2)) Ar._auto_1):IA X (e :: es) (r0 t u):=by
 intro E pins s σ H τ G ws ds us Q hE I r rd h;unfold r0 at h;split at h
 ·cases rd with
  | cons j4 BI =>
   cases r with
   | cons r1 r2 =>
    rw [hs];refine assignInOrder_cons (fG (h1 E pins s σ H τ G _ _ _ _ hE I r1 j4 h) ?_);rintro _ s1 ⟨Ng,H1,pN,G1,I1,m1,q1⟩;exact fG (h2 E pins s1 Ng H1 pN G1 _ _ _ Q hE I1 r2 (BI.mono (m1.kp I.ab)) q1) (by rintro _ _ ⟨Oo,H2,v5,G2,kz,m2,q2⟩; exact⟨Oo,H2,v5,G2,kz,m1.trans m2,q2⟩)
 ·exact h.elim
theorem Hr{k:Nat}{t:x9}{n:Nat}(hc:X.calm=true)(h:IA X es t)(Tr:∀ E ds τ G Q,t E ds τ G Q->ds.length=n)
  (hn:autoParam ((vh es X.env).length=n) Ar._auto_1) (Md:autoParam ((vh es X.env).findIdx? (·.1)=none) Ar._auto_1):DP X (.Tuple es k pos) (Ie t):=by
 intro E pins s σ H τ G w d u Q hE I r rd hw;unfold Ie at hw;split at hw
 ·cases rd with
  | tup hq rs =>
   cases r;obtain⟨its,rv,ht,hz⟩:=I.inv.tuple (.of hq);refine assign_Tuple_tuple (I.inv.ok.hd hc) ht (by rw [hn,aI,<-rv.length,rs.length]; exact(Tr _ _ _ _ _ hw).symm) Md fun h' hx=>?_;have I1:Inv X pins σ H { s with heap:=h' }:=I.inv.kept (t':=s.toks) fun b o e=>hx b o (bh (aL e)) e;exact h E pins _ σ H τ G _ _ _ Q hE ⟨I1,I.st,I.ab⟩ (by simpa using rv) rs hw
 ·exact hw.elim
theorem FD:∀ E ds τ G Q,FF E ds τ G Q->ds.length=0:=by
 intro E ds τ G Q h;cases ds with
 | nil=>rfl
 | cons _ _=>exact h.elim
theorem Dc{t:wV}{u:x9}{n:Nat}(h:∀ E ds τ G Q,u E ds τ G Q->ds.length=n)(hm:∀ E d τ G (Q Q':gx->Gp->Prop),t E d τ G Q->(∀ mx G',Q mx G'->Q' mx G')->t E d τ G Q')(hx:∀ E d τ G,¬ t E d τ G fun _ _=>False) :
  ∀ E ds τ G Q,r0 t u E ds τ G Q->ds.length=n+1:=by
 intro E ds τ G Q q;cases ds with
 | nil=>exact q.elim
 | cons d ds =>
  by_cases hl:ds.length=n
  ·rw [ai,hl]
  ·exact absurd (hm E d τ G _ (fun _ _=>False) q fun mx G' z=>hl (h _ _ _ _ _ z)) (hx E d τ G)
theorem xm{tg:Expr}{g:wV}(he:gh X e te)(hg:DP X tg g)(hs:autoParam (swapsWithSole [tg] e pos.line X.env=pure false) Ar._auto_1)(hw:autoParam (swappedStores [tg] e X.env=pure none) Ar._auto_1)
  (h1:autoParam ((vh [tg] X.env).map (·.2)=[D4 tg X.env]) Ar._auto_1):Cy X (.Assign [tg] e pos) (bO te g):=by
 intro E pins s σ H τ G D hE I h;refine wpAny_Assign_stores (kQ he hE I h fun x H1 d G1 v s1 I1 m1 r1 j4 q1=>?_) hs hw;rw [h1];exact fG (hg E pins s1 σ H1 τ G1 x d v _ hE I1 r1 j4 q1) (by rintro _ s2 ⟨Oo,H2,v5,G2,kz,m2,q2⟩; exact⟨Oo,H2,v5,G2,kz,m1.trans m2,q2⟩)
theorem Hq{i:Nat}{x:Str}{pos':Pos}(hN:X.N.Nodup)(hi:X.N[i]?=some x)(hx:Loc X.env.scope x)(he:gh X e te)(hs:autoParam (DW e (some (.Name x pos')) pos.line X.env=pure false) Ar._auto_1)(hf:autoParam (X.fn x=true\/X.env.scope.names.lookup x=some .local) Ao._auto_1) :
  Cy X (.Assign [.Name x pos'] e pos) (bO te (aJ i)):=by
 intro E pins s σ H τ G D hE I h;refine wpAny_Assign_Name (kQ he hE I h fun y H1 d G1 v s1 I1 m1 r1 j4 q1=>?_) hs;exact yC I1.inv hN hi hx r1 (fun s2 kz=>⟨_,H1,_,G1,⟨kz,I1.st.set i j4,I1.ab⟩,m1,q1⟩) hf
theorem fw(he:gh X e te)(hs:autoParam (DW e none pos.line X.env=pure false) Ar._auto_1):Cy X (.Expr e pos) (eh te):=by
 intro E pins s σ H τ G D hE I h;exact wpAny_Expr_any (kQ he hE I h fun y H1 d G1 v s1 I1 m1 r1 j4 q1=>⟨σ,H1,τ,G1,I1,m1,q1⟩) I.inv.quiet hs
end
end K2
end
section
namespace K2
open PySem PySem.Spec PyProof.Rows L2
noncomputable def Jg(K:ah)(J:It)(H':Hp)(ds:List D)(ok:Gp->Prop):Prop :=
 ∀ i H1 G1,Kp H' H1->kA K H1 G1->ok G1->(∀ d,ds[i]?=some d->J.go i H1/\∀ x H2,J.Qm i H1 x H2->bW K H2 x d/\Mv K H1 G1 H2 G1)/\(ds.length<=i->J.stop i H1)
inductive Gu (X:Cx) (pins:List (Addr×Obj)) (σ:L2.St) (tg:Expr) (H:Hp) (G:Gp) (R:List D->(Gp->Prop)->Gp->Prop) (IU:Value) (s2:ak):Prop
 | mk (it:Addr) (fp:List Addr) (tn:Nat->Heap->Prop) (J:It) (H':Hp) (G':Gp) (ds:List D) (ok:Gp->Prop) (e:IU=.ref it) (i:Inv X pins σ H' s2) (m:Mv X.K H G H' G') (T:Turn X.prog X.w X.K tg J fp it tn) (t0:tn 0 s2.heap) (f:∀ b∈fp,sJ X pins H' b)
  (wk:Jg X.K J H' ds ok) (q:R ds ok G'):Gu X pins σ tg H G R IU s2
noncomputable def KZ(X:Cx)(tg iter:Expr)(wi:KS):Prop :=
 ∀ (E:ke) (pins:List (Addr×Obj)) (s:ak) (σ:L2.St) (H:Hp) (τ:gx) (G:Gp) (R:List D->(Gp->Prop)->Gp->Prop),Lk X E->I2 X pins σ H τ G s->wi E τ G R ->
  wpAny (model X.prog X.w) X.A (eval iter X.env) (fun v s1=>wpAny (model X.prog X.w) X.A (pyIter v) (Gu X pins σ tg H G R) X.xe s1) X.xe s
section
variable {X:Cx} {tg:Expr} {a b:Expr} {ta tb:fQ} {pos p:Pos}
theorem BV{pins:List (Addr×Obj)}{σ:L2.St}{H H1:Hp}{G G1:Gp}{s1:ak}{l:Addr}{vs:List V}{ds:List D}{ok:Gp->Prop}{R:List D->(Gp->Prop)->Gp->Prop}(I1:Inv X pins σ H1 s1)(m:Mv X.K H G H1 G1)(hq:vW X.K H1 l vs)
  (hk:∀ H2 G2,Kp H1 H2->kA X.K H2 G2->ok G2->∃ ws,vW X.K H2 l ws/\a5 X.K H2 ws ds) (q:R ds ok G1):wpAny (model X.prog X.w) X.A (pyIter (.ref l)) (Gu X pins σ tg H G R) X.xe s1:=by
 obtain⟨its,rv,pl,hz⟩:=I1.list hq;refine pH pl.isList ?_;refine⟨s1.heap.objs.size,[s1.heap.objs.size],_,_,H1,G1,ds,ok,rfl,I1.kept (t':=s1.toks) fun b o e=>ax _ e,m,CA l _,⟨_,ba _ rfl,rfl,rfl⟩,fun b hb=>?_,fun i H2 G2 k ab o=>?_,q⟩
 ·have e:b=s1.heap.objs.size:=by simpa using hb
  subst e;exact I1.Ik (aG _) (I1.dA.fresh (aG _))
 ·obtain⟨ws,hw,rd⟩:=hk H2 G2 k ab o;refine⟨fun d hd=>?_,fun hl=>⟨ws,hw,by rw [rd.length]; exact hl⟩⟩;obtain⟨v,hv,r⟩:=rd.get hd;refine⟨⟨ws,v,hw,hv⟩,?_⟩;rintro x H3 ⟨e,y⟩;subst e;have:=y ws hw;rw [hv] at this;cases this;exact⟨r,.refl ab⟩
theorem Jp{pins:List (Addr×Obj)}{σ:L2.St}{H H1:Hp}{G G1:Gp}{s1:ak}{l:Addr}{vs:List V}{ds:List D}{R:List D->(Gp->Prop)->Gp->Prop}(I1:Inv X pins σ H1 s1)(m:Mv X.K H G H1 G1)(hq:u6 X.K H1 l vs)(rd:a5 X.K H1 vs ds)
  (q:R ds (fun _=>True) G1):wpAny (model X.prog X.w) X.A (pyIter (.ref l)) (Gu X pins σ tg H G R) X.xe s1:=by
 obtain⟨its,rv,pl,hz⟩:=I1.tuple hq;refine yv (show s1.heap.IsTuple l its.toArray from pl) ?_;refine⟨s1.heap.objs.size,[s1.heap.objs.size],_,_,H1,G1,ds,_,rfl,I1.kept (t':=s1.toks) fun b o e=>ax _ e,m,As l _,⟨_,ba _ rfl,rfl,rfl⟩,fun b hb=>?_,fun i H2 G2 k ab _=>?_,q⟩
 ·have e:b=s1.heap.objs.size:=by simpa using hb
  subst e;exact I1.Ik (aG _) (I1.dA.fresh (aG _))
 ·have hw:=k.RQ hq;have BI:=rd.mono k;refine⟨fun d hd=>?_,fun hl=>⟨vs,hw,by rw [rd.length]; exact hl⟩⟩;obtain⟨v,hv,r⟩:=BI.get hd;refine⟨⟨vs,v,hw,hv⟩,?_⟩;rintro x H3 ⟨e,y⟩;subst e;have:=y vs hw;rw [hv] at this;cases this;exact⟨r,.refl ab⟩
theorem cx(ha:gh X a ta):KZ X tg a (gF ta):=by
 intro E pins s σ H τ G R hE I h;refine kQ ha hE I h fun x H1 d G1 v s1 I1 m1 r1 j4 q1=>?_;cases j4 with
 | tup hq rs=>cases r1; exact Jp I1.inv m1 (.of hq) rs q1
 | dm hq rs=>cases r1; exact BV I1.inv m1 hq.sq (fun H2 G2 k ab _=>⟨_,(k.LD hq).sq,rs.mono k⟩) q1
 | ref p =>
  cases r1;dsimp only at q1;split at q1
  ·rename_i ds e;obtain⟨vs,hv,rs⟩:=I1.ab.lst e;refine BV I1.inv m1 (.of hv) (fun H2 G2 k ab o=>?_) q1;obtain⟨ws,hw,o6⟩:=ab.lst o;exact⟨ws,.of hw,o6⟩
  ·exact q1.elim
 | pX _ _=>exact q1.elim
 | pW _ _=>exact q1.elim
 | cR=>exact q1.elim
 | bl _=>exact q1.elim
 | int _=>exact q1.elim
 | str _=>exact q1.elim
 | exc _=>exact q1.elim
theorem JD{pins:List (Addr×Obj)}{σ:L2.St}{H H1:Hp}{G G1:Gp}{s:ak}{R:List D->(Gp->Prop)->Gp->Prop}{lo hi:Int}{t u v:Tok}{tk:Nat}(I:Inv X pins σ H1 s)(m:Mv X.K H G H1 G1)(h1:-(2 ^ 62)<=lo)(h2:lo < 2 ^ 62)(h3:-(2 ^ 62)<=hi)(h4:hi < 2 ^ 62)
  (q:R (e7 lo (hi - lo).toNat) (fun _=>True) G1):wpAny (model X.prog X.w) X.A (pyIter (.ref s.heap.objs.size)) (Gu X pins σ tg H G R) X.xe { s with heap:=s.heap.push { cls:=.type "range",data:=.fields #[.int lo t,.int hi u,.int 1 v] },toks:=tk }:=by
 refine fG (EK (tg:=tg) I h1 h2 h3 h4 (R:=fun J H'=>J=Qj lo (hi - lo).toNat/\H'=H1) ⟨rfl,rfl⟩) ?_;rintro IU s2 ⟨it,fp,tn,J,H',e,kz,T,st,fo,eJ,eH⟩;subst eJ; subst eH;refine⟨it,fp,tn,_,H',G1,_,_,e,kz,m,T,st,fo,fun i H2 G2 k ab _=>⟨fun d hd=>?_,fun hl=>?_⟩,q⟩
 ·unfold e7 at hd;rw [cT] at hd;cases Ko:(bP (hi - lo).toNat)[i]? with
  | none=>rw [Ko] at hd; cases hd
  | some j =>
   rw [Ko] at hd;obtain⟨sD,ej⟩:=List.getElem?_eq_some_iff.mp Ko;rw [cC] at sD;rw [fE] at ej;subst ej;cases hd;refine⟨sD,?_⟩;rintro x H3 ⟨e1,e2⟩;subst e1; subst e2;exact⟨.int _,.refl ab⟩
 ·unfold e7 at hl;rw [af,cC] at hl;exact hl
theorem j5 (hg:Gl X "range") (hm:X.mg "range" = none) (ha:gh X a ta) (hs:autoParam (bA [a] X.env=[(false,eval a X.env)]) Ar._auto_1):KZ X tg (.Call (.Name "range" p) [a] [] pos) (uF ta):=by
 intro E pins s σ H τ G R hE I h;have hA:Bg X [a] (az ta aT):=ao ha aA hs;refine Call_ (kU I.inv hg hm boot_range (c8 (w7 hA pos hE I (R:=fun ds G1=>match ds with | [.int n]=>-(2 ^ 62)<=n/\n < 2 ^ 62/\R (e7 0 n.toNat) (fun _=>True) G1 | _=>False) ?_ fun vs H1 ds G1 us s1 I1 m1 r1 j4 q1=>?_) hs rfl))
 ·show ta E τ G _;have e:(fun (x:D) (G1:Gp)=>match [x] with | [.int n]=>-(2 ^ 62)<=n/\n < 2 ^ 62/\R (e7 0 n.toNat) (fun _=>True) G1 | _=>False)=fun x G1=>match x with | .int n=>-(2 ^ 62)<=n/\n < 2 ^ 62/\R (e7 0 n.toNat) (fun _=>True) G1 | _=>False:=by
   funext x G1; cases x <;> rfl
  exact e ▸ h
 ·split at q1
  ·rename_i n;obtain⟨w,rfl,GZ⟩:=j4.one;cases GZ;obtain⟨u,rfl,ru⟩:=r1.one;obtain⟨t,rfl⟩:=ru;obtain⟨q1,q2,q⟩:=q1;exact call_range_1 (JD I1.inv m1 (by lia) (by lia) q1 q2 (by simpa using q))
  ·exact q1.elim
theorem dv{iter:Expr}{body:List Stmt}{wi:KS}{g:wV}{t:gW}(hp:PassesOwn (model X.prog X.w) X.A X.env X.xe)(hc:X.calm=true)(hi:KZ X tg iter wi)(hg:DP X tg g)(hb:rN X body t)
  (hs:autoParam (∀ x,kN iter X.env x=pure x) Ai._auto_1):Cy X (.For tg iter body [] pos) (eR wi g t):=by
 intro E pins s σ H τ G D hE I h;refine wpAny_For (fG (hi E pins s σ H τ G _ hE I h) fun v s1 h1=>fG h1 fun IU s2 h2=>?_) hs;obtain⟨it,fp,tn,J,H2,G2,ds,ok,e,kz,m2,T,ID,f2,wk,q⟩:=h2;subst e;have Ju:∀ {H':Hp},(∀ b∈fp,H' b=none)->∀ b∈fp,sJ X pins H' b:=fun hn b hb=>⟨hn b hb,(f2 b hb).2⟩;refine codeAny_forLoop_any (fun n s'=>∃ i hW H' mx G',I2 X pins hW H' mx G' s'/\Mv X.K H G H' G'/\Kp H2 H'/\tn i s'.heap/\(∀ b∈fp,H' b=none)/\n=ds.length - i/\i<=ds.length/\oS g t ok (ds.drop i) E D mx G') ?_ ds.length
  ⟨0,σ,H2,τ,G2,I.mv kz m2,m2,.refl _,ID,fun b hb=>(f2 b hb).1,rfl,bS _,q⟩
 rintro n s3 ⟨i,GR,H3,Jj,G3,I3,m3,k3,Nl,Rg,rfl,hle,w3⟩;by_cases sD:i < ds.length
 ·rw [cZ sD] at w3;obtain⟨LX,w3⟩:=w3;obtain⟨go,yl⟩:=(wk i H3 G3 k3 I3.ab LX).1 ds[i] (by simp [sD]);refine ix hp (fG (T.item X rfl rfl rfl hc i pins s3 GR H3 X.xe I3.inv (Ju Rg) Nl go) ?_);rintro r s4 ⟨u,hr,h4⟩;subst hr;refine ix hp (fG h4 ?_);rintro _ s5 ⟨x,H5,I5,r5,y5,Ox,T4⟩;obtain⟨R8,m5⟩:=yl x H5 y5;have Vd:=I5.pinned (Ju T4) (T.obj _ _ Ox);have J5:I2 X (pins++nK fp s5.heap) GR H5 Jj G3 s5:=⟨Vd,I3.st.mono (m5.kp I3.ab),m5.ab⟩;refine ix hp (fG (hg E _ s5 GR H5 Jj G3 x ds[i] u _ hE J5 r5 R8 w3) ?_);rintro _ s6 ⟨RB,H6,RA,G6,I6,m6,q6⟩;refine ix hp (fG (hb E _ s6 RB H6 RA G6 _ hE I6 q6) fun f s7 q7=>?_);have again:∀ {DH:L2.St} {H7:Hp} {DG:gx} {G7:Gp},I2 X (pins++nK fp s5.heap) DH H7 DG G7 s7->Mv X.K H6 G6 H7 G7->oS g t ok (ds.drop (i+1)) E D DG G7 ->
    ∃ m,m < ds.length - i/\∃ i hW H' mx G',I2 X pins hW H' mx G' s7/\Mv X.K H G H' G'/\Kp H2 H'/\tn i s7.heap/\(∀ b∈fp,H' b=none)/\m=ds.length - i/\i<=ds.length/\oS g t ok (ds.drop i) E D mx G':=fun {DH H7 DG G7} I7 m7 n7=>by
   have mm:=m5.trans (m6.trans m7);refine⟨ds.length - (i+1),by lia,i+1,DH,H7,DG,G7,⟨I7.inv.pO,I7.st,I7.ab⟩,m3.trans mm,k3.trans (mm.kp I3.ab),T.keep _ _ _ Ox fun b hb o e=>(I7.inv.pin (b,o) (cz _ (cz _ (lW hb e)))).1,fun b hb=>?_,rfl,sD,n7⟩;obtain⟨o,e,d⟩:=T.obj _ _ Ox b hb;exact(I7.inv.pin (b,o) (cz _ (cz _ (lW hb e)))).2.1
  cases f with
  | next=>obtain⟨DH,H7,DG,G7,I7,m7,n7⟩:=q7; exact again I7 m7 n7
  | cont=>obtain⟨DH,H7,DG,G7,I7,m7,n7⟩:=q7; exact again I7 m7 n7
  | brk=>obtain⟨DH,H7,DG,G7,I7,m7,q7⟩:=q7; exact⟨DH,H7,DG,G7,⟨I7.inv.pO,I7.st,I7.ab⟩,m3.trans (m5.trans (m6.trans m7)),q7⟩
  | ret v=>obtain⟨x7,DH,H7,d7,G7,I7,m7,r7,R6,q7⟩:=q7; exact⟨x7,DH,H7,d7,G7,I7.pO,m3.trans (m5.trans (m6.trans m7)),r7,R6,q7⟩
 ·have hn:ds.length<=i:=by lia
  rw [jD hn] at w3;obtain⟨LX,qn⟩:=w3;have stop:=(wk i H3 G3 k3 I3.ab LX).2 hn;refine ix hp (fG (T.done X rfl rfl rfl hc i pins s3 GR H3 X.xe I3.inv (Ju Rg) Nl stop) ?_);rintro r s4 ⟨hr,I4⟩;subst hr;exact tL ⟨GR,H3,Jj,G3,⟨I4,I3.st,I3.ab⟩,m3,qn⟩
theorem we{c:Expr}{body:List Stmt}{tc:u5}{t:gW}(hp:PassesOwn (model X.prog X.w) X.A X.env X.xe)(hc:Bf X c tc)(hb:rN X body t):Cy X (.While c body [] pos) (A8 tc t):=by
 intro E pins s σ H τ G D hE I h;obtain⟨n0,w0⟩:=h;refine wpAny_While (codeAny_whileLoop (fun n s'=>∃ hW H' mx G',I2 X pins hW H' mx G' s'/\Mv X.K H G H' G'/\tR tc t n E D mx G') ?_ n0 ⟨σ,H,τ,G,I,.refl I.ab,w0⟩);rintro n s1 ⟨Ng,H1,pN,G1,I1,m1,w1⟩;cases n with
 | zero=>exact w1.elim
 | succ n =>
  refine ix hp (Em hc hE I1 w1 fun b H2 G2 s2 kz m2 q2=>?_);cases b with
  | true =>
   rw [if_pos rfl] at q2 ⊢;refine ix hp (fG (hb E pins s2 Ng H2 pN G2 _ hE kz q2) fun f s3 q3=>?_);cases f with
   | next=>obtain⟨GR,H3,Jj,G3,I3,m3,n3⟩:=q3; exact⟨n,pD _,GR,H3,Jj,G3,I3,m1.trans (m2.trans m3),n3⟩
   | cont=>obtain⟨GR,H3,Jj,G3,I3,m3,n3⟩:=q3; exact⟨n,pD _,GR,H3,Jj,G3,I3,m1.trans (m2.trans m3),n3⟩
   | brk=>exact q3.trans (m1.trans m2)
   | ret v=>exact q3.trans (m1.trans m2)
  | false =>
   rw [if_neg eK] at q2 ⊢;exact tL ⟨Ng,H2,pN,G2,kz,m1.trans m2,q2⟩
end
end K2
end
section
namespace K2
open PySem PySem.Spec PyProof.Rows L2
theorem xg(n d:Nat)(o:Option Int):HT.g6 n d o=g6 n d o:=by cases o <;> rfl
theorem a5.cut{K:ah}{H:Hp}{vs:List V}{ds:List D}(r:a5 K H vs ds)(lo hi:Option Int):a5 K H (zF vs lo hi) (K2.cut ds lo hi):=by
 unfold zF K2.cut;rw [xg,xg,r.length];exact(r.drop _).take _
theorem a5.oV{K:ah}{H:Hp}{vs:List V}{ds:List D}{i:Int}{d:D}(r:a5 K H vs ds)(h:K2.oV ds i=some d):∃ v,L2.oV vs i=some v/\bW K H v d:=by
 unfold K2.oV at h;cases e:K2.B3 ds.length i with
 | none=>rw [e] at h; cases h
 | some j =>
  rw [e] at h;obtain⟨v,h1,h2⟩:=r.get (show ds[j]?=some d from h);refine⟨v,?_,h2⟩;show (L2.B3 vs.length i).bind _=_;have e':L2.B3 vs.length i=some j:=by rw [r.length]; exact e
  rw [e'];exact h1
section
variable {X:Cx} {a b c e:Expr} {ta tb tc te:fQ} {pos p2:Pos}
theorem kd{pins:List (Addr×Obj)}{s:ak}{σ:L2.St}{H:Hp}{G:Gp}{x:V}{d:D}{v:Value}{zs:List D}(I:Inv X pins σ H s)(ab:kA X.K H G)(rx:RelV x v)(rd:bW X.K H x d)(hi:mF d G=some zs) :
  ∃ l vs its,v=.ref l/\Vals vs its/\a5 X.K H vs zs/\s.heap.IsList l its.toArray/\vs.length<=aX:=by
 cases rd with
 | dm hq rs =>
  cases hi;cases rx;obtain⟨its,rv,pl,hz⟩:=I.list hq.sq;exact⟨_,_,its,rfl,rv,rs,pl.isList,hz⟩
 | ref l =>
  unfold mF at hi;dsimp only at hi;cases hg:G l with
  | none=>rw [hg] at hi; cases hi
  | some gg =>
   rw [hg] at hi;cases gg with
   | lst ds =>
    cases hi;cases rx;obtain⟨vs,hv,rs⟩:=ab.lst hg;obtain⟨its,rv,pl,hz⟩:=I.list (.of hv);exact⟨_,_,its,rfl,rv,rs,pl.isList,hz⟩
   | iV _=>cases hi
 | _=>cases hi
theorem rp{pins:List (Addr×Obj)}{s:ak}{σ:L2.St}{H:Hp}(I:Inv X pins σ H s){m:Str->Option Value}(F0:Fr X.base X.env.locals s.heap m){h':Heap}(F:Fr X.base X.env.locals h' m)(N:News X.base X.env.locals h' (oz X.base s.heap X.env.locals)) :
  (∀ b o,b≠X.env.locals->s.heap.get? b=some o->h'.get? b=some o)/\∀ m',s.heap.Ns X.env.locals m'->h'.Ns X.env.locals m':=by
 refine⟨fun b o hb e=>?_,fun m' hm=>?_⟩
 ·cases q:X.base.get? b with
  | some u =>
   have:=I.bk b u q;rw [e] at this; cases this;exact F.keep b _ q
  | none=>exact(N (b,o) (rX hb q e)).1
 ·have e1:=hm.eq_nsMap;have e2:=F0.ns.eq_nsMap;rw [e1,<-e2]; exact F.ns
theorem lq{P:bC}{w:World}{H:Hp}{h:Heap}{a:Addr}:∀ {o:HO},fR P w H h a o->∃ ob,h.get? a=some ob:=by
 intro o x;cases o with
 | lst _=>obtain⟨_,_,_,_,e⟩:=x; exact⟨_,e⟩
 | tup _=>obtain⟨_,_,_,ob,e,_⟩:=x; exact⟨ob,e⟩
 | dK _=>obtain⟨_,_,_,_,ob,_,_,e,_⟩:=x; exact⟨ob,e⟩
 | dT _=>obtain⟨_,_,_,_,ob,_,_,e,_⟩:=x; exact⟨ob,e⟩
 | set _ _=>obtain⟨ob,_,_,_,e,_⟩:=x; exact⟨ob,e⟩
 | ins _ _ _=>obtain⟨_,_,_,e,_⟩:=x; exact⟨_,e⟩
 | own _=>exact x
 | xd _=>obtain⟨_,⟨ob,_,_,e,_⟩,_⟩:=x; exact⟨ob,e⟩
 | met _ _=>exact⟨_,x⟩
 | Nm _ _=>obtain⟨_,_,_,e⟩:=x; exact⟨_,e⟩
 | lH _ _=>exact⟨_,x.1⟩
 | yn _=>obtain⟨_,e,_⟩:=x; exact⟨_,e⟩
 | ext _=>exact x.2.1
theorem Cb{P:bC}{w:World}{H:Hp}{h:Heap}{a:Addr}(ok:pG P w H h)(e:h.get? a=none):H a=none:=by
 cases q:H a with
 | none=>rfl
 | some o =>
  obtain⟨ob,z⟩:=lq (ok a o q);rw [e] at z; cases z
theorem Inv.IS{pins:List (Addr×Obj)}{s:ak}{σ:L2.St}{H:Hp}(I:Inv X pins σ H s){h':Heap}{t':Nat}{a:Addr}{o:HO}(k:∀ b o,b≠X.env.locals->s.heap.get? b=some o->h'.get? b=some o)(ns:∀ m',s.heap.Ns X.env.locals m'->h'.Ns X.env.locals m')
  (hp:s.heap.get? a=none) (new:fR X.prog X.w (upd H a o) h' a o):Inv X pins σ (upd H a o) { s with heap:=h',toks:=t' }:=by
 have hn:H a=none:=Cb I.dA hp;have ne:∀ b u,H b=some u->b≠a:=fun b u e=>cy e hn;have nL:∀ b u,H b=some u->b≠X.env.locals:=fun b u e=>cy e I.free;have ht:∀ b u,s.heap.get? b=some u->b≠a:=fun b u e z=>by subst z; rw [hp] at e; cases e
 have RL:∃ o',h'.get? X.env.locals=some o':=by
  obtain⟨m,hm,_⟩:=I.loc;obtain⟨o',_,_,ho,_⟩:=ns m hm;exact⟨o',ho⟩
 refine I.step (g':=s.gens) (d':=s.drawn) (ch:=[]) (fun b hb=>absurd hb (by simp)) (fun b o hL _ _ e _=>k b o hL e) (fun b o hL _ _ e _=>⟨o.slots,k b o hL e⟩) (fun b o _ e n=>by rw [bM (ht b o e)]; exact n)
  (fun b o _ e=>?_) (fun b xs e=>by rw [bM (ne _ _ e)]; exact e) (fun b o u e=>by rw [bM (ne _ _ e)]; exact e) (fun b ps e=>by rw [bM (ne _ _ e)]; exact e) ns (fun b u e=>?_) I.bare
 ·by_cases hb:b=X.env.locals
  ·rw [hb]; exact RL
  ·exact⟨o,k b o hb e⟩
 ·by_cases hb:b=a
  ·subst hb; rw [cN] at e; cases e; exact new
  ·rw [bM hb] at e;refine(I.dA b u e).k8 (fun c v hc r=>k c v ?_ r) (fun c z=>by rw [bM (ne _ _ z)]; exact z) (fun c xs z=>by rw [bM (ne _ _ z)]; exact z);rcases hc with rfl | hc
   ·exact nL _ _ e
   ·exact nL _ _ hc
theorem dN:lF X (iR .Add) gR:=by
 intro pins s σ H G x y dx dy v u Q I ab rx ry dX dY q;have lists:uZ dx dy G Q->wpAny (model X.prog X.w) X.A (iR .Add v u) (oA X pins σ H G Q) X.xe s:=by
  intro q;unfold uZ at q;split at q
  ·rename_i xs ys e1 e2;obtain⟨hz,q⟩:=q;obtain⟨l,vs,its,rfl,rv,rs,hl,_⟩:=kd I ab rx dX e1;obtain⟨b,ws,rB,rfl,IG,ED,hb,_⟩:=kd I ab ry dY e2;obtain⟨m,F0⟩:=I.fr;have hsz:its.length+rB.length<=aX:=by rw [<-rv.length,<-IG.length,rs.length,ED.length,cf]; exact hz
   refine PyProof.Rows.add_lists F0 yV hl hb (fun h' F N=>?_) hsz;obtain⟨kk,ns⟩:=rp I F0 F fun p hp=>N p (aE _ hp);have hp:H s.heap.objs.size=none:=I.dA.fresh (aG _);refine⟨.ref s.heap.objs.size,upd H s.heap.objs.size (.lst (vs++ws)),.ref _,_,Inv.IS (t':=s.toks) I kk ns (GQ (aG _)) ?_,.xw ab hp (rs.append ED),rfl,.ref _,q _ (ab.free hp)⟩;exact⟨by rw [aP,rv.length,IG.length]; exact hsz,its++rB,0,rv.append IG,(N _ bb).1⟩
  ·exact q.elim
 cases dX with
 | int i =>
  cases dY with
  | int j=>exact fG (JR pins s σ H _ _ v u (ya X.K H G Q) I rx ry ⟨i,j,rfl,rfl,_,_,.refl ab,.int _,q⟩) fun _ _ z=>.of z
  | _=>exact lists q
 | str i =>
  cases dY with
  | str j =>
   obtain⟨hz,q⟩:=q;exact fG (AD pins s σ H _ _ v u (ya X.K H G Q) I rx ry ⟨i,j,rfl,rfl,by rw [cf]; exact hz,_,_,.refl ab,.str _,q⟩) fun _ _ z=>.of z
  | _=>exact lists q
 | tup h1 r1 =>
  cases dY with
  | tup h2 r2 =>
   obtain⟨hn,hz,q⟩:=q;refine fG (Hy pins s σ H _ _ v u (ya X.K H G Q) I rx ry ⟨_,_,_,_,rfl,rfl,.of h1,.of h2,?_,?_,fun e=>?_,fun e p hp=>?_⟩) fun _ _ z=>.of z
   ·rintro rfl; cases r1; exact hn rfl
   ·rw [r1.length,r2.length,cf]; exact hz
   ·subst e;cases r2;rw [eE] at q;exact⟨_,_,.refl ab,.tup h1 r1,q⟩
   ·exact⟨_,_,.Ib ab hp,.tup cN ((r1.append r2).mono (.new hp)),q⟩
  | _=>exact lists q
 | ref l=>exact lists (by rw [lj] at q; exact q)
 | dm _ _=>exact lists (by rw [nJ] at q; exact q)
 | _=>exact lists (by cases dY <;> exact q)
theorem Hz:lF X (iR .Sub) JG:=by
 intro pins s σ H G x y dx dy v u Q I ab rx ry dX dY q;cases dX with
 | int i =>
  cases dY with
  | int j=>exact fG (JN pins s σ H _ _ v u (ya X.K H G Q) I rx ry ⟨i,j,rfl,rfl,_,_,.refl ab,.int _,q⟩) fun _ _ z=>.of z
  | _=>exact bx q
 | _=>exact bx q
theorem lU:lF X (iR .Mult) xk:=by
 intro pins s σ H G x y dx dy v u Q I ab rx ry dX dY q;cases dX with
 | int i =>
  cases dY with
  | int j=>exact fG (JO pins s σ H _ _ v u (ya X.K H G Q) I rx ry ⟨i,j,rfl,rfl,q.1,_,_,.refl ab,.int _,q.2⟩) fun _ _ z=>.of z
  | _=>exact bx q
 | _=>exact bx q
theorem ed:lF X (iR .Mod) jI:=by
 intro pins s σ H G x y dx dy v u Q I ab rx ry dX dY q;cases dX with
 | int i =>
  cases dY with
  | int j=>exact fG (JP pins s σ H _ _ v u (ya X.K H G Q) I rx ry ⟨i,j,rfl,rfl,q.1,_,_,.refl ab,.int _,q.2⟩) fun _ _ z=>.of z
  | _=>exact bx q
 | _=>exact bx q
theorem t7:lF X (iR .FloorDiv) yO:=by
 intro pins s σ H G x y dx dy v u Q I ab rx ry dX dY q;cases dX with
 | int i =>
  cases dY with
  | int j=>exact fG (Hx pins s σ H _ _ v u (ya X.K H G Q) I rx ry ⟨i,j,rfl,rfl,⟨q.1,q.2.1⟩,_,_,.refl ab,.int _,q.2.2⟩) fun _ _ z=>.of z
  | _=>exact bx q
 | _=>exact bx q
theorem E2(hu:X.A.units < cLine):lF X (cX .Lt) Np:=by
 intro pins s σ H G x y dx dy v u Q I ab rx ry dX dY q;cases dX with
 | int i =>
  cases dY with
  | int j=>exact fG (LV pins s σ H _ _ v u (ya X.K H G Q) I rx ry ⟨i,j,rfl,rfl,_,_,.refl ab,.bl _,q⟩) fun _ _ z=>.of z
  | _=>exact bx q
 | tup h1 r1 =>
  cases dY with
  | tup h2 r2 =>
   obtain⟨xs,ys,e1,e2,q⟩:=q;subst e1 e2;have z1:=r1.ints;have z2:=r2.ints;subst z1 z2;have el:∀ xs ys:List Int,HT.lexLt xs ys=K2.lexLt xs ys:=by
    intro xs;induction xs with
    | nil=>intro ys; cases ys <;> rfl
    | cons x xs ih=>intro ys; cases ys with
     | nil=>rfl
     | cons y ys=>unfold HT.lexLt K2.lexLt; rw [ih]
   exact fG (JQ hu pins s σ H _ _ v u (ya X.K H G Q) I rx ry ⟨_,_,xs,ys,rfl,rfl,.of h1,.of h2,_,_,.refl ab,.bl _,by rw [el]; exact q⟩) fun _ _ z=>.of z
  | _=>exact bx q
 | _=>exact bx q
mutual
noncomputable def pd:D->PyData
 | .cR=>.none
 | .bl b=>.bool b
 | .int i=>.int i
 | .str x=>.str x
 | .tup ds=>.tuple (jy ds)
 | .dm ds=>.list (jy ds)
 | .mR _=>.none
 | .exc _=>.none
 | .ref _=>.none
noncomputable def jy:List D->List PyData
 | []=>[]
 | d :: r=>pd d :: jy r
end
mutual
theorem pk:∀ (s t:D),nr s=true->nr t=true->mQ (pd s) (pd t)=gy s t
 | .cR,t,_,ht=>by cases t <;> first | rfl | (exact bR (show false=true from ht))
 | .bl a,t,_,ht=>by cases t <;> first | rfl | (exact bR (show false=true from ht))
 | .int a,t,_,ht=>by cases t <;> first | rfl | (exact bR (show false=true from ht))
 | .str a,t,_,ht=>by cases t <;> first | rfl | (exact bR (show false=true from ht))
 | .tup a,t,hs,ht=>by
  cases t with
  | tup b=>exact xS a b hs ht
  | ref _=>exact bR (show false=true from ht)
  | exc _=>exact bR (show false=true from ht)
  | mR _=>exact bR (show false=true from ht)
  | _=>rfl
 | .dm a,t,hs,ht=>by
  cases t with
  | dm b=>exact xS a b hs ht
  | ref _=>exact bR (show false=true from ht)
  | exc _=>exact bR (show false=true from ht)
  | mR _=>exact bR (show false=true from ht)
  | _=>rfl
 | .ref _,_,hs,_=>bR (show false=true from hs)
 | .exc _,_,hs,_=>bR (show false=true from hs)
 | .mR _,_,hs,_=>bR (show false=true from hs)
theorem xS:∀ (s t:List D),mE s=true->mE t=true->PyData.eqvAll (jy s) (jy t)=jh s t
 | [],[],_,_=>rfl
 | [],_ :: _,_,_=>rfl
 | _ :: _,[],_,_=>rfl
 | a :: r,b :: t,hs,ht=>by
  have Le:nr a=true/\mE r=true:=(iw).mp hs;have Ld:nr b=true/\mE t=true:=(iw).mp ht;show (mQ (pd a) (pd b)&&PyData.eqvAll (jy r) (jy t))=(gy a b&&jh r t);rw [pk a b Le.1 Ld.1,xS r t Le.2 Ld.2]
end
mutual
theorem iE:∀ (s:D),nr s=true->(pd s).canLay0=true
 | .cR,_=>rfl
 | .bl a,_=>rfl
 | .int a,_=>rfl
 | .str a,h=>h
 | .tup a,h=>qt a h
 | .dm a,h=>qt a h
 | .exc _,_=>rfl
 | .ref _,_=>rfl
 | .mR _,_=>rfl
theorem qt:∀ (s:List D),mE s=true->PyData.canLayAll0 (jy s)=true
 | [],_=>rfl
 | a :: r,h=>by
  have h':nr a=true/\mE r=true:=(iw).mp h;show ((pd a).canLay0&&PyData.canLayAll0 (jy r))=true;rw [iE a h'.1,qt r h'.2]; rfl
end
theorem rH{G:Gp}{n:Nat}{d t:D}(h:Sn G n d t):(pd t).depth<=n:=by
 induction h with
 | cR=>exact bS _
 | bl b=>exact bS _
 | int i=>exact bS _
 | str x h=>exact bS _
 | Av=>exact pC (bS _)
 | ni _ _ Fo Fn =>
  exact pC (Nat.max_le.mpr ⟨Fo,pL Fn⟩)
 | CK=>exact pC (bS _)
 | wd _ _ Fo Fn =>
  exact pC (Nat.max_le.mpr ⟨Fo,pL Fn⟩)
 | ref _ _ ih=>exact ih
theorem eV{pins:List (Addr×Obj)}{σ:L2.St}{H:Hp}{s:ak}{G:Gp}(I:Inv X pins σ H s)(ab:kA X.K H G){n:Nat}{d t:D}(h:Sn G n d t) :
  (∀ v u,bW X.K H v d->RelV v u->∃ as,Reads s.heap u (pd t) as) /\
  (∀ ds ss,(d=.dm ds/\t=.dm ss)\/(d=.tup ds/\t=.tup ss)->∀ vs us,a5 X.K H vs ds->Vals vs us->∃ as,fC s.heap us (jy ss) as):=by
 have IC:∀ {ds ss:List D},(∀ vs us,a5 X.K H vs ds->Vals vs us->∃ as,fC s.heap us (jy ss) as)->∀ v u,bW X.K H v (.tup ds)->RelV v u->∃ as,Reads s.heap u (pd (.tup ss)) as:=by
  intro ds ss k v u r ru;cases r with
  | tup hq rs =>
   cases ru;obtain⟨its,rv,⟨o,ho,hc,n,hd⟩,hz⟩:=I.tuple (.of hq);obtain⟨as,ra⟩:=k _ its rs rv;exact⟨as,.tuple ho hc hd (by simpa using ra)⟩
 have IH:∀ {ds ss:List D},(∀ vs us,a5 X.K H vs ds->Vals vs us->∃ as,fC s.heap us (jy ss) as)->∀ v u,bW X.K H v (.dm ds)->RelV v u->∃ as,Reads s.heap u (pd (.dm ss)) as:=by
  intro ds ss k v u r ru;cases r with
  | dm hq rs =>
   cases ru;obtain⟨its,rv,pl,hz⟩:=I.list hq.sq;obtain⟨o,ho,hc,n,hd⟩:=pl.isList;obtain⟨as,ra⟩:=k _ its rs rv;exact⟨_,.list ho hc hd (by simpa using ra)⟩
 induction h with
 | cR=>exact⟨fun v u r ru=>by cases r; cases ru; exact⟨_,.none⟩,fun ds ss e=>by rcases e with ⟨e,_⟩ | ⟨e,_⟩ <;> cases e⟩
 | bl b=>exact⟨fun v u r ru=>by cases r; cases ru; exact⟨_,.bool b⟩,fun ds ss e=>by rcases e with ⟨e,_⟩ | ⟨e,_⟩ <;> cases e⟩
 | int i=>exact⟨fun v u r ru=>by cases r; obtain⟨t,rfl⟩:=ru; exact⟨_,.int i t⟩,fun ds ss e=>by rcases e with ⟨e,_⟩ | ⟨e,_⟩ <;> cases e⟩
 | str x hx=>exact⟨fun v u r ru=>by cases r; obtain⟨t,rfl⟩:=ru; exact⟨_,.str x t⟩,fun ds ss e=>by rcases e with ⟨e,_⟩ | ⟨e,_⟩ <;> cases e⟩
 | Av =>
  have k:∀ vs us,a5 X.K H vs []->Vals vs us->∃ as,fC s.heap us (jy []) as:=fun vs us r ru=>by
   have e:=r.zero;subst e;cases ru;exact⟨_,.nil⟩
  refine⟨IC k,fun ds ss e=>?_⟩;rcases e with ⟨e,_⟩ | ⟨e,e2⟩
  ·cases e
  ·cases e; cases e2; exact k
 | ni h1 h2 Fo Fn =>
  have k2:=Fn.2 _ _ (.inr ⟨rfl,rfl⟩);have k:∀ vs us,a5 X.K H vs (_ :: _)->Vals vs us->∃ as,fC s.heap us (jy (_ :: _)) as:=fun vs us r ru=>by
   cases r with
   | cons r1 r2 =>
    cases ru with
    | cons u1 u2 =>
     obtain⟨as,ra⟩:=Fo.1 _ _ r1 u1;obtain⟨bs,rb⟩:=k2 _ _ r2 u2;exact⟨_,.cons ra rb⟩
  refine⟨IC k,fun ds ss e=>?_⟩;rcases e with ⟨e,_⟩ | ⟨e,e2⟩
  ·cases e
  ·cases e; cases e2; exact k
 | CK =>
  have k:∀ vs us,a5 X.K H vs []->Vals vs us->∃ as,fC s.heap us (jy []) as:=fun vs us r ru=>by
   have e:=r.zero;subst e;cases ru;exact⟨_,.nil⟩
  refine⟨IH k,fun ds ss e=>?_⟩;rcases e with ⟨e,e2⟩ | ⟨e,_⟩
  ·cases e; cases e2; exact k
  ·cases e
 | wd h1 h2 Fo Fn =>
  have k2:=Fn.2 _ _ (.inl ⟨rfl,rfl⟩);have k:∀ vs us,a5 X.K H vs (_ :: _)->Vals vs us->∃ as,fC s.heap us (jy (_ :: _)) as:=fun vs us r ru=>by
   cases r with
   | cons r1 r2 =>
    cases ru with
    | cons u1 u2 =>
     obtain⟨as,ra⟩:=Fo.1 _ _ r1 u1;obtain⟨bs,rb⟩:=k2 _ _ r2 u2;exact⟨_,.cons ra rb⟩
  refine⟨IH k,fun ds ss e=>?_⟩;rcases e with ⟨e,e2⟩ | ⟨e,_⟩
  ·cases e; cases e2; exact k
  ·cases e
 | ref hg h1 ih =>
  refine⟨fun v u r ru=>?_,fun ds ss e=>by rcases e with ⟨e,_⟩ | ⟨e,_⟩ <;> cases e⟩;cases r;cases ru;obtain⟨vs,hv,rs⟩:=ab.lst hg;obtain⟨its,rv,pl,hz⟩:=I.list (.of hv);obtain⟨o,ho,hc,n,hd⟩:=pl.isList;obtain⟨as,ra⟩:=ih.2 _ _ (.inl ⟨rfl,rfl⟩) vs its rs rv;exact⟨_,.list ho hc hd (by simpa using ra)⟩
theorem t8(hu:X.A.units+64 < cLine):lF X (cX .Eq) (IK false):=by
 intro pins s σ H G x y dx dy v u Q I ab rx ry dX dY q;obtain⟨a,b,sa,sb,q⟩:=q;obtain⟨as,ra⟩:=(eV I ab sa).1 x v dX rx;obtain⟨bs,rb⟩:=(eV I ab sb).1 y u dY ry;have d1:=rH sa;refine SeqAt.compareEq_reads ra rb (iE _ sa.nr) (iE _ sb.nr) (by unfold SN at d1; lia) ?_;rw [pk _ _ sa.nr sb.nr];exact⟨.bl _,H,.bl _,G,I,.refl ab,rfl,.bl _,q⟩
theorem E1(hu:X.A.units+64 < cLine):lF X (cX .NotEq) (IK true):=by
 intro pins s σ H G x y dx dy v u Q I ab rx ry dX dY q;obtain⟨a,b,sa,sb,q⟩:=q;obtain⟨as,ra⟩:=(eV I ab sa).1 x v dX rx;obtain⟨bs,rb⟩:=(eV I ab sb).1 y u dY ry;have d1:=rH sa;refine SeqAt.compareNe_reads ra rb (iE _ sa.nr) (iE _ sb.nr) (by unfold SN at d1; lia) ?_;rw [pk _ _ sa.nr sb.nr];exact⟨.bl _,H,.bl _,G,I,.refl ab,rfl,.bl _,q⟩
end
end K2
end
section
namespace K2
open PySem PySem.Spec PyProof.Rows L2
theorem qB(j k:Key):gy (eL j) (eL k)=decide (j=k):=by
 cases j with
 | inl a=>cases k with
  | inl b=>rw [Fh]; rfl
  | inr b=>exact(decide_eq_false (fun z=>nomatch z)).symm
 | inr a=>cases k with
  | inl b=>exact(decide_eq_false (fun z=>nomatch z)).symm
  | inr b=>rw [Fg]; exact(GB a b)
theorem wJ:∀ (js ks:List Key),jh (js.map eL) (ks.map eL)=decide (js=ks)
 | [],[]=>(decide_eq_true rfl).symm
 | [],_ :: _=>(decide_eq_false (fun z=>nomatch z)).symm
 | _ :: _,[]=>(decide_eq_false (fun z=>nomatch z)).symm
 | j :: js,k :: ks=>by
  show (gy (eL j) (eL k)&&jh (js.map eL) (ks.map eL))=_;rw [qB,wJ js ks,zA]
theorem qA(js ks:List Key):gy (.tup (js.map eL)) (.tup (ks.map eL))=decide (js=ks):=by
 exact wJ js ks
section
variable {K:ah} {H:Hp}
theorem xC{d:D}(h:dF d=true):∃ k:Key,d=eL k:=by
 cases d with
 | int i=>exact⟨.inl i,rfl⟩
 | str x=>exact⟨.inr x,rfl⟩
 | _=>exact absurd h (by simp [dF])
theorem BX:∀ {ds:List D},ds.all dF=true->∃ ks:List Key,ds=ks.map eL
 | [],_=>⟨[],rfl⟩
 | d :: r,h=>by
  rw [vm,aK] at h;obtain⟨k,rfl⟩:=xC h.1;obtain⟨ks,rfl⟩:=BX h.2;exact⟨k :: ks,rfl⟩
theorem BZ{d:D}(h:pf d=true):∃ ks:List Key,d=.tup (ks.map eL):=by
 cases d with
 | tup ds=>obtain⟨ks,rfl⟩:=BX (ds:=ds) h; exact⟨ks,rfl⟩
 | _=>exact absurd h (by simp [pf])
theorem xj{v:V}{k:Key}(r:bW K H v (eL k)):v=kV k:=by
 cases k with
 | inl i=>cases r; rfl
 | inr x=>cases r; rfl
theorem yM:∀ {vs:List V} {ks:List Key},a5 K H vs (ks.map eL)->vs=ks.map kV
 | _,[],r=>r.zero
 | _,k :: ks,r=>by
  rw [ay] at r;cases r with
  | cons r1 r2=>rw [xj r1,yM r2]; rfl
theorem yN{v:V}{ks:List Key}(r:bW K H v (.tup (ks.map eL))):∃ b,v=.ref b/\H b=some (.tup (ks.map kV)):=by
 cases r with
 | tup h rs=>have e:=yM rs; subst e; exact⟨_,rfl,h⟩
theorem lJ.look{kv:List (Key×V)}{aY:List (D×D)}(r:lJ K H kv aY)(k:Key):(∃ v d,jF kv k=some v/\K2.look aY (eL k)=some d/\bW K H v d)\/(jF kv k=none/\K2.look aY (eL k)=none):=by
 induction r using lJ.ind with
 | nil=>exact .inr ⟨rfl,rfl⟩
 | @cons j v d r t rd rs ih =>
  by_cases e:j=k
  ·left;refine⟨v,d,mZ (p:=(j,v)) e,?_,rd⟩;unfold K2.look;rw [D8 (by show gy (eL j) (eL k)=true; rw [qB]; exact decide_eq_true e)]; rfl
  ·have e1:jF ((j,v) :: r) k=jF r k:=ng (p:=(j,v)) e;have e2:K2.look ((eL j,d) :: t) (eL k)=K2.look t (eL k):=by
    unfold K2.look;rw [D9 (by show ¬ gy (eL j) (eL k)=true; rw [qB]; simpa using e)]
   rw [e1,e2];exact ih
theorem mS.look{kv:List (List Key×V)}{aY:List (D×D)}(r:mS K H kv aY)(k:List Key):(∃ v d,jF kv k=some v/\K2.look aY (.tup (k.map eL))=some d/\bW K H v d)\/(jF kv k=none/\K2.look aY (.tup (k.map eL))=none):=by
 induction r using mS.ind with
 | nil=>exact .inr ⟨rfl,rfl⟩
 | @cons j v d r t rd rs ih =>
  by_cases e:j=k
  ·left;refine⟨v,d,mZ (p:=(j,v)) e,?_,rd⟩;unfold K2.look;rw [D8 (by show gy (.tup (j.map eL)) (.tup (k.map eL))=true; rw [qA]; exact decide_eq_true e)]; rfl
  ·have e1:jF ((j,v) :: r) k=jF r k:=ng (p:=(j,v)) e;have e2:K2.look ((.tup (j.map eL),d) :: t) (.tup (k.map eL))=K2.look t (.tup (k.map eL)):=by
    unfold K2.look;rw [D9 (by show ¬ gy (.tup (j.map eL)) (.tup (k.map eL))=true; rw [qA]; simpa using e)]
   rw [e1,e2];exact ih
theorem lJ.any{kv:List (Key×V)}{aY:List (D×D)}(r:lJ K H kv aY)(k:Key):(kv.any fun p=>decide (p.1=k))=aY.any fun p=>gy p.1 (eL k):=by
 induction r using lJ.ind with
 | nil=>rfl
 | @cons j v d r t rd rs ih=>simp only [k7]; rw [ih,qB]
theorem mS.any{kv:List (List Key×V)}{aY:List (D×D)}(r:mS K H kv aY)(k:List Key):(kv.any fun p=>decide (p.1=k))=aY.any fun p=>gy p.1 (.tup (k.map eL)):=by
 induction r using mS.ind with
 | nil=>rfl
 | @cons j v d r t rd rs ih=>simp only [k7]; rw [ih,qA]
theorem lJ.put{kv:List (Key×V)}{aY:List (D×D)}(r:lJ K H kv aY)(k:Key){v:V}{d:D}(rd:bW K H v d):lJ K H (putK kv k v) (K2.put aY (eL k) d):=by
 unfold putK K2.put;rw [r.any k];by_cases h:(aY.any fun p=>gy p.1 (eL k))=true
 ·rw [if_pos h,if_pos h];clear h;induction r using lJ.ind with
  | nil=>exact .nil
  | @cons j w e r t re rs ih =>
   simp only [ay];rw [qB];by_cases e:j=k
   ·simp only [e,if_true,decide_true]; exact .cons rd ih
   ·simp only [e,if_false,decide_false,aw]; exact .cons re ih
 ·rw [if_neg h,if_neg h];clear h;induction r using lJ.ind with
  | nil=>exact .cons rd .nil
  | cons re rs ih=>exact .cons re ih
theorem mS.put{kv:List (List Key×V)}{aY:List (D×D)}(r:mS K H kv aY)(k:List Key){v:V}{d:D}(rd:bW K H v d):mS K H (putK kv k v) (K2.put aY (.tup (k.map eL)) d):=by
 unfold putK K2.put;rw [r.any k];by_cases h:(aY.any fun p=>gy p.1 (.tup (k.map eL)))=true
 ·rw [if_pos h,if_pos h];clear h;induction r using mS.ind with
  | nil=>exact .nil
  | @cons j w e r t re rs ih =>
   simp only [ay];rw [qA];by_cases e:j=k
   ·simp only [e,if_true,decide_true]; exact .cons rd ih
   ·simp only [e,if_false,decide_false,aw]; exact .cons re ih
 ·rw [if_neg h,if_neg h];clear h;induction r using mS.ind with
  | nil=>exact .cons rd .nil
  | cons re rs ih=>exact .cons re ih
end
theorem Kp.putD{H:Hp}{p:Addr}{o o':HO}(hp:H p=some o)(h:(∃ k,o=.dK k)\/∃ k,o=.dT k):Kp H (upd H p o') :=
 ⟨fun a ys e=>by rw [bM (by rintro rfl; rw [hp] at e; rcases h with ⟨_,rfl⟩ | ⟨_,rfl⟩ <;> cases e)]; exact e,fun a ob u e=>by rw [bM (by rintro rfl; rw [hp] at e; rcases h with ⟨_,rfl⟩ | ⟨_,rfl⟩ <;> cases e)]; exact e⟩
section
variable {X:Cx} {pins:List (Addr×Obj)} {σ:L2.St} {H:Hp} {s:ak} {G:Gp} {a:Addr} {aY:List (D×D)} {k:D} {y:V}
theorem toT(I:Inv X pins σ H s)(e:H a=some (.dK [])):Inv X pins σ (upd H a (.dT [])) s:=by
 obtain⟨z,hd,vs,rel,dd⟩:=zx I.dA e;have hv:vs=[]:=by cases rel; rfl
 subst hv;obtain⟨o,es,ep,ho,hx,C9,Vt,hl,nd⟩:=dd;have he:es=#[]:=by
  cases hq:es.toList with
  | nil=>simpa using hq
  | cons _ _=>rw [hq] at hl; cases hl
 subst he;exact I.write (h':=s.heap) (t':=s.toks) (x:=a) (e:=a) (by rw [e]; exact iW) (.inl rfl) (fun b u _ q=>q) ⟨o,ho⟩ ⟨bS _,hd,[],.nil,o,#[],ep,ho,hx,C9,rfl,bZ⟩
theorem toK(I:Inv X pins σ H s)(e:H a=some (.dT [])):Inv X pins σ (upd H a (.dK [])) s:=by
 obtain⟨z,hd,xs,rel,o,es,ep,ho,hx,C9,hl,nd⟩:=I.dA a _ e;have hv:xs=[]:=by cases rel; rfl
 subst hv;have he:es=#[]:=by simpa using hl
 subst he;exact I.write (h':=s.heap) (t':=s.toks) (x:=a) (e:=a) (by rw [e]; exact iW) (.inl rfl) (fun b u _ q=>q) ⟨o,ho⟩ ⟨bS _,hd,[],.nil,o,#[],ep,ho,hx,C9,(fun _ h=>by simp at h),.nil,bZ⟩
theorem BP{o:HO}(ab:kA X.K H G)(hg:G a=some (.iV aY))(k:Kp H (upd H a o))(ho:Gy X.K (upd H a o) a (.iV aY)):Mv X.K H G (upd H a o) G:=by
 have m:=Mv.put ab hg k ho;have e:cB G a (.iV aY)=G:=by
  funext b; unfold cB; split
  ·rename_i z; rw [z,hg]
  ·rfl
 rw [e] at m;exact m
theorem Cc(I:Inv X pins σ H s)(ab:kA X.K H G)(hg:G a=some (.iV aY))(hk:gr aY k=true)(ry:bW X.K H y k) :
  ∃ H',Inv X pins σ H' s/\Mv X.K H G H' G/\((∃ (kv:List (Key×V)) (kk:Key),H' a=some (.dK kv)/\lJ X.K H' kv aY/\k=eL kk/\y=kV kk)\/∃ (kv:List (List Key×V)) (kk:List Key) (b:Addr),H' a=some (.dT kv)/\mS X.K H' kv aY/\k=.tup (kk.map eL)/\y=.ref b/\H' b=some (.tup (kk.map kV))):=by
 unfold gr at hk;rw [qQ,aK,aK] at hk;rcases hk with ⟨h1,h2⟩ | ⟨h1,h2⟩
 ·obtain⟨kk,rfl⟩:=xC h1;have ey:=xj ry;subst ey;rcases ab a _ hg with ⟨kv,hv,rs⟩ | ⟨kv,hv,rs⟩
  ·exact⟨H,I,.refl ab,.inl ⟨kv,kk,hv,rs,rfl,rfl⟩⟩
  ·cases rs with
   | nil =>
    refine⟨_,toK I hv,BP ab hg (.putD hv (.inr ⟨_,rfl⟩)) (.inl ⟨[],cN,.nil⟩),.inl ⟨[],kk,cN,.nil,rfl,rfl⟩⟩
   | cons _ _=>simp [dF] at h2
 ·obtain⟨kk,rfl⟩:=BZ h1;obtain⟨b,rfl,hb⟩:=yN ry;rcases ab a _ hg with ⟨kv,hv,rs⟩ | ⟨kv,hv,rs⟩
  ·cases rs with
   | nil =>
    have kp:Kp H (upd H a (.dT [])):=.putD hv (.inl ⟨_,rfl⟩);exact⟨_,toT I hv,BP ab hg kp (.inr ⟨[],cN,.nil⟩),.inr ⟨[],kk,b,cN,.nil,rfl,rfl,kp.tup _ _ hb⟩⟩
   | @cons j _ _ _ _ _ _=>cases j <;> simp [eL,pf] at h2
  ·exact⟨H,I,.refl ab,.inr ⟨kv,kk,b,hv,rs,rfl,rfl,hb⟩⟩
theorem zy(I:Inv X pins σ H s)(ab:kA X.K H G)(hg:G a=some (.iV aY))(hk:gr aY k=true)(ry:bW X.K H y k) :
  ∃ H' o,Inv X pins σ H' s/\Mv X.K H G H' G/\ve H' a y o/\o.isSome=(look aY k).isSome/\∀ d,look aY k=some d->∃ v,o=some v/\bW X.K H' v d:=by
 obtain⟨H',I',m,h⟩:=Cc I ab hg hk ry;rcases h with ⟨kv,kk,hv,rs,rfl,rfl⟩ | ⟨kv,kk,b,hv,rs,rfl,rfl,hb⟩
 ·refine⟨H',jF kv kk,I',m,.k hv,?_,fun d hd=>?_⟩
  ·rcases rs.look kk with ⟨v,d,e1,e2,_⟩ | ⟨e1,e2⟩ <;> rw [e1,e2] <;> rfl
  ·rcases rs.look kk with ⟨v,d',e1,e2,r⟩ | ⟨e1,e2⟩
   ·rw [e2] at hd; cases hd; exact⟨v,e1,r⟩
   ·rw [e2] at hd; cases hd
 ·refine⟨H',jF kv kk,I',m,.t hv hb,?_,fun d hd=>?_⟩
  ·rcases rs.look kk with ⟨v,d,e1,e2,_⟩ | ⟨e1,e2⟩ <;> rw [e1,e2] <;> rfl
  ·rcases rs.look kk with ⟨v,d',e1,e2,r⟩ | ⟨e1,e2⟩
   ·rw [e2] at hd; cases hd; exact⟨v,e1,r⟩
   ·rw [e2] at hd; cases hd
theorem xi{x:V}(I:Inv X pins σ H s)(rd:bW X.K H x (.mR aY))(hk:gr aY k=true)(ry:bW X.K H y k) :
  ∃ a o,x=.ref a/\(aY=[]\/ve H a y o)/\o.isSome=(look aY k).isSome/\∀ d,look aY k=some d->∃ v,o=some v/\bW X.K H v d:=by
 unfold gr at hk;rw [qQ,aK,aK] at hk;cases rd with
 | pX h rs =>
  rename_i a ob kv;rcases hk with ⟨h1,h2⟩ | ⟨h1,h2⟩
  ·obtain⟨kk,rfl⟩:=xC h1;have ey:=xj ry;subst ey;refine⟨a,jF kv kk,rfl,.inr (.inl ⟨kv,kk,.inr ⟨_,h⟩,rfl,rfl⟩),?_,fun d hd=>?_⟩
   ·rcases rs.look kk with ⟨v,d,e1,e2,_⟩ | ⟨e1,e2⟩ <;> rw [e1,e2] <;> rfl
   ·rcases rs.look kk with ⟨v,d',e1,e2,r⟩ | ⟨e1,e2⟩
    ·rw [e2] at hd; cases hd; exact⟨v,e1,r⟩
    ·rw [e2] at hd; cases hd
  ·cases rs with
   | nil=>exact⟨a,none,rfl,.inl rfl,rfl,fun d hd=>by cases hd⟩
   | cons _ _ =>
    rename_i kx _ _ _ _ _ _;rw [vm,aK] at h2;cases kx <;> exact absurd h2.1 (by simp [eL,pf])
 | pW h rs =>
  rename_i a ob kv;rcases hk with ⟨h1,h2⟩ | ⟨h1,h2⟩
  ·cases rs with
   | nil=>exact⟨a,none,rfl,.inl rfl,rfl,fun d hd=>by cases hd⟩
   | cons _ _ =>
    rw [vm,aK] at h2;exact absurd h2.1 (by simp [dF])
  ·obtain⟨kk,rfl⟩:=BZ h1;obtain⟨b,rfl,hb⟩:=yN ry;refine⟨a,jF kv kk,rfl,.inr (.inr ⟨kv,kk,b,.inr ⟨_,h⟩,rfl,hb,rfl⟩),?_,fun d hd=>?_⟩
   ·rcases rs.look kk with ⟨v,d,e1,e2,_⟩ | ⟨e1,e2⟩ <;> rw [e1,e2] <;> rfl
   ·rcases rs.look kk with ⟨v,d',e1,e2,r⟩ | ⟨e1,e2⟩
    ·rw [e2] at hd; cases hd; exact⟨v,e1,r⟩
    ·rw [e2] at hd; cases hd
theorem FT{v:V}{d:D}(I:Inv X pins σ H s)(ab:kA X.K H G)(hg:G a=some (.iV aY))(hk:gr aY k=true)(hz:aY.length < SZ)(ry:bW X.K H y k)(rv:bW X.K H v d) :
  ∃ H' Rt,Inv X pins σ H' s/\DA H' a y v Rt/\Mv X.K H G Rt (cB G a (.iV (put aY k d))):=by
 obtain⟨H',I',m,h⟩:=Cc I ab hg hk ry;have Qr:=rv.mono (m.kp ab);have sz:aX=16777216:=cf;rcases h with ⟨kv,kk,hv,rs,rfl,rfl⟩ | ⟨kv,kk,b,hv,rs,rfl,rfl,hb⟩
 ·have kp:Kp H' (upd H' a (.dK (putK kv kk v))):=.putD hv (.inl ⟨_,rfl⟩);exact⟨H',_,I',.k hv (by rw [rs.length,sz]; exact hz),m.trans (.put m.ab hg kp (.inl ⟨_,cN,(rs.put kk Qr).mono kp⟩))⟩
 ·have kp:Kp H' (upd H' a (.dT (putK kv kk v))):=.putD hv (.inr ⟨_,rfl⟩);exact⟨H',_,I',.t hv hb (by rw [rs.length,sz]; exact hz),m.trans (.put m.ab hg kp (.inr ⟨_,cN,(rs.put kk Qr).mono kp⟩))⟩
end
end K2
end
section
namespace K2
open PySem PySem.Spec PyProof.Rows L2
section
variable {X:Cx} {a b c e:Expr} {es:List Expr} {ta tb tc te:fQ} {t:zZ} {pos p p2 apos kY:Pos} {x:Str}
theorem kT{k:Bool}{j}:gh X (.Constant (.bool k) j pos) (dC (.bl k)):=q5 LU fun _ _=>.bl k
theorem BM{j}:gh X (.Constant .none j pos) (dC .cR):=q5 JL fun _ _=>.cR
theorem Bt:M6 X (unaryOp .USub) EL:=by
 intro pins s σ H G x dx v Q I ab rx dX q;cases dX with
 | int i=>exact fG (Jn pins s σ H _ v (ya X.K H G Q) I rx ⟨i,rfl,_,_,.refl ab,.int _,q⟩) fun _ _ z=>.of z
 | _=>exact bx q
theorem dE(hu:X.A.units+64 < cLine)(ha:gh X a ta)(hb:gh X b tb)(hs:Iz b):gh X (.Subscript a b pos) (aZ kj ta tb):=by
 intro E pins s σ H τ G Q hE I h;refine Subscript_ (Gn ha hb hE I h fun v u s2 x y dx dy H2 G2 J m rx ry dX dY q=>?_);have fin:∀ {rb:R2},Qi X rb->rb x y H2 (ya X.K H2 G2 Q)->wpAny (model X.prog X.w) X.A (subscriptTail a b v u) (oA X pins σ H G Q) X.xe s2:=fun hr hq =>
  fG (hr a b pins s2 σ H2 x y v u _ J.inv rx ry hq (hs _ _)) fun _ _ z=>(oA.of z).trans m
 cases dX with
 | tup hq rs =>
  cases dY with
  | int i =>
   rw [fM] at q;split at q
   ·rename_i d hd;obtain⟨w,hw,o6⟩:=rs.oV hd;exact fin J8 ⟨_,_,i,w,rfl,rfl,.of hq,hw,d,G2,.refl J.ab,o6,q⟩
   ·exact q.elim
  | _=>exact bx q
 | dm hq rs =>
  cases dY with
  | int i =>
   rw [jg] at q;split at q
   ·rename_i d hd;obtain⟨w,hw,o6⟩:=rs.oV hd;exact fin B1 ⟨_,_,i,w,rfl,rfl,hq.sq,hw,d,G2,.refl J.ab,o6,q⟩
   ·exact q.elim
  | _=>exact bx q
 | pX h rs =>
  rw [xl] at q;obtain⟨hk,q⟩:=q;split at q
  ·rename_i d hd;obtain⟨a',o,ea,g,_,hv⟩:=xi J.inv (.pX h rs) hk dY;obtain⟨w,rfl,o6⟩:=hv d hd;cases ea;rcases g with rfl | g
   ·cases hd
   ·cases rx;exact tail_any (nV J.inv g) PySem.F.slot_dict_getitem.lookup (rK (by lia) J.inv g ry fun w' s3 I4 rv=>⟨w,H2,d,G2,I4,m,rv,o6,q⟩) (hs _ _)
  ·exact q.elim
 | pW h rs =>
  rw [xl] at q;obtain⟨hk,q⟩:=q;split at q
  ·rename_i d hd;obtain⟨a',o,ea,g,_,hv⟩:=xi J.inv (.pW h rs) hk dY;obtain⟨w,rfl,o6⟩:=hv d hd;cases ea;rcases g with rfl | g
   ·cases hd
   ·cases rx;exact tail_any (nV J.inv g) PySem.F.slot_dict_getitem.lookup (rK (by lia) J.inv g ry fun w' s3 I4 rv=>⟨w,H2,d,G2,I4,m,rv,o6,q⟩) (hs _ _)
  ·exact q.elim
 | ref l =>
  rw [Hi] at q;split at q
  ·rename_i ds hl;obtain⟨vs,hv,rs⟩:=J.ab.lst hl;cases dY with
   | int i =>
    dsimp only at q;split at q
    ·rename_i d hd;obtain⟨w,hw,o6⟩:=rs.oV hd;exact fin B1 ⟨_,_,i,w,rfl,rfl,.of hv,hw,d,G2,.refl J.ab,o6,q⟩
    ·exact q.elim
   | _=>exact bx q
  ·rename_i aY hl;obtain⟨hk,q⟩:=q;split at q
   ·rename_i d hd;obtain⟨H3,o,I3,m3,g,_,hv⟩:=zy J.inv J.ab hl hk dY;obtain⟨w,rfl,o6⟩:=hv d hd;cases rx;exact tail_any (nV I3 g) PySem.F.slot_dict_getitem.lookup (rK (by lia) I3 g ry fun w' s3 I4 rv=>⟨w,H3,d,G2,I4,m.trans m3,rv,o6,q⟩) (hs _ _)
   ·exact q.elim
  ·exact q.elim
 | _=>exact bx q
noncomputable def N0(X:Cx)(e:Option Expr)(t:M9):Prop :=
 ∀ (E:ke) (pins:List (Addr×Obj)) (s:ak) (σ:L2.St) (H:Hp) (τ:gx) (G:Gp) (Q:Option Int->Gp->Prop),Lk X E->I2 X pins σ H τ G s->t E τ G Q ->
  wpAny (model X.prog X.w) X.A (evalPart e X.env) (fun u s'=>∃ o H' G',Inv X pins σ H' s'/\Mv X.K H G H' G'/\IsPart u o/\Q o G') X.xe s
theorem eO:N0 X none cE:=by
 intro E pins s σ H τ G Q hE I h;rw [evalPart_none];exact a0 ⟨none,H,G,I.inv,.refl I.ab,.none,h⟩
theorem dU(h:gh X e te):N0 X (some e) (iH te):=by
 intro E pins s σ H τ G Q hE I hw;rw [evalPart_some];refine kQ h hE I hw fun x H1 d G1 u s1 I1 m1 r1 j4 q1=>?_;cases j4 with
 | int i =>
  obtain⟨t,rfl⟩:=r1;exact⟨some i,H1,G1,I1.inv,m1,.int i t,q1⟩
 | _=>exact bx q1
theorem di{lo hi:Option Expr}{tl th:M9}(he:gh X a ta)(hl:N0 X lo tl)(hu:N0 X hi th):gh X (.Subscript a (.Slice lo hi none p2) pos) (pF ta tl th):=by
 intro E pins s σ H τ G Q hE I h;refine Subscript_ (kQ he hE I h fun x H1 d G1 v s1 I1 m1 r1 j4 q1=>?_);refine wpAny_Slice (fG (hl E pins s1 σ H1 τ G1 _ hE I1 q1) ?_);rintro vl s2 ⟨l,H2,G2,kz,m2,pl,q2⟩;refine fG (hu E pins s2 σ H2 τ G2 _ hE (I1.mv kz m2) q2) ?_;rintro vu s3 ⟨r,H3,G3,I3,m3,pu,q3⟩;rw [evalPart_none];refine a0 ?_;have QF:=m2.trans m3;have mm:=m1.trans QF;have I4:Inv X pins σ H3 { s3 with heap:=s3.heap.push { cls:=.type "slice",data:=.fields #[vl,vu,.none] } }:=I3.kept (t':=s3.toks) fun b ob q=>ax _ q;have OD:=j4.mono (QF.kp I1.ab);have Jf:=m3.ab;have key:∀ {rb:V->Option Int->Option Int->Hp->VK->Prop},Qf X rb->rb x l r H3 (ya X.K H3 G3 Q)->wpAny (model X.prog X.w) X.A (subscriptTail a (.Slice lo hi none p2) v (.ref s3.heap.objs.size)) (oA X pins σ H G Q) X.xe { s3 with heap:=s3.heap.push { cls:=.type "slice",data:=.fields #[vl,vu,.none] } }:=fun hr hq=>by
  obtain⟨T,id,hT,ht,hg⟩:=hr pins { s3 with heap:=s3.heap.push { cls:=.type "slice",data:=.fields #[vl,vu,.none] } } σ H3 x v vl vu l r s3.heap.objs.size _ I4 r1 (Heap.IsSliceOf.new ..) pl pu hq;exact fG (tail_any (ops:=[.ref s3.heap.objs.size,v]) ht hT hg (by with_unfolding_all rfl)) fun _ _ z=>(oA.of z).trans mm
 cases OD with
 | tup hq rs =>
  obtain⟨hw,q⟩:=q3;refine key Jx ⟨_,_,rfl,.of hq,?_,fun p hp=>⟨_,G3,.Ib Jf hp,.tup cN ((rs.cut l r).mono (.new hp)),q⟩⟩;rw [xg,xg,rs.length];exact hw
 | dm hq rs=>exact key BA ⟨_,_,rfl,hq.sq,fun p hp=>⟨_,_,.xw Jf hp (rs.cut l r),.ref _,q3 p (Jf.free hp)⟩⟩
 | ref g =>
  rw [qb] at q3;split at q3
  ·rename_i ds hg;obtain⟨vs,hv,rs⟩:=Jf.lst hg;exact key BA ⟨_,_,rfl,.of hv,fun p hp=>⟨_,_,.xw Jf hp (rs.cut l r),.ref _,q3 p (Jf.free hp)⟩⟩
  ·exact q3.elim
 | _=>exact bx q3
theorem Hw(ss:List D)(s:D)(h1:mE ss=true)(h2:nr s=true):((jy ss).any fun y=>mQ y (pd s))=ss.any (gy · s):=by
 induction ss with
 | nil=>rfl
 | cons d r ih =>
  have h':nr d=true/\mE r=true:=(iw).mp h1;show (mQ (pd d) (pd s)||(jy r).any _)=_;rw [ih h'.2,pk d s h'.1 h2]; rfl
theorem Ce{G:Gp}{n:Nat}{ds ss:List D}(h:Sn G (n+1) (.dm ds) (.dm ss)):bI (jy ss)<=n:=by
 exact pL (rH h)
theorem xF(hu:X.A.units+64 < cLine)(neg:Bool){pins:List (Addr×Obj)}{s:ak}{σ:L2.St}{H:Hp}{G:Gp}{x y:V}{dx t:D}{ds ss:List D}{v u:Value}{Q:DK}(I:Inv X pins σ H s)(ab:kA X.K H G)(rx:RelV x v)(dX:bW X.K H x dx)
  (hy:(∃ l vs its,u=.ref l/\Vals vs its/\a5 X.K H vs ds/\(s.heap.IsList l its.toArray\/s.heap.IsTuple l its.toArray))) (s1:Sn G SN dx t) (s2:Sn G SN (.dm ds) (.dm ss))
  (q:Q (.bl (if neg then !ss.any (gy · t) else ss.any (gy · t))) G):wpAny (model X.prog X.w) X.A (cX (if neg then .NotIn else .In) v u) (oA X pins σ H G Q) X.xe s:=by
 obtain⟨l,vs,its,rfl,rv,rs,hl⟩:=hy;obtain⟨as,ra⟩:=(eV I ab s1).1 x v dX rx;obtain⟨bs,rb⟩:=(eV I ab s2).2 ds ss (.inl ⟨rfl,rfl⟩) vs its rs rv;have d2:=Ce (n:=7) s2;have n2:mE ss=true:=s2.nr;have ux:=qt _ n2;have e:=Hw ss t n2 s1.nr;have yp:X.A.units+1+min (bI (jy ss)) (pd t).depth < cLine:=by lia
 have EJ:fC s.heap its.toArray.toList (jy ss) bs:=by simpa using rb
 have fin:∀ k:Bool,k=(if neg then !ss.any (gy · t) else ss.any (gy · t))->oA X pins σ H G Q (.bool k) s:=fun k hk=>by subst hk; exact⟨.bl _,H,.bl _,G,I,.refl ab,rfl,.bl _,q⟩
 cases neg with
 | false =>
  rcases hl with hl | hl
  ·exact SeqAt.in_listAt _ hl (km EJ ra ux (iE _ s1.nr) yp) (by rw [mX EJ ux,e]; exact fin _ rfl)
  ·exact SeqAt.in_tupleAt _ hl (km EJ ra ux (iE _ s1.nr) yp) (by rw [mX EJ ux,e]; exact fin _ rfl)
 | true =>
  rcases hl with hl | hl
  ·exact SeqAt.notIn_listAt _ hl (km EJ ra ux (iE _ s1.nr) yp) (by rw [mX EJ ux,e]; exact fin _ rfl)
  ·exact SeqAt.notIn_tupleAt _ hl (km EJ ra ux (iE _ s1.nr) yp) (by rw [mX EJ ux,e]; exact fin _ rfl)
theorem Fm(hu:X.A.units+64 < cLine)(neg:Bool){pins:List (Addr×Obj)}{s:ak}{σ:L2.St}{H:Hp}{G:Gp}{x y:V}{dx:D}{aY:List (D×D)}{v u:Value}{Q:DK}(I:Inv X pins σ H s)(ab:kA X.K H G)(rx:RelV x v)(ry:RelV y u)(dY:bW X.K H y (.mR aY))(dX:bW X.K H x dx)
  (q:yo neg dx (.mR aY) G Q):wpAny (model X.prog X.w) X.A (cX (if neg then .NotIn else .In) v u) (oA X pins σ H G Q) X.xe s:=by
 obtain⟨lG,hk,q⟩:=q;have go:∀ (a:Addr) (o:Option V),y=.ref a->ve H a x o->o.isSome=(look aY dx).isSome->wpAny (model X.prog X.w) X.A (cX (if neg then .NotIn else .In) v u) (oA X pins σ H G Q) X.xe s:=by
  intro a o ea g ho;subst ea;cases ry;cases neg with
  | false=>exact MT (by lia) I g rx fun s3 I4=>⟨.bl _,H,.bl _,G,I4,.refl ab,rfl,.bl _,by rw [ho]; exact q⟩
  | true=>exact Ci (by lia) I g rx fun s3 I4=>⟨.bl _,H,.bl _,G,I4,.refl ab,rfl,.bl _,by rw [ho]; exact q⟩
 obtain⟨a,o,ea,g,ho,_⟩:=xi I dY hk dX;rcases g with rfl | g
 ·exact absurd rfl lG
 ·exact go a o ea g ho
theorem BN(hu:X.A.units+64 < cLine)(neg:Bool):lF X (cX (if neg then .NotIn else .In)) (yo neg):=by
 intro pins s σ H G x y dx dy v u Q I ab rx ry dX dY q;cases dY with
 | tup hq rs =>
  obtain⟨t,ss,s1,s2,q⟩:=q;cases ry;obtain⟨its,rv,pl,hz⟩:=I.tuple (.of hq);exact xF hu neg (y:=x) I ab rx dX ⟨_,_,its,rfl,rv,rs,.inr pl⟩ s1 s2 q
 | dm hq rs =>
  obtain⟨t,ss,s1,s2,q⟩:=q;cases ry;obtain⟨its,rv,pl,hz⟩:=I.list hq.sq;exact xF hu neg (y:=x) I ab rx dX ⟨_,_,its,rfl,rv,rs,.inl pl.isList⟩ s1 s2 q
 | pX h rs=>exact Fm hu neg I ab rx ry (.pX h rs) dX q
 | pW h rs=>exact Fm hu neg I ab rx ry (.pW h rs) dX q
 | ref l =>
  unfold yo at q;dsimp only at q;split at q
  ·rename_i aY hl;obtain⟨hk,q⟩:=q;obtain⟨H3,o,I3,m3,g,ho,_⟩:=zy I ab hl hk dX;cases ry;cases neg with
   | false=>exact MT (by lia) I3 g rx fun s3 I4=>⟨.bl _,H3,.bl _,G,I4,m3,rfl,.bl _,by rw [ho]; exact q⟩
   | true=>exact Ci (by lia) I3 g rx fun s3 I4=>⟨.bl _,H3,.bl _,G,I4,m3,rfl,.bl _,by rw [ho]; exact q⟩
  ·rename_i ds hl;obtain⟨t,ss,s1,s2,q⟩:=q;cases ry;obtain⟨vs,hv,rs⟩:=ab.lst hl;obtain⟨its,rv,pl,hz⟩:=I.list (.of hv);exact xF hu neg (y:=x) I ab rx dX ⟨_,_,its,rfl,rv,rs,.inl pl.isList⟩ s1 s2 q
  ·exact q.elim
 | _=>exact bx q
theorem E3(hu:X.A.units+64 < cLine):lF X (cX .In) (yo false):=BN hu false
theorem rf(hu:X.A.units+64 < cLine):lF X (cX .NotIn) (yo true):=BN hu true
end
end K2
end
section
namespace K2
open PySem PySem.Spec PyProof.Rows L2
section
variable {X:Cx} {a b c e o:Expr} {es:List Expr} {ta tb tc te to:fQ} {t:zZ} {pos p p2 apos kY:Pos} {x name:Str} {id T:String}
theorem dG:oe X (.builtin "len") jj:=by
 intro pins s σ H G xs ds us Q I ab rx rd q;unfold jj at q;split at q
 ·rename_i x;obtain⟨v,rfl,r⟩:=rd.one;have GW:∀ (n:Nat),Nc X.K v H n->Q (.int (n:Int)) G->wpAny (model X.prog X.w) X.A (call (.builtin "len") us) (oA X pins σ H G Q) X.xe s:=fun n hn hq =>
   fG (Gb pins s σ H [v] us (ya X.K H G Q) I rx ⟨v,n,rfl,hn,_,_,.refl ab,.int _,hq⟩) fun _ _ z=>.of z
  have sz:aX=16777216:=cf;cases r with
  | tup hq rs=>exact GW _ (.inr ⟨_,.of hq,by rw [rs.length]⟩) q
  | dm hq rs=>exact GW _ (.inl ⟨_,hq.sq,by rw [rs.length]⟩) q
  | str y =>
   unfold lenOf at q;dsimp only at q;by_cases hz:y.length<=SZ
   ·rw [if_pos hz] at q; exact GW _ ⟨by rw [sz]; exact hz,rfl⟩ q
   ·rw [if_neg hz] at q; exact q.elim
  | pX h rs =>
   rename_i l o kv aY;obtain⟨u,rfl,ru⟩:=rx.one;cases ru;unfold lenOf at q;dsimp only at q;by_cases ha:(aY.all fun p=>dF p.1)=true
   ·rw [if_pos ha] at q;exact Jd I (.inr ⟨_,h⟩) fun t s' I'=>⟨.int kv.length,H,_,G,I',.refl ab,⟨t,rfl⟩,.int _,by rw [rs.length]; exact q⟩
   ·rw [if_neg ha] at q; exact q.elim
  | pW h rs =>
   rename_i l o kv aY;obtain⟨u,rfl,ru⟩:=rx.one;cases ru;unfold lenOf at q;dsimp only at q;by_cases ha:(aY.all fun p=>dF p.1)=true
   ·rw [if_pos ha] at q;cases rs with
    | nil =>
     obtain⟨z,hS,xs,rel,ob,es,ep,ho,hx,C9,hl,nd⟩:=(I.dA l _ h).2;have Lc:xs=[]:=by cases rel; rfl
     subst Lc;have he:es=#[]:=by simpa using hl
     subst he;have dd:s.heap.DictOf (eP X.prog X.w) l []:=⟨ob,#[],ep,ho,hx,C9,(fun _ h=>by simp at h),.nil,bZ⟩;refine call_len_dict hS dd (by simp) ?_;exact⟨.int 0,H,_,G,I.tok _,.refl ab,⟨_,rfl⟩,.int _,q⟩
    | cons _ _=>simp [dF] at ha
   ·rw [if_neg ha] at q; exact q.elim
  | ref l =>
   unfold lenOf at q;dsimp only at q;cases hg:G l with
   | none=>rw [hg] at q; exact q.elim
   | some g =>
    rw [hg] at q;cases g with
    | lst ds =>
     obtain⟨vs,hv,rs⟩:=ab.lst hg;exact GW _ (.inl ⟨_,.of hv,by rw [rs.length]⟩) q
    | iV aY =>
     obtain⟨u,rfl,ru⟩:=rx.one;cases ru;dsimp only at q;by_cases ha:(aY.all fun p=>dF p.1)=true
     ·rw [if_pos ha] at q;rcases ab l _ hg with ⟨kv,hv,rs⟩ | ⟨kv,hv,rs⟩
      ·exact Jd I (.inl hv) fun t s' I'=>⟨.int kv.length,H,_,G,I',.refl ab,⟨t,rfl⟩,.int _,by rw [rs.length]; exact q⟩
      ·cases rs with
       | nil =>
        obtain⟨z,hd,vs,rel,dd⟩:=zx (toK I hv).dA cN;have SU:vs=[]:=by cases rel; rfl
        subst SU;refine call_len_dict hd dd (by simp) ?_;exact⟨.int 0,H,_,G,I.tok _,.refl ab,⟨_,rfl⟩,.int _,q⟩
       | cons _ _=>simp [dF] at ha
     ·rw [if_neg ha] at q; exact q.elim
  | _=>exact bx q
 ·exact q.elim
theorem pz:oe X (.type "list") oU:=by
 intro pins s σ H G xs ds us Q I ab rx rd q;unfold oU at q;split at q
 ·rename_i x;obtain⟨v,rfl,r⟩:=rd.one;have Oq:∀ (l:Addr) (ys:List V) (zs:List D),v=.ref l->(vW X.K H l ys\/u6 X.K H l ys)->a5 X.K H ys zs->jw G (.lst zs) Q->wpAny (model X.prog X.w) X.A (call (.type "list") us) (oA X pins σ H G Q) X.xe s:=fun l ys zs e h rs hq=>by
   subst e;exact fG (x3 pins s σ H _ us (ya X.K H G Q) I rx ⟨l,ys,rfl,h,fun p hp=>⟨_,_,.xw ab hp rs,.ref _,hq p (ab.free hp)⟩⟩) fun _ _ z=>.of z
  cases r with
  | tup hq rs=>exact Oq _ _ _ rfl (.inr (.of hq)) rs q
  | dm hq rs=>exact Oq _ _ _ rfl (.inl hq.sq) rs q
  | ref l =>
   unfold itemsOf at q;dsimp only at q;cases hg:G l with
   | none=>rw [hg] at q; exact q.elim
   | some g =>
    rw [hg] at q;cases g with
    | lst ds =>
     obtain⟨vs,hv,rs⟩:=ab.lst hg;exact Oq _ _ _ rfl (.inl (.of hv)) rs q
    | iV aY=>exact q.elim
  | _=>exact bx q
 ·exact q.elim
theorem o9 {r:List D->Gp->DK->Prop} (hc:oe X (.type T) r) (hg:Gl X x) (hm:X.mg x=none) (hv:c7 x=some (.type T)) (ha:Bg X (e :: es) t) (hn:autoParam (x≠"__name__") Ad._auto_1) (AS:autoParam ((x == ("__debug__" : Str))=false) Ad._auto_1)
  (he:autoParam (bA (e :: es) X.env=(false,eval e X.env) :: bA es X.env) Ar._auto_1) (zY:autoParam ((jd pos (bA es X.env)).any (·.1)=false) Ar._auto_1):gh X (.Call (.Name x p) (e :: es) [] pos) (ky r t):=by
 intro E pins s σ H τ G Q hE I h;refine c6 (kU I.inv hg hm hv ?_ hn AS);exact c8 (w7 ha pos hE I h fun vs H1 ds G1 us s1 I1 m1 r1 j4 q1=>fG (hc pins s1 σ H1 G1 vs ds us Q I1.inv I1.ab r1 j4 q1) fun _ _ z=>z.trans m1) he zY
theorem J3 (K:ah):∀ C∈["int","bool","list","tuple","dict","str"],∀ T∈["NoneType","bool","int","str","tuple","list","dict"],PySem.W.kitOne K (.type T) (.type C)=some (T == C||(T == "bool" && C == "int")):=by
 intro C hC T hT;simp only [vj,List.not_mem_nil,or_false] at hC hT;rcases hC with rfl | rfl | rfl | rfl | rfl | rfl <;> rcases hT with rfl | rfl | rfl | rfl | rfl | rfl | rfl <;> kernel_rfl
theorem Fi (C:String) (hC:C∈["int","bool","list","tuple","dict","str"]) {pins:List (Addr×Obj)} {s:ak} {σ:L2.St} {H:Hp} {G:Gp} {v:V} {d:D} {u:Value} {k:Bool} {Q:DK} (I:Inv X pins σ H s) (ab:kA X.K H G) (ru:RelV v u) (r:bW X.K H v d)
  (hk:Lb C d G=some k) (q:Q (.bl k) G):wpAny (model X.prog X.w) X.A (call (.builtin "isinstance") [u,.type C]) (oA X pins σ H G Q) X.xe s:=by
 have fin:∀ tk,oA X pins σ H G Q (.bool k) { s with toks:=tk }:=fun tk=>⟨.bl k,H,.bl k,G,I.tok _,.refl ab,rfl,.bl k,q⟩;have hl:∀ T∈["NoneType","bool","int","str","tuple","list","dict"],k=(T == C||(T == "bool" && C == "int"))->PySem.W.kitOne X.K (.type T) (.type C)=some k:=fun T hT e=>by rw [J3 X.K C hC T hT,e]
 have tl:∀ {l:Addr} {o:Obj},s.heap.get? l=some o->o.cls=.type "list"->k=("list" == C||("list" == "bool" && C == "int"))->v=.ref l->wpAny (model X.prog X.w) X.A (call (.builtin "isinstance") [u,.type C]) (oA X pins σ H G Q) X.xe s:=fun ho hc e ev=>by
  subst ev;cases ru;exact gK PySem.W.kitx_list I.B0 ⟨_,ho,hc⟩ (hl "list" (by decide) e) (fun z=>nomatch z) fin
 have td:∀ {l:Addr} {o:Obj},s.heap.get? l=some o->o.cls=.type "dict"->k=("dict" == C||("dict" == "bool" && C == "int"))->v=.ref l->wpAny (model X.prog X.w) X.A (call (.builtin "isinstance") [u,.type C]) (oA X pins σ H G Q) X.xe s:=fun ho hc e ev=>by
  subst ev;cases ru;exact gK PySem.W.kitx_dict I.B0 ⟨_,ho,hc⟩ (hl "dict" (by decide) e) (fun z=>nomatch z) fin
 have kZ:∀ P:String->Prop,(∀ C'∈["int","bool","list","tuple","dict","str"],P C')->P C:=fun P h=>h C hC;cases r with
 | cR =>
  cases ru;have e:k=("NoneType" == C||("NoneType" == "bool" && C == "int")):=by
   have:k=false:=(a6 hk).symm;rw [this];exact kZ (fun C=>false=("NoneType" == C||("NoneType" == "bool" && C == "int"))) (by decide)
  exact gK PySem.W.kitx_none I.B0 iW (hl _ (by decide) e) (fun z=>nomatch z) fin
 | bl y =>
  cases ru;have e:k=("bool" == C||("bool" == "bool" && C == "int")):=by
   have:k=(C == "bool" || C == "int"):=(a6 hk).symm;rw [this];exact kZ (fun C=>(C == "bool" || C == "int")=("bool" == C||("bool" == "bool" && C == "int"))) (by decide)
  exact gK PySem.W.kitx_bool I.B0 iW (hl _ (by decide) e) (fun z=>nomatch z) fin
 | int y =>
  obtain⟨t,rfl⟩:=ru;have e:k=("int" == C||("int" == "bool" && C == "int")):=by
   have:k=(C == "int"):=(a6 hk).symm;rw [this];exact kZ (fun C=>(C == "int")=("int" == C||("int" == "bool" && C == "int"))) (by decide)
  exact gK PySem.W.kitx_int I.B0 iW (hl _ (by decide) e) (fun z=>nomatch z) fin
 | str y =>
  obtain⟨t,rfl⟩:=ru;have e:k=("str" == C||("str" == "bool" && C == "int")):=by
   have:k=(C == "str"):=(a6 hk).symm;rw [this];exact kZ (fun C=>(C == "str")=("str" == C||("str" == "bool" && C == "int"))) (by decide)
  exact gK PySem.W.kitx_str I.B0 iW (hl _ (by decide) e) (fun z=>nomatch z) fin
 | tup hq rs =>
  cases ru;have e:k=("tuple" == C||("tuple" == "bool" && C == "int")):=by
   have:k=(C == "tuple"):=(a6 hk).symm;rw [this];exact kZ (fun C=>(C == "tuple")=("tuple" == C||("tuple" == "bool" && C == "int"))) (by decide)
  obtain⟨its,rv,⟨o,h1,h2,_⟩,hz⟩:=I.tuple (.of hq);exact gK PySem.W.kitx_tuple I.B0 ⟨o,h1,h2⟩ (hl _ (by decide) e) (fun z=>nomatch z) fin
 | dm hq rs =>
  obtain⟨its,rv,pl,hz⟩:=I.list hq.sq;obtain⟨o,h1,h2,_⟩:=pl.isList;refine tl h1 h2 ?_ rfl;have:k=(C == "list"):=(a6 hk).symm;rw [this];exact kZ (fun C=>(C == "list")=("list" == C||("list" == "bool" && C == "int"))) (by decide)
 | pX h rs =>
  have e:k=("dict" == C||("dict" == "bool" && C == "int")):=by
   have:k=(C == "dict"):=(a6 hk).symm;rw [this];exact kZ (fun C=>(C == "dict")=("dict" == C||("dict" == "bool" && C == "int"))) (by decide)
  obtain⟨_,_,vs,_,ob,_,_,h1,h2,_⟩:=qC I.dA (.inr ⟨_,h⟩);exact td h1 h2.1 e rfl
 | pW h rs =>
  have e:k=("dict" == C||("dict" == "bool" && C == "int")):=by
   have:k=(C == "dict"):=(a6 hk).symm;rw [this];exact kZ (fun C=>(C == "dict")=("dict" == C||("dict" == "bool" && C == "int"))) (by decide)
  obtain⟨_,_,ys,_,ob,_,_,h1,h2,_⟩:=wK I.dA (.inr ⟨_,h⟩);exact td h1 h2.1 e rfl
 | exc h=>simp [Lb] at hk
 | ref l =>
  unfold Lb at hk;dsimp only at hk;cases hg:G l with
  | none=>rw [hg] at hk; cases hk
  | some g =>
   rw [hg] at hk;cases g with
   | lst ds =>
    obtain⟨vs,hv,rs⟩:=ab.lst hg;obtain⟨its,rv,pl,hz⟩:=I.list (.of hv);obtain⟨o,h1,h2,_⟩:=pl.isList;refine tl h1 h2 ?_ rfl;have:k=(C == "list"):=(a6 hk).symm;rw [this];exact kZ (fun C=>(C == "list")=("list" == C||("list" == "bool" && C == "int"))) (by decide)
   | iV aY =>
    have e:k=("dict" == C||("dict" == "bool" && C == "int")):=by
     have:k=(C == "dict"):=(a6 hk).symm;rw [this];exact kZ (fun C=>(C == "dict")=("dict" == C||("dict" == "bool" && C == "int"))) (by decide)
    rcases ab l _ hg with ⟨kv,hv,rs⟩ | ⟨kv,hv,rs⟩
    ·obtain⟨_,_,vs,_,ob,_,_,h1,h2,_⟩:=zx I.dA hv;exact td h1 h2.1 e rfl
    ·obtain⟨_,_,ys,_,ob,_,_,h1,h2,_⟩:=Jb I.dA hv;exact td h1 h2.1 e rfl
theorem qi (C:String) (hC:C∈["int","bool","list","tuple","dict","str"]) {y:Str} {py:Pos} (hg:Gl X "isinstance") (hm:X.mg "isinstance" = none) (Tt:Gl X y) (Tc:X.mg y=none) (SV:c7 y=some (.type C)) (ha:gh X a ta) (hn:autoParam (y≠"__name__") Ad._auto_1) (AS:autoParam ((y == ("__debug__" : Str))=false) Ad._auto_1)
  (he:autoParam (bA [a,.Name y py] X.env=(false,eval a X.env) :: bA [.Name y py] X.env) Ar._auto_1) (zY:autoParam ((jd pos (bA [Expr.Name y py] X.env)).any (·.1)=false) Ar._auto_1) (Tv:autoParam (bA [.Name y py] X.env=[(false,eval (.Name y py) X.env)]) Ar._auto_1) :
  gh X (.Call (.Name "isinstance" p) [a,.Name y py] [] pos) (A9 C ta):=by
 intro E pins s σ H τ G Q hE I h;refine c6 (kU I.inv hg hm PyProof.Rows.boot_isinstance ?_);refine qU ?_ he zY;rw [he];show wpAny _ _ (z8 ((false,eval a X.env) :: jd pos (bA [.Name y py] X.env))) _ _ s;refine gJ (kQ ha hE I h fun v H1 d G1 u s1 I1 m1 r1 j4 q1=>?_);rw [Tv];show wpAny _ _ (z8 [(false,eval (.Name y py) X.env)]) _ _ s1;refine gJ (kU I1.inv Tt Tc SV (jE ?_) hn AS)
 try dsimp only at q1
 split at q1
 ·rename_i k hk;exact fG (Fi C hC I1.inv I1.ab r1 j4 hk q1) fun _ _ z=>z.trans m1
 ·exact q1.elim
end
end K2
end
section
namespace K2
open PySem PySem.Spec PyProof.Rows L2
section
variable {X:Cx} {a b c e o:Expr} {es:List Expr} {ta tb tc te to:fQ} {t:zZ} {pos p p2 apos kY:Pos} {x name:Str} {id T:String}
noncomputable def Gw(X:Cx)(id:String)(r:D->List D->Gp->DK->Prop):Prop :=
 ∀ (pins:List (Addr×Obj)) (s:ak) (σ:L2.St) (H:Hp) (G:Gp) (x:V) (d:D) (xs:List V) (ds:List D) (v:Value) (us:List Value) (Q:DK),Inv X pins σ H s->kA X.K H G->RelV x v->bW X.K H x d->Vals xs us->a5 X.K H xs ds->r d ds G Q ->
  wpAny (model X.prog X.w) X.A (call (.builtin id) (v :: us)) (oA X pins σ H G Q) X.xe s
noncomputable def M7(X:Cx)(T:String)(ty:D->Gp->Prop):Prop:=∀ (pins:List (Addr×Obj)) (s:ak) (σ:L2.St) (H:Hp) (G:Gp) (x:V) (d:D) (v:Value),Inv X pins σ H s->kA X.K H G->RelV x v->bW X.K H x d->ty d G ->
  s.TypeIs v T/\∀ a,v=.ref a->∃ ob,s.heap.get? a=some ob/\ob.dict=none
theorem fj:M7 X "list" sR:=by
 intro pins s σ H G x d v I ab r rd h;cases rd with
 | dm hq rs=>exact Eg I r (.inl ⟨rfl,_,hq.sq⟩)
 | ref l =>
  unfold sR at h;dsimp only at h;split at h
  ·rename_i ds hg;obtain⟨vs,hv,rs⟩:=ab.lst hg;exact Eg I r (.inl ⟨rfl,vs,.of hv⟩)
  ·exact h.elim
 | _=>exact bx h
theorem iY {ty:D->Gp->Prop} {r:D->List D->Gp->DK->Prop} (pa:PlainAttrs T) (slot:Slot T name id) (SX:typeOf (.builtin id)=pure (.type "method_descriptor")) (ht:M7 X T ty) (hm:Gw X id r) (ho:gh X o to) (ha:Bg X (e :: es) t)
  (MG:autoParam (attributeBase o name X.env (eval o X.env)=eval o X.env) Ar._auto_1)
  (PN:autoParam (((jd kY (bA (e :: es) X.env)).all (fun x=>!x.1)&&(backToKw kY (keywordEach [] X.env)).all (fun x=>x.1.isSome)
   && decide ((e :: es).length+([]:List Ea).length+(if ([]:List Ea).isEmpty then 0 else 1) < 30))=true) Ar._auto_1)
  (Mq:autoParam ((apos.endLine == kY.line)=true) Ar._auto_1) (hs:autoParam (bA (e :: es) X.env=(false,eval e X.env) :: bA es X.env) Ar._auto_1) (Kg:autoParam ((jd kY (bA es X.env)).any (·.1)=false) Ar._auto_1) :
  gh X (.Call (.Attribute o name apos) (e :: es) [] kY) (oT ty r to t):=by
 intro E pins s σ H τ G Q hE I h;refine wpAny_Call_method_late MG PN Mq rfl (kQ ho hE I h ?_);rintro x H1 d G1 v s1 I1 m1 r1 j4 ⟨hy,q1⟩;obtain⟨h1,h2⟩:=ht pins s1 σ H1 G1 x d v I1.inv I1.ab r1 j4 hy;refine⟨T,id,pa,slot,SX,h1,h2,?_⟩;have hA:=ha kY E pins s1 σ H1 τ G1 _ hE I1 q1;rw [hs] at hA ⊢;refine Calls.callWith_builtin (by show (false||(jd kY (bA es X.env)).any (·.1))=false; rw [Kg] <;> rfl) (Calls.evalArgs_plain ?_);exact fG hA (by rintro us s2 ⟨vs,H2,ds,G2,kz,m2,r2,BI,q2⟩; exact fG (hm pins s2 σ H2 G2 x d vs ds v us Q kz m2.ab r1 (j4.mono (m2.kp I1.ab)) r2 BI q2) fun _ _ z=>z.trans (m1.trans m2))
theorem gq:Gw X "list.append" g8:=by
 intro pins s σ H G x d xs ds v us Q I ab rx rd JA zX q;unfold g8 at q;split at q
 ·rename_i l d';cases rd;obtain⟨w,rfl,o6⟩:=zX.one;split at q
  ·rename_i zs hg;obtain⟨hz,q⟩:=q;obtain⟨vs,hv,rs⟩:=ab.lst hg;exact fG (wm pins s σ H _ _ v us (ya X.K H G Q) I rx JA ⟨l,vs,w,rfl,rfl,hv,by rw [rs.length,cf]; exact hz,_,_,.putL ab hg hv (rs.append (.cons o6 .nil)),.cR,q⟩) fun _ _ z=>.of z
  ·exact q.elim
 ·exact q.elim
theorem A3(l:Addr)(xs:Array Value)(n:Nat)(b:Addr)(ys:Array Value)(n2:Nat)(dd:Option Addr)(sl:Array (Option Value))(IW:¬(!xs.isEmpty&&hV (xs.size+ys.size))=true)(hx:xs.size<=aX)(SS:xs.size+ys.size<=aX+1) :
  Meets (Builtin.«list.extend» ⟨[.ref l,.ref b],[]⟩) (fun _ R s=>s.heap.get? l=some { cls:=.type "list",dict:=none,data:=.seq xs n,slots:=#[] }/\s.heap.get? b=some { cls:=.type "list",dict:=dd,data:=.seq ys n2,slots:=sl }/\R (.ok (.ret k6)) { s with heap:=s.heap.update l (cU fun x=>x++ys),toks:=s.toks }) :=
 .of_wp fun prog w A R s h=>by
  obtain⟨hp,g,d,tk,os⟩:=s;obtain⟨h1,h2,h3⟩:=h;have e1:=AutoSeq1.idx_int;have e2:=mw;have e3:=An;have e4:=AutoSeq1.sub_tuple_list;have e5:=AutoSeq1.sub_list_tuple;have SR:(xs++ys).size<=aX+1:=by rw [Array.size_append]; exact SS
  wp_walk using (gi h1 rfl (hz:=hx) (_hz':=SR)),bB h1,bB h2
  exact⟨_,rfl,h3⟩
theorem uc:Gw X "list.extend" ql:=by
 intro pins s σ H G x d xs ds v us Q I ab rx rd JA zX q;unfold ql at q;split at q
 ·rename_i l y;cases rd;obtain⟨w,rfl,o6⟩:=zX.one;obtain⟨u,rfl,ru⟩:=JA.one;split at q
  ·rename_i zs ys hg Mx;obtain⟨hz,q⟩:=q;obtain⟨vs,hv,rs⟩:=ab.lst hg;obtain⟨b,ws,rB,rfl,IG,ED,hb,_⟩:=kd I ab ru o6 Mx;cases rx;obtain⟨z,its,n,r,hl,e⟩:=I.J1 hv;obtain⟨⟨cl,dd,dt,sl⟩,ho,xI,n2,Q0⟩:=hb;simp only at xI Q0;subst xI Q0;have h1:=IG.length;have h2:=ED.length;have h3:=rs.length;have h4:=r.length;have h5:aX=16777216:=cf;have h6:SZ=16777216:=rfl;have hsz:its.toArray.size+rB.toArray.size<=aX:=by rw [aI,aI]; lia
   have IW:¬ (!its.toArray.isEmpty&&hV (its.toArray.size+rB.toArray.size))=true:=by
    rw [E4 hsz,Bq];exact eK
   refine vg F.slot_list_extend ⟨_,e,rfl⟩ F.entry_list_extend (F.args_list_extend_2 _ _) (A3 l its.toArray n b rB.toArray n2 dd sl IW (by rw [aI]; lia) (by lia)) ⟨e,ho,?_⟩;refine⟨.cR,_,.cR,_,I.J2 (its':=its++rB) hv e (by simp) (r.append IG) ?_,.putL ab hg hv (rs.append ED),rfl,.cR,q⟩;rw [aP];lia
  ·exact q.elim
 ·exact q.elim
theorem J9{its:List Value}{u:Value}{k:Nat}(hk:k<=its.length):(its.toArray.extract 0 k).push u++its.toArray.extract k=(its.take k++u :: its.drop k).toArray:=by
 simp [List.extract_eq_take_drop];rw [D6 (by rw [dI]; lia)]
theorem ub:Gw X "list.insert" qk:=by
 intro pins s σ H G x d xs ds v us Q I ab rx rd JA zX q;unfold qk at q;split at q
 ·rename_i l i d';cases rd;obtain⟨w,w2,rfl,GZ,LI⟩:=zX.two;cases GZ;split at q
  ·rename_i zs hg;obtain⟨h0,h1,hz,q⟩:=q;obtain⟨vs,hv,rs⟩:=ab.lst hg;obtain⟨u1,u2,rfl,⟨t,rfl⟩,LJ⟩:=vals2 JA;cases rx;obtain⟨z,its,n,r,hl,e⟩:=I.J1 hv;have sz:aX=16777216:=cf;have hlen:its.length=zs.length:=by rw [<-hl,rs.length]
   have hs:SZ=16777216:=rfl;have PM:¬ (!Builtin.List.listFitsIndex i)=true:=by
    rw [fitsIndex_both (by lia) (by lia)];exact eK
   refine vg F.slot_list_insert ⟨_,e,rfl⟩ F.entry_list_insert (F.args_list_insert_3 _ _ _)
    (AutoSeq1.list_insert_list_int_val_1 l its.toArray n i t u2 PM (by rw [aI]; lia)) ⟨e,?_⟩
   have hi:i.toNat<=its.length:=by lia
   refine⟨.cR,_,.cR,_,I.J2 (its':=its.take i.toNat++u2 :: its.drop i.toNat) (ys:=vs.take i.toNat++w2 :: vs.drop i.toNat) hv e ?_ ((r.take _).append (.cons LJ (r.drop _))) ?_,.putL ab hg hv ((rs.take _).append (.cons LI (rs.drop _))),rfl,.cR,q⟩
   ·dsimp only;have e1:(if i < 0 then (i+(its.toArray.size:Int)).toNat else min i.toNat its.toArray.size)=i.toNat:=by
     rw [if_neg (by lia),aI]; lia
    rw [e1];exact J9 hi
   ·rw [aP,ai,fh,dI];lia
  ·exact q.elim
 ·exact q.elim
theorem CT (hu : X.A.units + 64 < cLine) : Gw X "list.index" xy := by
  intro pins s σ H G x d xs ds v us Q I ab rx rd JA zX q;unfold xy at q;split at q
  · rename_i d'
    obtain⟨hy, zs, sn, ss, hi, s1, s2, q⟩ := q;obtain⟨w, rfl, o6⟩ := zX.one;obtain⟨u, rfl, ru⟩ := JA.one;have lists : ∃ l vs its, v = .ref l ∧ Vals vs its ∧ a5 X.K H vs zs ∧ s.heap.IsList l its.toArray ∧ vs.length ≤ aX := by
      cases rd with
      | dm hq rs =>
        cases hi;cases rx;obtain⟨its, rv, pl, hz⟩ := I.list hq.sq;exact⟨_, _, its, rfl, rv, rs, pl.isList, hz⟩
      | ref l =>
        unfold itemsOf at hi;dsimp only at hi;cases hg : G l with
        | none => rw [hg] at hi; cases hi
        | some g =>
          rw [hg] at hi;cases g with
          | lst ds =>
            cases hi;cases rx;obtain⟨vs, hv, rs⟩ := ab.lst hg;obtain⟨its, rv, pl, hz⟩ := I.list (.of hv);exact⟨_, _, its, rfl, rv, rs, pl.isList, hz⟩
          | iV _ => cases hi
      | _ => exact bx hy
    obtain⟨l, vs, its, rfl, rv, rs, hl, hz⟩ := lists;obtain⟨as, ra⟩ := (eV I ab s1).1 w u o6 ru;obtain⟨bs, rb⟩ := (eV I ab s2).2 zs ss (.inl ⟨rfl, rfl⟩) vs its rs rv;have d2 := Ce (n := 7) s2;have n2 : mE ss = true := s2.nr;have ux := qt _ n2;have yp : X.A.units + 1 + min (bI (jy ss)) (pd sn).depth < cLine := by lia
    have EJ : fC s.heap its.toArray.toList (jy ss) bs := by simpa using rb
    have mp := SeqAt.readsAll_map _ _ _ ux EJ;split at q
    · rename_i k hk
      obtain⟨sD, PJ, Mn⟩ := List.findIdx?_eq_some_iff_getElem.mp hk;have Sf : ∀ (zz : List D), (jy zz).length = zz.length := by
        intro zz;induction zz with
        | nil => rfl
        | cons a r ih => exact congrArg Nat.succ ih
      have hlen : its.length = ss.length := by
        have := congrArg dW mp;rw [af, Sf] at this;simpa using this
      have at_ : ∀ (m : Nat) (h1 : m < its.toArray.size) (h2 : m < ss.length), mQ (v3 s.heap its.toArray[m]) (pd sn) = gy ss[m] sn := by
        intro m h1 h2;have e1 : (its.toArray.toList.map (v3 s.heap))[m]? = (jy ss)[m]? := by rw [mp]
        have Sg : ∀ (zz : List D) (m : Nat) (h : m < zz.length), (jy zz)[m]? = some (pd zz[m]) := by
          intro zz;induction zz with
          | nil => intro m h; simp at h
          | cons a r ih => intro m h; cases m with
            | zero => rfl
            | succ m => exact ih m (Nat.lt_of_succ_lt_succ h)
        rw [Sg ss m h2] at e1;have TV : m < its.length := by simpa using h1
        have e2 : v3 s.heap its.toArray[m] = pd ss[m] := by
          simpa [TV] using e1
        rw [e2];have Sr : nr ss[m] = true := by
          have : ∀ (zz : List D) (m : Nat) (h : m < zz.length), mE zz = true -> nr zz[m] = true := by
            intro zz;induction zz with
            | nil => intro m h; simp at h
            | cons a r ih => intro m h hn; have NJ : nr a = true ∧ mE r = true := (iw).mp hn
                             cases m with
                             | zero => exact NJ.1
                             | succ m => exact ih m (by simpa using h) NJ.2
          exact this ss m h2 n2
        exact pk _ _ Sr s1.nr
      have sz : aX = 16777216 := cf;have Kb : vs.length = its.length := rv.length;obtain⟨⟨cls, dd, data, sl⟩, ho, hc, n, hd⟩ := id hl;simp only at hc hd;subst hc hd;have QY : k < its.toArray.size := by rw [aI]; lia
      refine vg Af ⟨_, ho, rfl⟩ PySem.F.entry_list_index (PySem.F.args_list_index_2 _ _)
        (SeqAt.list_indexAt l its.toArray n dd sl u (fun y => mQ (v3 s.heap y) (pd sn)) k QY (by lia) ?_ ?_) ⟨ho, km EJ ra ux (iE _ s1.nr) yp, ?_⟩
      · rw [at_ k QY sD]; exact PJ
      · intro m hm Ta
        have Ia : m < ss.length := by lia
        rw [at_ m hm Ia];simpa using Mn m Ta
      · exact⟨.int k, H, .int k, G, I.tok _, .refl ab, ⟨_, rfl⟩, .int _, q⟩
    · exact q.elim
  · exact q.elim
theorem xo:gh X (.Dict [] [] pos) uX:=by
 intro E pins s σ H τ G Q hE I h;exact fG (EU pins s σ H (ya X.K H G Q) I.inv fun p hp=>⟨_,_,.new I.ab hp (.dk cN .nil),.ref _,h p (I.ab.free hp)⟩) fun _ _ z=>.of z
end
end K2
end
section
namespace K2
open PySem PySem.Spec PyProof.Rows L2
noncomputable def eX(env:Env):List (Str×oK)->List (Str×Addr)->List (Str×Addr)
 | [],acc=>acc
 | (n,k) :: r,acc=>if k=.free then eX env r ((n,(env.cells.lookup n).getD 0) :: acc) else eX env r acc
theorem px(env:Env)(f:Str×oK->List (Str×Addr)->Sem (ForInStep (List (Str×Addr))))(hf:∀ n k c,f (n,k) c=if (k == iT)=true then (cellOf env n >>= fun a=>pure (oE ((n,a) :: c))) else pure (oE c)) :
  ∀ (ns:List (Str×oK)) (acc:List (Str×Addr)),(∀ x∈ns,x.2=.free->∃ c,env.cells.lookup x.1=some c)->forIn ns acc f=(pure (eX env ns acc):Sem (List (Str×Addr)))
 | [],acc,_=>rfl
 | (n,k) :: r,acc,h=>by
  rw [List.forIn_cons,hf];have hr:∀ x∈r,x.2=.free->∃ c,env.cells.lookup x.1=some c:=fun x hx=>h x (aE _ hx);by_cases hk:k=.free
  ·subst hk;obtain⟨c,hc⟩:=h (n,.free) bb rfl;have ec:cellOf env n=pure c:=by unfold cellOf; rw [hc]
   rw [if_pos (by decide),ec,pure_bind,pure_bind];show forIn r ((n,c) :: acc) f=_;rw [px env f hf r _ hr];show _=(pure (eX env ((n,.free) :: r) acc):Sem (List (Str×Addr)));rw [eX,if_pos rfl,hc]; rfl
  ·rw [if_neg (by simpa using hk),pure_bind];show forIn r acc f=_;rw [px env f hf r _ hr];show _=(pure (eX env ((n,k) :: r) acc):Sem (List (Str×Addr)));rw [eX,if_neg hk]
theorem vV{env:Env}{scope:Scope}(h:∀ x∈scope.names,x.2=.free->∃ c,env.cells.lookup x.1=some c):Ab scope env=pure (eX env scope.names []):=by
 unfold Ab;dsimp only;rw [px env _ (fun n k c=>?_) scope.names [] h]
 ·rfl
 ·by_cases hk:(k == iT)=true
  ·simp only [hk,if_true]
  ·simp only [hk,if_false,aw]
theorem pP{env:Env}{x:Str}{c:Addr}:∀ {ns:List (Str×oK)} {acc:List (Str×Addr)},(∀ y∈ns,y.2=.free->∃ c,env.cells.lookup y.1=some c)->(∀ y c,acc.lookup y=some c->env.cells.lookup y=some c)->(eX env ns acc).lookup x=some c->env.cells.lookup x=some c
 | [],_,_,ha,e=>ha _ _ e
 | (n,k) :: r,acc,h,ha,e=>by
  have hr:∀ y∈r,y.2=.free->∃ c,env.cells.lookup y.1=some c:=fun y hy=>h y (aE _ hy);unfold eX at e;by_cases hk:k=.free
  ·rw [if_pos hk] at e;refine pP hr (fun y c' q=>?_) e;rw [yj] at q;by_cases hy:(y == n)=true
   ·rw [hy] at q;have e1:y=n:=eq_of_beq hy;subst e1;obtain⟨c0,TF⟩:=h (y,k) bb hk;rw [TF] at q ⊢;exact q
   ·have Pq:(y == n)=false:=by simpa using hy
    rw [Pq] at q;exact ha y c' q
  ·rw [if_neg hk] at e;exact pP hr ha e
theorem lM{env:Env}{x:Str}:∀ {ns:List (Str×oK)} {acc:List (Str×Addr)},((x,iT)∈ns\/∃ c,acc.lookup x=some c)->∃ c,(eX env ns acc).lookup x=some c
 | [],_,h=>by rcases h with h | h; exact absurd h (by simp); exact h
 | (n,k) :: r,acc,h=>by
  unfold eX;have grow:∀ a,(∃ c,acc.lookup x=some c)->∃ c,((n,a) :: acc).lookup x=some c:=fun a DL=>by
   obtain⟨c,hc⟩:=DL;rw [yj];by_cases hy:(x == n)=true
   ·rw [hy]; exact⟨_,rfl⟩
   ·have Pq:(x == n)=false:=by simpa using hy
    rw [Pq]; exact⟨c,hc⟩
  by_cases hk:k=.free
  ·rw [if_pos hk];refine lM ?_;rcases h with h | h
   ·rcases List.mem_cons.mp h with e | h
    ·injection e with e1 e2
     subst e1;exact .inr ⟨(env.cells.lookup x).getD 0,by rw [yj]; simp⟩
    ·exact .inl h
   ·exact .inr (grow _ h)
  ·rw [if_neg hk];refine lM ?_;rcases h with h | h
   ·rcases List.mem_cons.mp h with e | h
    ·injection e with e1 e2
     exact absurd e2.symm hk
    ·exact .inl h
   ·exact .inr h
noncomputable abbrev cV(X:Cx)(N:List Str)(scope:Scope)(C:Addr)(s:ak)(H:Hp)(fp:List Addr):Cx :=
 { X with env:=compEnvC scope (eX X.env scope.names []) C X.env,N:=N,kq:=s,Bi:=H,outer:=X.stack,stack:=X.stack,ex:=fp,fn:=fun _=>false,pn:=[],xe:=fun _ _=>False }
theorem pY{scope:Scope}{env:Env}{x:Str}(h:(z9 scope env).names.lookup x=some .cell\/(z9 scope env).names.lookup x=some .free)(jz:∀ y∈scope.names,y.2≠.cell):(x,iT)∈scope.names:=by
 have go:∀ k,(z9 scope env).names.lookup x=some k->k=.cell\/k=.free->(x,iT)∈scope.names:=by
  intro k hk To;have hm:=fZ hk;unfold z9 at hm;dsimp only at hm;obtain⟨⟨n,j⟩,hj,e⟩:=List.mem_map.mp hm;dsimp only at e;by_cases hc:(j == iT&&env.scope.kind == .function&&env.kindOf n == some .cell)=true
  ·rw [if_pos hc] at e;rw [aK,aK] at hc;injection e with e1 e2
   have ej:j=.free:=eq_of_beq hc.1.1;rw [ej,e1] at hj;exact hj
  ·rw [if_neg hc] at e;injection e with e1 e2
   subst e1;rcases To with r | r
   ·exact absurd (e2.trans r) (jz _ hj)
   ·rw [e2.trans r] at hj; exact hj
 rcases h with h | h
 ·exact go _ h (.inl rfl)
 ·exact go _ h (.inr rfl)
section
variable {X:Cx} {N:List Str} {scope:Scope} {fp:List Addr} {pins:List (Addr×Obj)} {σ:L2.St} {H:Hp} {s:ak} {C:Addr}
theorem KH(I:Inv X pins σ H s)(jz:∀ y∈scope.names,y.2≠.cell)(wD:scope.kind=.function)(j8:∀ y∈scope.names,y.2=.free->X.env.kindOf y.1=some .cell)(hC:s.heap.objs.size<=C)(MA:∀ b∈fp,sJ X pins H b/\b < s.heap.objs.size):(cV X N scope C s H fp).Ok:=by
 have xI:∀ y∈scope.names,y.2=.free->∃ c,X.env.cells.lookup y.1=some c:=fun y hy hf=>I.ok.has _ (.inl (j8 y hy hf));have Js:∀ x c,(eX X.env scope.names []).lookup x=some c->X.env.cells.lookup x=some c:=fun x c e=>pP xI (fun y c q=>by simp at q) e;refine⟨I.ok.mod,wD,I.ok.glob,I.ok.blt,hC,fun x y c h1 h2=>I.ok.inj x y c (Js x c h1) (Js y c h2),fun x hx=>?_,fun x c h=>absurd h (by simp),I.ok.hd,I.ok.frames,.inl rfl,fun b hb=>?_,I.bs,bw I.ok.Iv I.sz,fun b o e hb=>?_,fun b hb=>?_,I.stack,I.Bw⟩
 ·exact lM (.inl (pY hx jz))
 ·obtain⟨⟨f0,f1,f2,f3,f4,f5⟩,sD⟩:=MA b hb;exact⟨bh (a8 sD hC),fun x c e=>f4 x c (Js x c e)⟩
 ·obtain⟨⟨f0,f1,f2,f3,f4,f5⟩,sD⟩:=MA b hb;rcases f3 with f3 | f3
  ·exact I.ok.E5 b o e f3
  ·exact absurd (a8 (aL e) (bw I.ok.Iv f3)) (fF _)
 ·obtain⟨⟨f0,f1,f2,f3,f4,f5⟩,sD⟩:=MA b hb;intro z;rcases List.mem_cons.mp (I.Aw b z) with e | e
  ·exact f1 e
  ·exact f2 e
theorem Iq{kX:Heap}{m:Nat}{fr:List Nat}{tk:Nat}(I:Inv X pins σ H s)(ok:(cV X N scope s.heap.objs.size s H fp).Ok)(Ks:∀ y∈scope.names,y.2≠.cell)(j8:∀ y∈scope.names,y.2=.free->X.env.kindOf y.1=some .cell)(hN:N.length=m+fr.length)
  (PK:∀ j i x,fr[j]?=some i->N[m+j]?=some x->X.N[i]?=some x/\X.env.scope.names.lookup x=some .cell/\(z9 scope X.env).names.lookup x=some .cell) (C6:∃ mm,kX.Ns s.heap.objs.size mm) (hk:∀ b o,s.heap.get? b=some o->kX.get? b=some o) :
  Inv (cV X N scope s.heap.objs.size s H fp) [] (aW m none++fr.map fun i=>(σ[i]?).getD none) H { s with heap:=kX,toks:=tk }:=by
 have xI:∀ y∈scope.names,y.2=.free->∃ c,X.env.cells.lookup y.1=some c:=fun y hy hf=>I.ok.has _ (.inl (j8 y hy hf));have Js:∀ x c,(eX X.env scope.names []).lookup x=some c->X.env.cells.lookup x=some c:=fun x c e=>pP xI (fun y c q=>by simp at q) e;obtain⟨mm,C6⟩:=C6;refine⟨ok,rfl,I.bare,Un.kept hk,⟨mm,C6,fun i x v h1 h2 h3=>?_⟩,fun x c e=>?_,I.dA.fresh (aG _),fun x c e=>?_,fun p hp=>absurd hp (by simp),I.dA.kept hk,?_⟩
 ·by_cases hi:i < m
  ·rw [bF (by simpa using hi),jn] at h2;split at h2 <;> cases h2
  ·obtain⟨j,rfl⟩:∃ j,i=m+j:=⟨i - m,by lia⟩;rw [bL (by simp),eD,o3,cT] at h2;cases hj:fr[j]? with
   | none=>rw [hj] at h2; cases h2
   | some k =>
    rw [hj] at h2;have FA:(σ[k]?).getD none=some v:=by simpa using h2
    have DM:σ[k]?=some (some v):=by
     cases q:σ[k]? with
     | none=>rw [q] at FA; cases FA
     | some o=>rw [q] at FA; simp at FA; rw [FA]
    obtain⟨e1,e2,e3⟩:=PK j k x hj h1;obtain⟨m0,Vr,Ti⟩:=I.loc;obtain⟨u,r,l⟩:=Ti k x v e1 DM (.inr (.inl e2));refine⟨u,r,.inr ⟨.inl e3,?_⟩⟩;rcases l with ⟨l1,_⟩ | ⟨_,c,hc,jz⟩
    ·have:X.env.scope.names.lookup x=some .local:=l1;rw [e2] at this; cases this
    ·have hx:(x,iT)∈scope.names:=pY (.inl e3) Ks;obtain⟨c',ME⟩:=lM (env:=X.env) (x:=x) (ns:=scope.names) (acc:=[]) (.inl hx);have:=Js x c' ME;rw [hc] at this;have ec:c=c':=a6 this;subst ec;obtain⟨oc,Lf,hd⟩:=jz;exact⟨c,ME,oc,hk _ _ Lf,hd⟩
 ·obtain⟨v,oc,Lf,hd⟩:=I.cell x c (Js x c e);exact⟨v,oc,hk _ _ Lf,hd⟩
 ·exact I.mG x c (Js x c e)
 ·rw [aP,eD,af];exact hN.symm
theorem x2{prog:bC}{w:World}{A:cF}{R:Result->ak->Prop}{s:ak}{elt target iter:Expr}{ifs:List Expr}{sc:Scope}{pos:Pos}{it acc:Value}{env:Env}(J:Nat->ak->Prop)
  (turn:∀ n s,J n s->wpAny (model prog w) A (DY it) (fun r dS=>match r with
   | none=>R (.ok .next) dS
   | some v=>wpAny (model prog w) A (tM target it v) (fun _ LA=>wpAny (model prog w) A (D4 target env v) (fun _ jt =>
     wpAny (model prog w) A (forIn ifs true fun c r=>if r=true then do let ok ← isTrue c env (eval c env); pure (oE ok) else pure (oE r)) (fun k Ep =>
      if k=true then wpAny (model prog w) A (eval elt env) (fun x CD=>wpAny (model prog w) A (call (.builtin "list.append") [acc,x]) (fun _ Eo=>∃ m,m < n/\J m Eo) (fun _ _=>False) CD) (fun _ _=>False) Ep
      else ∃ m,m < n/\J m Ep) (fun _ _=>False) jt) (fun _ _=>False) LA) (fun _ _=>False) dS) (fun _ _=>False) s) (n:Nat) (h:J n s) :
  tP (model prog w) A (.compLoop (.ListComp elt [⟨target,iter,ifs,0⟩] sc pos) 0 it acc env) R s:=by
 have no:∀ {α:Type} {t:Sem α} {Q:α->ak->Prop} {E:Value->ak->Prop} {s:ak},wpAny (model prog w) A t Q (fun _ _=>False) s->wpAny (model prog w) A t Q E s:=fun h=>pI h (fun _ _ q=>q) fun _ _ z=>z.elim;refine codeAny_loop rfl J (fun n s hJ=>?_) n h;show wpAny _ A ((compTurn (.ListComp elt [⟨target,iter,ifs,0⟩] sc pos) 0 it acc env).onRaise (fun x=>do noteFrame x env; theTreesLotGoes x)) _ _ s;refine wpAny_noted ?_;rw [compTurn_list];refine ar (wpAny_standAt (ar (fG (no (turn n s hJ)) fun r dS kX=>?_)));cases r with
 | none=>exact a0 kX
 | some v =>
  refine ar (fG (no kX) fun _ jt AQ=>ar (fG (no AQ) fun _ Ep Pn=>ar (fG (no Pn) fun k CD L9=>?_)));cases k with
  | false=>exact a0 ⟨rfl,L9⟩
  | true=>exact ar (ar (fG (no L9) fun x Eo Pm=>ar (fG (no Pm) fun _ RM Pl=>a0 (a0 ⟨rfl,Pl⟩))))
noncomputable def CompEnd(X:Cx)(pins:List (Addr×Obj))(σ:L2.St)(H:Hp)(G:Gp)(Q:DK)(C Dd:Addr)(s':ak):Prop :=
 ∃ m H' G',Inv X pins σ H' s'/\s'.heap.Ns C m/\sJ X pins H' C/\Mv X.K H G H' G'/\Q (.ref Dd) G'
inductive KY (Xc:Cx):List Expr->Option u5->Prop
 | none:KY Xc [] none
 | some {c:Expr} {t:u5}:Bf Xc c t->KY Xc [c] (some t)
theorem wL{τ:gx}{G G2:Gp}{H2:Hp}{s2:ak}{tg elt iter:Expr}{ifs:List Expr}{pos:Pos}{m:Nat}{fr:List Nat}{E:ke}{g:wV}{c:Option u5}{te:fQ}{J:It}{tn:Nat->Heap->Prop}{it:Addr}{ds:List D}{ok:Gp->Prop}{Q:DK}{Rr:Value->Addr->Result->ak->Prop}{E0:Value->ak->Prop}
  (hc:X.calm=true) (jz:∀ y∈scope.names,y.2≠.cell) (wD:scope.kind=.function) (j8:∀ y∈scope.names,y.2=.free->X.env.kindOf y.1=some .cell) (hN:N.length=m+fr.length)
  (PK:∀ j i x,fr[j]?=some i->N[m+j]?=some x->X.N[i]?=some x/\X.env.scope.names.lookup x=some .cell/\(z9 scope X.env).names.lookup x=some .cell)
  (hg:∀ C s H fp,DP (cV X N scope C s H fp) tg g) (hi:∀ C s H fp,KY (cV X N scope C s H fp) ifs c) (he:∀ C s H fp,gh (cV X N scope C s H fp) elt te)
  (I:I2 X pins σ H2 τ G2 s2) (m2:Mv X.K H G H2 G2) (T:Turn X.prog X.w X.K tg J fp it tn) (ID:tn 0 s2.heap) (f2:∀ b∈fp,sJ X pins H2 b) (wk:Jg X.K J H2 ds ok) (hz:ds.length<=SZ)
  (P0:∀ ex G,¬ E ex G) (q:iI g c te ok ds E (rL m fr τ) G2 [] fun xs G3=>jw G3 (.lst xs) Q)
  (fin:∀ C s',CompEnd X pins σ H G Q C s2.heap.objs.size s'->Rr (.ref s2.heap.objs.size) C (.ok .next) s') :
  wpAny (model X.prog X.w) X.A (newList []) (fun acc Ep=>wpAny (model X.prog X.w) X.A (newFunctionEnv scope X.env.globals (eX X.env scope.names []) [] X.env.qual none .none (some X.env)) (fun MX CD =>
   tP (model X.prog X.w) X.A (.compStart (.ListComp elt [⟨tg,iter,ifs,0⟩] scope pos) 0 (.ref it) acc { MX with scope:=z9 scope X.env }) (Rr acc MX.locals) CD) E0 Ep) E0 s2:=by
 have sz:aX=16777216:=cf;have rE:H2 s2.heap.objs.size=none:=I.inv.dA.fresh (aG _);have Ky:G2 s2.heap.objs.size=none:=I.ab.free rE;refine iQ (wpAny_newFunctionEnv jz (by intro y hy; simp at hy) (fun kX Ft Fp=>?_) wD);dsimp only at Ft Fp ⊢;have I3:Inv X pins σ (upd H2 s2.heap.objs.size (.lst [])) { s2 with heap:=s2.heap.push { cls:=.type "list",data:=.seq ([]:List Value).toArray },toks:=s2.toks }:=I.inv.Pd (ys:=[]) .nil (bS _);generalize QP:({ s2 with heap:=s2.heap.push { cls:=.type "list",data:=.seq ([]:List Value).toArray },toks:=s2.toks }:ak)=s3 at I3;generalize ML:upd H2 s2.heap.objs.size (.lst [])=H3 at I3;have Ri:∀ b,b≠s2.heap.objs.size->H3 b=H2 b:=fun b hb=>by rw [<-ML,bM hb]
 have zh:s3.heap=s2.heap.push { cls:=.type "list",data:=.seq ([]:List Value).toArray }:=by rw [<-QP]
 have LH:s3.heap.objs.size=s2.heap.objs.size+1:=by rw [zh,iO]
 have Fw:∀ b∈fp,b < s2.heap.objs.size:=fun b hb=>by
  obtain⟨o,e,_⟩:=T.obj _ _ ID b hb;exact aL e
 have Mz:∀ b∈fp,sJ X pins H3 b/\b < s3.heap.objs.size:=fun b hb=>by
  have Q5:=Fw b hb;obtain⟨f0,f1⟩:=f2 b hb;exact⟨⟨by rw [Ri b (bh Q5)]; exact f0,f1⟩,a8 Q5 (by rw [LH]; exact oZ _)⟩
 have Nr:(cV X N scope s3.heap.objs.size s3 H3 fp).Ok:=KH I3 jz wD j8 (aG _) Mz;have IY:∀ b o,s3.heap.get? b=some o->kX.get? b=some o:=fun b o e=>by
  have hb:b < s3.heap.objs.size:=aL e;refine Fp.extBut b o ?_ (ax _ ?_)
  ·rw [<-zh]; exact bh hb
  ·rw [<-zh]; exact e
 have PG:∃ mm,kX.Ns s3.heap.objs.size mm:=⟨_,by rw [zh]; exact Ft⟩;have I4:=Iq (tk:=s3.toks+([]:List (Str×Value)).length) I3 Nr jz j8 hN PK PG IY;have Pj:Kp H2 H3:=by rw [<-ML]; exact .new rE
 have Jf:kA X.K H3 G2:=by rw [<-ML]; exact(Mv.Ib I.ab rE).ab
 have SE:Mv X.K H2 G2 H3 G2:=by rw [<-ML]; exact .Ib I.ab rE
 have Nl:GJ X.K H3 (aW m none++fr.map fun i=>(σ[i]?).getD none) (rL m fr τ):=by
  refine⟨by unfold rL; rw [aP,aP,af,af,eD,eD],fun i d h2=>?_⟩;unfold rL at h2;by_cases hi:i < m
  ·rw [bF (by simpa using hi),jn] at h2;split at h2 <;> cases h2
  ·obtain⟨j,rfl⟩:∃ j,i=m+j:=⟨i - m,by lia⟩;rw [bL (by simp),eD,o3,cT] at h2;rw [bL (by simp),eD,o3,cT];cases hj:fr[j]? with
   | none=>rw [hj] at h2; cases h2
   | some k =>
    rw [hj] at h2;have FA:(τ[k]?).getD none=some d:=by simpa using h2
    have DM:τ[k]?=some (some d):=by
     cases qq:τ[k]? with
     | none=>rw [qq] at FA; cases FA
     | some o=>rw [qq] at FA; simp at FA; rw [FA]
    obtain⟨v,e1,e2⟩:=I.st.at' k d DM;exact⟨v,by simp [e1],e2.mono Pj⟩
 have TQ:H3 s2.heap.objs.size=some (.lst []):=by rw [<-ML,cN]
 have LC:tn 0 kX:=T.keep _ _ _ ID fun b hb o e=>IY b o (by rw [zh]; exact ax _ e);have Es:∀ {Hc:Hp},(∀ b∈fp,Hc b=none)->∀ b∈fp,sJ (cV X N scope s3.heap.objs.size s3 H3 fp) [] Hc b:=fun hn b hb =>
  ⟨hn b hb,(Nr.NS b hb).1,Nr.FK b hb,.inl hb,fun x c e=>(Nr.NS b hb).2 x c e,fun p hp=>absurd hp (by simp)⟩
 have Ss:∀ b∈fp,b≠s2.heap.objs.size:=fun b hb=>bh (Fw b hb);have loop:tP (model X.prog X.w) X.A (.compLoop (.ListComp elt [⟨tg,iter,ifs,0⟩] scope pos) 0 (.ref it) (.ref s2.heap.objs.size) (cV X N scope s3.heap.objs.size s3 H3 fp).env) (Rr (.ref s2.heap.objs.size) s3.heap.objs.size)
   { s3 with heap:=kX,toks:=s3.toks+([]:List (Str×Value)).length }:=by
  refine x2 (fun n s'=>∃ i GC Hc Ec Gc pA qJ,I2 (cV X N scope s3.heap.objs.size s3 H3 fp) [] GC Hc Ec Gc s'/\Gc s2.heap.objs.size=none/\Hc s2.heap.objs.size=some (.lst pA)/\a5 X.K Hc pA qJ/\qJ.length<=i/\Mv X.K H2 G2 Hc Gc/\tn i s'.heap/\(∀ b∈fp,Hc b=none) /\
   n=ds.length - i/\i<=ds.length/\iI g c te ok (ds.drop i) E Ec Gc qJ fun xs G3=>jw G3 (.lst xs) Q) ?_ ds.length
   ⟨0,_,H3,_,G2,[],[],⟨I4,Nl,Jf⟩,Ky,TQ,.nil,aG _,SE,LC,fun b hb=>by rw [Ri b (Ss b hb)]; exact(f2 b hb).1,rfl,bS _,q⟩
  rintro n s4 ⟨i,GC,Hc,Ec,Gc,pA,qJ,Ic,gD,hD,rA,hA,mc,Qp,Rf,rfl,hle,wq⟩;have QJ:Kp H2 Hc:=mc.kp I.ab;by_cases sD:i < ds.length
  ·rw [cZ sD] at wq;obtain⟨OM,wq⟩:=wq;obtain⟨go,yl⟩:=(wk i Hc Gc QJ Ic.ab OM).1 ds[i] (by simp [sD]);refine fG (T.item (cV X N scope s3.heap.objs.size s3 H3 fp) rfl rfl rfl hc i [] s4 GC Hc (fun _ _=>False) Ic.inv (Es Rf) Qp go) ?_;rintro r s5 ⟨u,hr,h5⟩;subst hr;refine fG h5 ?_;rintro _ s6 ⟨x,H6,I6,r6,y6,Ow,T1⟩;obtain⟨R7,m6⟩:=yl x H6 y6;have Vc:=I6.pinned (Es T1) (T.obj _ _ Ow);have J6:I2 (cV X N scope s3.heap.objs.size s3 H3 fp) ([]++nK fp s6.heap) GC H6 Ec Gc s6:=⟨Vc,Ic.st.mono (m6.kp Ic.ab),m6.ab⟩;have back:∀ {Om:L2.St} {H9:Hp} {Nf:gx} {G9:Gp} {s9:ak} {aV:List V} {aD:List D},I2 (cV X N scope s3.heap.objs.size s3 H3 fp) ([]++nK fp s6.heap) Om H9 Nf G9 s9->Mv X.K H2 G2 H9 G9->G9 s2.heap.objs.size=none->H9 s2.heap.objs.size=some (.lst aV)->a5 X.K H9 aV aD->aD.length<=i+1 ->
     (iI g c te ok (ds.drop (i+1)) E Nf G9 aD fun xs G3=>jw G3 (.lst xs) Q)->∃ mm,mm < ds.length - i/\∃ i GC Hc Ec Gc pA qJ,I2 (cV X N scope s3.heap.objs.size s3 H3 fp) [] GC Hc Ec Gc s9/\Gc s2.heap.objs.size=none/\Hc s2.heap.objs.size=some (.lst pA)/\a5 X.K Hc pA qJ/\qJ.length<=i /\
      Mv X.K H2 G2 Hc Gc/\tn i s9.heap/\(∀ b∈fp,Hc b=none)/\mm=ds.length - i/\i<=ds.length/\iI g c te ok (ds.drop i) E Ec Gc qJ fun xs G3=>jw G3 (.lst xs) Q:=fun {Om H9 Nf G9 s9 aV aD} I9 m9 g9 h9 r9 l9 n9=>by
    refine⟨ds.length - (i+1),by lia,i+1,Om,H9,Nf,G9,aV,aD,⟨I9.inv.pO,I9.st,I9.ab⟩,g9,h9,r9,l9,m9,T.keep _ _ _ Ow fun b hb o e=>(I9.inv.pin (b,o) (cz _ (cz _ (lW hb e)))).1,fun b hb=>?_,rfl,sD,n9⟩;obtain⟨o,e,d⟩:=T.obj _ _ Ow b hb;exact(I9.inv.pin (b,o) (cz _ (cz _ (lW hb e)))).2.1
   have SF:=mc.trans m6;have TN:=m6.keep _ _ hD gD;refine fG (hg _ _ _ _ E _ s6 GC H6 Ec Gc x ds[i] u _ (Lk.none P0) J6 r6 R7 wq) ?_;rintro _ s7 ⟨DH,H7,DG,G7,I7,m7,q7⟩;have NP:=m7.keep _ _ TN.1 gD;have QE:=SF.trans m7;have Qu:=rA.mono ((m6.trans m7).kp Ic.ab);have MS:∀ (H8:Hp) (G8:Gp) (s8:ak),I2 (cV X N scope s3.heap.objs.size s3 H3 fp) ([]++nK fp s6.heap) DH H8 DG G8 s8->Mv X.K H7 G7 H8 G8->(te E DG G8 fun y G9=>iI g c te ok (ds.drop (i+1)) E DG G9 (qJ++[y]) fun xs G3=>jw G3 (.lst xs) Q) ->
     wpAny (model X.prog X.w) X.A (eval elt (cV X N scope s3.heap.objs.size s3 H3 fp).env) (fun y CD=>wpAny (model X.prog X.w) X.A (call (.builtin "list.append") [.ref s2.heap.objs.size,y]) (fun _ Eo=>∃ mm,mm < ds.length - i/\∃ i GC Hc Ec Gc pA qJ,I2 (cV X N scope s3.heap.objs.size s3 H3 fp) [] GC Hc Ec Gc Eo/\Gc s2.heap.objs.size=none/\Hc s2.heap.objs.size=some (.lst pA)/\a5 X.K Hc pA qJ/\qJ.length<=i /\
      Mv X.K H2 G2 Hc Gc/\tn i Eo.heap/\(∀ b∈fp,Hc b=none)/\mm=ds.length - i/\i<=ds.length/\iI g c te ok (ds.drop i) E Ec Gc qJ fun xs G3=>jw G3 (.lst xs) Q) (fun _ _=>False) CD) (fun _ _=>False) s8:=fun H8 G8 s8 I8 m8 q8=>by
    refine kQ (he _ _ _ _) (Lk.none P0) I8 q8 fun v H9 d9 G9 u9 s9 I9 m9 r9 R5 q9=>?_;have Pb:=m8.trans m9;have NO:=Pb.keep _ _ NP.1 NP.2;have Sd:=Qu.mono (Pb.kp I7.ab);have QD:=QE.trans Pb;refine fG (wm (X:=cV X N scope s3.heap.objs.size s3 H3 fp) _ s9 DH H9 (.ref s2.heap.objs.size) [v] _ [u9] (fun _ H'=>H'=upd H9 s2.heap.objs.size (.lst (pA++[v]))) I9.inv rfl (.cons r9 .nil)
     ⟨_,pA,v,rfl,rfl,NO.1,by rw [rA.length,sz]; have:SZ=16777216:=rfl; lia,rfl⟩) ?_
    rintro _ Vj ⟨v10,VE,Ve,_,Ut⟩;subst Ut;have Ph:Kp H9 (upd H9 s2.heap.objs.size (.lst (pA++[v]))):=.putL NO.1;have Rm:kA X.K (upd H9 s2.heap.objs.size (.lst (pA++[v]))) G9:=fun a g' e=>by
     have ne:a≠s2.heap.objs.size:=by rintro rfl; rw [NO.2] at e; cases e
     exact(I9.ab a g' e).mono Ph (bM ne)
    have mA:Mv X.K H2 G2 (upd H9 s2.heap.objs.size (.lst (pA++[v]))) G9:=⟨fun a o e n=>by
      have ne:a≠s2.heap.objs.size:=cy e rE;obtain⟨e1,e2⟩:=QD.keep a o e n;exact⟨by rw [bM ne]; exact e1,e2⟩,fun a n=>by
      by_cases ha:a=s2.heap.objs.size
      ·rw [ha,cN]; simp
      ·rw [bM ha]; exact QD.k8 a n,Rm⟩
    exact back ⟨Ve,I9.st.mono Ph,Rm⟩ mA NO.2 cN ((Sd.append (.cons R5 .nil)).mono Ph) (by rw [aP,dg]; lia) q9
   cases hi s3.heap.objs.size s3 H3 fp with
   | none =>
    refine wpAny_tests_nil ?_;rw [if_pos rfl];exact MS H7 G7 s7 I7 (.refl I7.ab) q7
   | some MD =>
    refine wpAny_tests_one (Em MD (Lk.none P0) I7 q7 fun k H8 G8 s8 I8 m8 q8=>?_);cases k with
    | true =>
     rw [if_pos rfl] at q8 ⊢;exact MS H8 G8 s8 I8 m8 q8
    | false =>
     rw [if_neg eK] at q8 ⊢;have Q9:=m8.keep _ _ NP.1 NP.2;exact back I8 (QE.trans m8) Q9.2 Q9.1 (Qu.mono (m8.kp I7.ab)) (by lia) q8
  ·have hn:ds.length<=i:=by lia
   rw [jD hn] at wq;obtain⟨OM,qn⟩:=wq;have stop:=(wk i Hc Gc QJ Ic.ab OM).2 hn;refine fG (T.done (cV X N scope s3.heap.objs.size s3 H3 fp) rfl rfl rfl hc i [] s4 GC Hc (fun _ _=>False) Ic.inv (Es Rf) Qp stop) ?_;rintro r s5 ⟨hr,I5⟩;subst hr;refine fin s3.heap.objs.size s5 ?_;obtain⟨mm,PH,_⟩:=I5.loc;have TU:Hc s3.heap.objs.size=none:=I5.free;have I6:Inv X pins σ Hc s5:=by
    obtain⟨h5,g5,d5,t5,o5⟩:=s5;have eo:o5=s3.os:=I5.os;subst eo;exact I3.call (h':=h5) (g':=g5) (d':=d5) (t':=t5) (ch:=fp) I5.base I5.dA I5.bare fun b hb=>by
     obtain⟨⟨f0,f1,Vx,f3,f4,f5⟩,hl⟩:=Mz b hb;exact⟨f3,f1,f4,f5⟩
   have SD:Mv X.K H2 G2 Hc (cB Gc s2.heap.objs.size (.lst qJ)):=⟨fun a o e n=>by
     have ne:a≠s2.heap.objs.size:=cy e rE;obtain⟨e1,e2⟩:=mc.keep a o e n;exact⟨e1,by rw [cw ne]; exact e2⟩,mc.k8,fun a g' e=>by
     by_cases ha:a=s2.heap.objs.size
     ·subst ha;rw [aC] at e;cases e;exact⟨pA,hD,rA⟩
     ·rw [cw ha] at e;exact Ic.ab a g' e⟩
   exact⟨mm,Hc,_,I6,PH,I3.Ik (aG _) TU,m2.trans SD,qn _ gD⟩
 have all:tP (model X.prog X.w) X.A (.compStart (.ListComp elt [⟨tg,iter,ifs,0⟩] scope pos) 0 (.ref it) (.ref s2.heap.objs.size) (cV X N scope s3.heap.objs.size s3 H3 fp).env) (Rr (.ref s2.heap.objs.size) s3.heap.objs.size)
   { s3 with heap:=kX,toks:=s3.toks+([]:List (Str×Value)).length }:=codeAny_compStart_list loop (T.self _ 0 _ _ _ LC loop)
 subst QP;exact all
end
end K2
end
section
namespace K2
open PySem PySem.Spec PyProof.Rows L2
section
variable {X:Cx} {N:List Str} {scope:Scope} {tg elt iter:Expr} {ifs:List Expr} {pos:Pos} {m:Nat} {fr:List Nat} {wi:KS} {g:wV} {c:Option u5} {te:fQ}
structure vf(X:Cx)(N:List Str)(scope:Scope)(m:Nat)(fr:List Nat):Prop where
 cell:∀ y∈scope.names,y.2≠.cell
 kind:scope.kind=.function
 names:∀ y∈scope.names,y.2=.local->scope.names.lookup y.1=some .local
 free:∀ y∈scope.names,y.2=.free->X.env.kindOf y.1=some .cell
 len:N.length=m+fr.length
 at':∀ j i x,fr[j]?=some i->N[m+j]?=some x->X.N[i]?=some x/\X.env.scope.names.lookup x=some .cell/\(z9 scope X.env).names.lookup x=some .cell
theorem vf.closed{X:Cx}{N:List Str}{scope:Scope}{m:Nat}{fr:List Nat}(k:vf X N scope m fr){pins:List (Addr×Obj)}{σ:L2.St}{H:Hp}{s:ak}(I:Inv X pins σ H s):Ab scope X.env=pure (eX X.env scope.names []) :=
 vV fun y hy hf=>I.ok.has _ (.inl (k.free y hy hf))
theorem CO(hc:X.calm=true)(k:vf X N scope m fr)(hi:KZ X tg iter wi)(hg:∀ C s H fp,DP (cV X N scope C s H fp) tg g)(Km:∀ C s H fp,KY (cV X N scope C s H fp) ifs c)(he:∀ C s H fp,gh (cV X N scope C s H fp) elt te)
  (hs:autoParam (∀ x,kN iter X.env x=pure x) Ai._auto_1):gh X (.ListComp elt [⟨tg,iter,ifs,0⟩] scope pos) (et m fr wi g c te):=by
 intro E pins s σ H τ G Q hE I h;rw [eval_ListComp];refine wpAny_comprehension_free (use:=none) rfl hs (k.closed I.inv) k.kind k.names (fG (hi E pins s σ H τ G _ hE I h) fun xv dS kX=>fG kX fun IU jt AQ=>?_);obtain⟨it,fp,tn,J,H2,G2,ds,ok,e,kz,m2,T,ID,f2,wk,hz,q⟩:=AQ;subst e;refine wL (Rr:=fun acc C=>compPost (model X.prog X.w) X.A X.xe none (oA X pins σ H G Q) acc C) hc k.cell k.kind k.free k.len k.at' hg Km he (I.mv kz m2) m2 T ID f2 wk hz (fun _ _ z=>z) q ?_;rintro C s' ⟨mm,H',G',I',C6,P5,mv,q'⟩;refine⟨mm,C6,fun h' Le=>?_⟩;obtain⟨f0,f1,_,f3,f4,f5⟩:=P5;exact⟨.ref _,H',.ref _,G',I'.turned (t':=s'.toks) (fun b o hb e=>Le.extBut b o hb e) f0 f1 f3 f4 f5,mv,rfl,.ref _,q'⟩
theorem yQ{i:Nat}{y:Str}{py Et:Pos}(hN:X.N.Nodup)(Pp:X.N[i]?=some y)(hy:X.env.scope.names.lookup y=some .local)(hc:X.calm=true)(k:vf X N scope m fr)(hi:KZ X tg iter wi)(hg:∀ C s H fp,DP (cV X N scope C s H fp) tg g)
  (Km:∀ C s H fp,KY (cV X N scope C s H fp) ifs c) (he:∀ C s H fp,gh (cV X N scope C s H fp) elt te) (Pz:autoParam (DW (.ListComp elt [⟨tg,iter,ifs,0⟩] scope pos) (some (.Name y py)) Et.line X.env=pure true) Ar._auto_1)
  (hs:autoParam (∀ x,kN iter X.env x=pure x) Ai._auto_1):Cy X (.Assign [.Name y py] (.ListComp elt [⟨tg,iter,ifs,0⟩] scope pos) Et) (bO (et m fr wi g c te) (aJ i)):=by
 intro E pins s σ H τ G D hE I h;rw [exec_Assign_Name_used _ _ _ _ Pz];refine ar (wpAny_standAt (ar ?_));show wpAny _ X.A (do let _ ← comprehension (.ListComp elt [⟨tg,iter,ifs,0⟩] scope pos) scope X.env _ (newList []) false (eval iter X.env) (some (D4 (.Name y py) X.env))) _ _ s;refine ar (fG (wpAny_comprehension_free (use:=some (D4 (.Name y py) X.env)) (Q:=fun _ s'=>KW X pins H G D .next s') rfl hs (k.closed I.inv) k.kind k.names (fG (hi E pins s σ H τ G _ hE I h) fun xv dS kX=>fG kX fun IU jt AQ=>?_)) fun _ s' hq=>a0 (a0 hq));obtain⟨it,fp,tn,J,H2,G2,ds,ok,e,kz,m2,T,ID,f2,wk,hz,q⟩:=AQ;subst e;refine wL (Rr:=fun acc C=>compPost (model X.prog X.w) X.A X.xe (some (D4 (.Name y py) X.env)) (fun _ s'=>KW X pins H G D .next s') acc C) hc k.cell k.kind k.free k.len k.at' hg Km he (I.mv kz m2) m2 T ID f2 wk hz (fun _ _ z=>z) q ?_;rintro C s' ⟨mm,H',G',I',C6,P5,mv,q'⟩;show wpAny (model X.prog X.w) X.A (D4 (.Name y py) X.env (.ref jt.heap.objs.size)) _ X.xe s';obtain⟨f0,f1,_,f3,f4,f5⟩:=P5;refine wpAny_assign_Name (v8 (v:=.ref jt.heap.objs.size) I' hN Pp (.inl hy) rfl (?_) (.inr hy));rintro s3 I3 ⟨a,NG,ha⟩;have TR:C≠a:=by
  rcases ha with rfl | ha
  ·exact f1
  ·exact fun e=>f4 y a ha e.symm
 refine⟨mm,C6.sameBut NG TR,fun h' Le=>?_⟩;exact⟨_,H',_,G',⟨I3.turned (t':=s3.toks) (fun b o hb e=>Le.extBut b o hb e) f0 f1 f3 f4 f5,(I.st.mono (mv.kp I.ab)).set i (.ref _),mv.ab⟩,mv,q'⟩
theorem rD{i:Nat}{u:x9}{n:Nat}(h:∀ E ds τ G Q,u E ds τ G Q->ds.length=n):∀ E ds τ G Q,r0 (aJ i) u E ds τ G Q->ds.length=n+1 :=
 Dc h (fun _ _ _ _ _ _ q k=>k _ _ q) fun _ _ _ _ q=>q
theorem bu (i:Nat) {x:Str} {pos:Pos} (hN:autoParam (X.N[i]?=some x) Ar._auto_1) (hv:autoParam (NX X.env.scope x) Ao._auto_1) (hd:autoParam ((x == ("__debug__" : Str))=false) Ad._auto_1)
  (yq:autoParam ((x == ("__classdict__" : Str))=false) Ad._auto_1):gh X (.Name x pos) (au i):=Hs hN hv hd yq
theorem range_all(bs:List Bool):(bP bs.length).all (fun i=>bs.getD i true)=bs.all id:=by
 rw [Bool.eq_iff_iff,iS,iS];constructor
 ·intro h b hb;obtain⟨i,hi,e⟩:=c9 hb;have:=h i (List.mem_range.mpr hi);rw [aN,aq hi,e] at this;exact this
 ·intro h i hi;have Ko:=List.mem_range.mp hi;rw [aN,aq Ko];exact h _ (cP Ko)
theorem tY{K:ah}{H:Hp}:∀ {vs:List V} {bs:List Bool} {its:List Value},a5 K H vs (bs.map D.bl)->Vals vs its->its=bs.map vo
 | _,[],_,r,h=>by rw [a7] at r; rw [r.zero] at h; cases h; rfl
 | _,b :: bs,_,r,h=>by
  rw [ay] at r;cases r with
  | cons r1 r2 =>
   cases r1;cases h with
   | cons h1 h2 =>
    cases h1;rw [tY r2 h2]; rfl
theorem uk{pins:List (Addr×Obj)}{s:ak}{σ:L2.St}{H:Hp}{G:Gp}{x:V}{d:D}{v:Value}{zs:List D}(I:Inv X pins σ H s)(ab:kA X.K H G)(rx:RelV x v)(rd:bW X.K H x d)(hi:itemsOf d G=some zs) :
  ∃ l vs its,v=.ref l/\Vals vs its/\a5 X.K H vs zs/\(s.heap.IsList l its.toArray\/s.heap.IsTuple l its.toArray)/\vs.length<=aX:=by
 cases rd with
 | dm hq rs =>
  cases hi;cases rx;obtain⟨its,rv,pl,hz⟩:=I.list hq.sq;exact⟨_,_,its,rfl,rv,rs,.inl pl.isList,hz⟩
 | tup hq rs =>
  cases hi;cases rx;obtain⟨its,rv,pl,hz⟩:=I.tuple (.of hq);exact⟨_,_,its,rfl,rv,rs,.inr pl,hz⟩
 | ref l =>
  unfold itemsOf at hi;dsimp only at hi;cases hg:G l with
  | none=>rw [hg] at hi; cases hi
  | some gg =>
   rw [hg] at hi;cases gg with
   | lst ds =>
    cases hi;cases rx;obtain⟨vs,hv,rs⟩:=ab.lst hg;obtain⟨its,rv,pl,hz⟩:=I.list (.of hv);exact⟨_,_,its,rfl,rv,rs,.inl pl.isList,hz⟩
   | iV _=>cases hi
 | _=>cases hi
theorem Dq (hc:X.calm=true):oe X (.builtin "all") KJ:=by
 intro pins s σ H G xs ds us Q I ab rx rd q;unfold KJ at q;split at q
 ·rename_i x;obtain⟨bs,hb,q⟩:=q;obtain⟨v,rfl,r⟩:=rd.one;obtain⟨u,rfl,ru⟩:=rx.one;obtain⟨l,vs,its,rfl,rv,rs,hl,hz⟩:=uk I ab ru r hb;have ei:=tY rs rv;have hlen:its.length=bs.length:=by rw [ei,af]
  have lG:∀ {o:Obj},s.heap.get? l=some o->l≠s.heap.objs.size:=fun e=>bh (aL e);have tr:TruthOf X.prog X.w X.A.in1 (fun i v=>its.toArray[i]?=some v) (fun i=>bs.getD i true):=fun i v s' Q' E' hv hq=>by
   subst ei;have Mb:(bs.map vo)[i]?=some v:=by simpa using hv
   rw [cT] at Mb;cases PU:bs[i]? with
   | none=>rw [PU] at Mb; cases Mb
   | some b =>
    rw [PU] at Mb;cases Mb;dsimp only at hq;rw [aN,PU] at hq;exact iP hq
  have fin:∀ h' tk,(∀ b o,b∉[s.heap.objs.size]->s.heap.get? b=some o->h'.get? b=some o)->oA X pins σ H G Q (.bool ((bP its.toArray.size).all fun i=>bs.getD i true)) { s with heap:=h',toks:=tk }:=fun h' tk hk=>by
   rw [aI,hlen,range_all];exact⟨.bl _,H,.bl _,G,I.kept fun b o e=>hk b o (by simpa using bh (aL e)) e,.refl ab,rfl,.bl _,q⟩
  rcases hl with hl | hl
  ·refine call_all_walk (pH hl ?_);obtain⟨o,ho,xI,n,hd⟩:=id hl;exact⟨s.heap.objs.size,_,_,_,_,_,_,rfl,Bl (A:=X.A.in1) (show X.A.in1.handled=none from I.ok.hd hc) _ l (lG ho) its.toArray,⟨⟨_,ba _ rfl,rfl,rfl⟩,⟨o,ax _ ho,xI,n,hd⟩⟩,tr,fun h' tk hk=>fin h' tk fun b o hb e=>hk b o hb (ax _ e)⟩
  ·refine call_all_walk (yv hl ?_);obtain⟨o,ho,xI,n,hd⟩:=id hl;exact⟨s.heap.objs.size,_,_,_,_,_,_,rfl,Walks.tuple (A:=X.A.in1) (show X.A.in1.handled=none from I.ok.hd hc) _ l (lG ho) its.toArray,⟨⟨_,ba _ rfl,rfl,rfl⟩,⟨o,ax _ ho,xI,n,hd⟩⟩,tr,fun h' tk hk=>fin h' tk fun b o hb e=>hk b o hb (ax _ e)⟩
 ·exact q.elim
theorem EO{body:List Stmt}{t2:gW}(h:rN X body t2){E:ke}(hE:Lk X E):Lo X body (fun D σ H=>∃ (τ:gx) (G:Gp) (D2:jB),GJ X.K H σ τ/\kA X.K H G/\t2 E D2 τ G /\
  (∀ hW H' mx G',Mv X.K H G H' G'->D2.nx mx G'->D.nx hW H')/\(∀ v H' d G',Mv X.K H G H' G'->bW X.K H' v d->D2.rt d G'->D.rt v H')/\(∀ τ G,¬ D2.bk τ G)/\(∀ τ G,¬ D2.ct τ G)):=by
 rintro pins s σ H D I ⟨τ,G,D2,st,ab,q,k1,k2,k3,k4⟩;refine fG (h E pins s σ H τ G D2 hE ⟨I,st,ab⟩ q) fun f s1 z=>?_;cases f with
 | next=>obtain⟨hW,H',mx,G',J,mv,z⟩:=z; exact⟨hW,H',J.inv,k1 hW H' mx G' mv z⟩
 | brk=>obtain⟨hW,H',mx,G',J,mv,z⟩:=z; exact(k3 _ _ z).elim
 | cont=>obtain⟨hW,H',mx,G',J,mv,z⟩:=z; exact(k4 _ _ z).elim
 | ret u=>obtain⟨v,hW,H',d,G',J,mv,r,rd,z⟩:=z; exact⟨v,hW,H',J,r,k2 v H' d G' mv rd z⟩
theorem yD{K:ah}{H:Hp}{Nn:List Str}{vs:List V}{ds:List D}(r:a5 K H vs ds):GJ K H (L2.start Nn vs) (bg Nn.length ds):=by
 unfold L2.start bg;refine⟨by simp [r.length],fun i d h=>?_⟩;by_cases hi:i < ds.length
 ·rw [bF (by simpa using hi),cT] at h;cases hd:ds[i]? with
  | none=>rw [hd] at h; cases h
  | some d' =>
   rw [hd] at h;have e:d'=d:=by simpa using h
   subst e;obtain⟨v,h1,h2⟩:=r.get hd;refine⟨v,?_,h2⟩;rw [bF (by simpa [r.length] using hi),cT,h1]; rfl
 ·rw [bL (by simpa using hi),jn] at h;split at h <;> cases h
theorem Ii{P:bC}{w:World}{K:ah}{mg:Str->Option Value}{base:Heap}{x qual:Str}{st:Stmt}{f:Addr}{fd:aB}{Nn ps:List Str}{k:Nat}{sp:mq}{rd:gW}(F:mP K x qual st f fd)(S:bV Nn ps (aR st))(len:∀ ds G Q E,sp ds G Q E->ds.length=ps.length)
  (hr:∀ ds G Q,sp ds G Q (fun _ _=>False)->rd (fun _ _=>False) (ends Q) (bg Nn.length ds) G)
  (hb:∀ (jA:Value) (A:cF) (outer:List Env) (s:ak) (H:Hp) (E:XK),iM k (A.deeper (tO qual (aR st) s.heap.objs.size f jA))->rN (uY fV P w K mg base Nn qual (aR st) f jA A outer s H E).GF (gG st) rd):fB P w K mg base fV (k+1) f fd ps (da K sp):=by
 refine F.ok S ((by rintro vs H Q E ⟨ds,G,Q2,r,ab,q,_⟩; exact by rw [r.length]; exact len _ _ _ _ q)) ?_;rintro jA A outer s H vs Q E Fq ⟨ds,G,Q2,r,ab,q,kk⟩;refine⟨_,EO (hb jA A outer s H E Fq) (E:=fun _ _=>False) (Lk.none fun _ _ z=>z),?_⟩;exact⟨bg Nn.length ds,G,ends Q2,yD r,ab,hr ds G Q2 q,fun hW H' mx G' mv z=>kk _ _ _ _ z mv .cR,fun v H' d G' mv LN z=>kk _ _ _ _ z mv LN,fun _ _ z=>z,fun _ _ z=>z⟩
section
variable {prog:bC} {w:World} {A:cF} {R:Result->ak->Prop} {N1:Addr} {fq wr:List Addr} {n:Nat} {P:Nat->Value->Prop} {Sx:Nat->Heap->Prop}
theorem JV(W:Walks prog w A.in1 N1 fq wr n P Sx)(bt:Nat->Nat->Bool)(T:Heap->Prop)(B:Addr)(hB:B∉fq)(hT:∀ h h',T h->(∀ b o,b∉wr->b≠B->h.get? b=some o->h'.get? b=some o)->T h')
  (cmp:∀ i j x y s (Q:Value->ak->Prop) (E:Value->ak->Prop),T s.heap->P i x->P j y->Q (.bool (bt i j)) s->wpAny (model prog w) A.in1 (kM .Lt x y) Q E s) :
  ∀ (k j:Nat) (s:ak) (best:Value) (cc:Nat),n - (j+1)=k->j+1<=n->Sx (j+1) s.heap->T s.heap->P (mV bt j) best ->
  s.heap.get? B=some { cls:=.type "list",dict:=none,data:=.seq #[best,best] cc,slots:=#[] } ->
  (∀ v h' tk,P (mV bt (n - 1)) v->(∀ b o,b∉wr->b≠B->s.heap.get? b=some o->h'.get? b=some o)->R (.ok (.ret v)) { s with heap:=h',toks:=tk }) ->
  tP (model prog w) A (.builtin "min.loop" ⟨[.ref N1,.none,.ref B],[]⟩) R s:=by
 have Ra:B∉wr:=fun z=>hB (W.sub _ z);have nm:(toString "min"++toString ".loop" : String) = "min.loop":=by decide
 intro k;induction k with
 | zero =>
  intro j s best cc hk hj hs ht hp hb hR;have ej:j+1=n:=by lia
  refine gj Am ?_; rw [dw gN _];show wpAny _ A.in1 (yw (.ref B) >>= _) _ _ s; refine ar (jc hb rfl ?_);show wpAny _ A.in1 (tryCatch (DY (.ref N1)) _ >>= _) _ _ s; refine ar (e9 (W.done s _ _ (ej ▸ hs) fun h' tk kept=>?_));have AU:=kept B _ Ra hb;show wpAny _ A.in1 (DU B (fun _=>#[]) >>= _) _ _ _; refine ar ?_;refine gi AU rfl (ar (jq (a0 ?_)));exact hR best _ tk (by rw [<-ej]; exact hp) fun b o z1 z2 e=>(cg _ _ (mr z2)).trans (kept b o z1 e)
 | succ k ih =>
  intro j s best cc hk hj hs ht hp hb hR;have lt:j+1 < n:=by lia
  refine gj Am ?_; rw [dw gN _];show wpAny _ A.in1 (yw (.ref B) >>= _) _ _ s; refine ar (jc hb rfl ?_);show wpAny _ A.in1 (tryCatch (DY (.ref N1)) _ >>= _) _ _ s; refine ar (e9 (W.item (j+1) s _ _ lt hs fun v h' tk pv zW kept=>?_));have AU:=kept B _ Ra hb;have Ld:T h':=hT _ _ ht fun b o z1 _ e=>kept b o z1 e;show wpAny _ A.in1 (tryCatch (Aa [v,v] (kM .Lt v best >>= _)) _ >>= _) _ _ _;refine ar (e9 (dQ (ar (cmp (j+1) (mV bt j) v best _ _ _ Ld pv hp ?_)))); refine ar (dQ (iP ?_)); refine ar (jq (a0 ?_));cases Q4:bt (j+1) (mV bt j) with
  | true =>
   simp only [if_true]; refine ar ?_;refine gi AU rfl (ar (jq ?_)); rw [nm];refine a0 ⟨e6 gN _,ih (j+1) _ v _ (by lia) lt (W.frame _ _ _ zW fun b z o e=>?_) (hT _ _ Ld fun b o _ z2 e=>?_) (by simp only [mV,Q4,if_true]; exact pv) (kh _ AU rfl) fun v' MM El LR kk=>?_⟩
   ·exact(cg _ _ (fun z':B=b=>hB (by rw [z']; exact z))).trans e
   ·exact(cg _ _ (mr z2)).trans e
   ·exact hR v' MM El LR fun b o z1 z2 e=>kk b o z1 z2 ((cg _ _ (mr z2)).trans (kept b o z1 e))
  | false =>
   simp only [aw,if_false]; refine ar (jq ?_); rw [nm];refine a0 ⟨e6 gN _,ih (j+1) _ best cc (by lia) lt zW Ld (by simp only [mV,Q4,aw,if_false]; exact hp) AU fun v' MM El LR kk=>?_⟩;exact hR v' MM El LR fun b o z1 z2 e=>kk b o z1 z2 (kept b o z1 e)
end
theorem yY{prog:bC}{w:World}{A:cF}{E:Value->ak->Prop}{s:ak}{x:Value}{Q:Value->ak->Prop}
  (h:wpAny (model prog w) A.in1 (pyIter x) (fun it jt=>∃ (I:Addr) (fq wr:List Addr) (n:Nat) (P:Nat->Value->Prop) (Sx:Nat->Heap->Prop) (bt:Nat->Nat->Bool) (T:Heap->Prop),it=.ref I/\Walks prog w A.in1 I fq wr n P Sx/\Sx 0 jt.heap/\(∀ b∈fq,b < jt.heap.objs.size)/\0 < n/\T jt.heap/\(∀ (h h':Heap) (B:Addr),jt.heap.objs.size<=B->T h->(∀ b o,b∉wr->b≠B->h.get? b=some o->h'.get? b=some o)->T h') /\
   (∀ i j x y s (Q:Value->ak->Prop) (E:Value->ak->Prop),T s.heap->P i x->P j y->Q (.bool (bt i j)) s->wpAny (model prog w) A.in1 (kM .Lt x y) Q E s) /\
   ∀ v h' tk,P (mV bt (n - 1)) v->(∀ b o,b∉wr->jt.heap.get? b=some o->h'.get? b=some o)->Q v { jt with heap:=h',toks:=tk }) E s) :
  wpAny (model prog w) A (call (.builtin "min") [x]) Q E s:=by
 have nm:(toString "min"++toString ".loop" : String) = "min.loop":=by decide
 refine call_function_tree F.kind_min F.plain_min F.entry_min (F.args_min1 _) ?_;show wpAny _ A.in1 (jo "min" ["key","default"] 0 ⟨[],[]⟩ >>= _) _ _ s; refine ar (wpAny_of_eq (show jo "min" ["key","default"] 0 ⟨[],[]⟩=pure [none,none] from rfl) ?_);refine ar (a0 ?_); refine ar (pI h (fun it jt AQ=>?_) fun _ _ e=>e);obtain⟨I,fq,wr,n,P,Sx,bt,T,rfl,W,Md,MA,hn,ht,hT,cmp,hQ⟩:=AQ;refine ar (iQ ?_);have MK:jt.heap.objs.size∉fq:=fun z=>fF _ (MA _ z);have TL:jt.heap.objs.size∉wr:=fun z=>MK (W.sub _ z);rw [nm];generalize hh:jt.heap.push { cls:=.type "list",data:=.seq ([]:List Value).toArray } = hp;have hb:hp.get? jt.heap.objs.size=some { cls:=.type "list",dict:=none,data:=.seq #[] 0,slots:=#[] }:=by rw [<-hh]; exact ba _ rfl
 have old:∀ b o,jt.heap.get? b=some o->hp.get? b=some o:=fun b o e=>by rw [<-hh]; exact ax _ e
 have Qq:Sx 0 hp:=W.frame _ _ _ Md fun b _ o e=>old b o e;have S1:T hp:=hT _ _ _ (aG _) ht fun b o _ _ e=>old b o e;refine a0 ⟨e6 gN _,?_⟩;refine gj Am ?_; rw [dw gN _];show wpAny _ A.in1 (yw (.ref jt.heap.objs.size) >>= _) _ _ _; refine ar (jc hb rfl ?_);show wpAny _ A.in1 (tryCatch (DY (.ref I)) _ >>= _) _ _ _; refine ar (e9 (W.item 0 _ _ _ hn Qq fun v h' tk pv zW kept=>?_));have AU:=kept _ _ TL hb;show wpAny _ A.in1 (DU jt.heap.objs.size (fun _=>#[v,v]) >>= _) _ _ _; refine ar ?_;refine gi AU rfl ?_; rw [nm];refine a0 ⟨e6 gN _,JV W bt T _ MK (fun h h'=>hT h h' _ (aG _)) cmp _ 0 _ v _ rfl hn (W.frame _ _ _ zW fun b z o e=>?_) (hT _ _ _ (aG _) (hT _ _ _ (aG _) S1 fun b o z1 _ e=>kept b o z1 e) fun b o _ z2 e=>?_) pv (kh _ AU rfl) fun v' MM El LR kk=>?_⟩
 ·exact(cg _ _ (fun z':jt.heap.objs.size=b=>MK (by rw [z']; exact z))).trans e
 ·exact(cg _ _ (mr z2)).trans e
 ·refine hQ v' MM El LR fun b o z1 e=>?_;have nb:b≠jt.heap.objs.size:=bh (aL e);exact kk b o z1 nb ((cg _ _ (mr nb)).trans (kept b o z1 (old b o e)))
theorem zL{α:Type}(lt:α->α->Bool)(l:List α)(a:α)(f:Nat->α)(hf:∀ i,i < l.length+1->f i=(a :: l).getD i a) :
  f (mV (fun i j=>lt (f i) (f j)) l.length)=l.foldl (fun m x=>if lt x m=true then x else m) a:=by
 have key:∀ k,k<=l.length->f (mV (fun i j=>lt (f i) (f j)) k)=(l.take k).foldl (fun m x=>if lt x m=true then x else m) a:=by
  intro k;induction k with
  | zero=>intro _; rw [mV,hf 0 (by lia)]; rfl
  | succ k ih =>
   intro hk;have SM:=ih (by lia);rw [List.take_succ_eq_append_getElem (by lia),oh,<-SM];have e:f (k+1)=l[k]:=by
    rw [hf (k+1) (by lia),aN];simp [show k < l.length by lia]
   show f (if lt (f (k+1)) (f (mV _ k))=true then k+1 else mV _ k)=(if lt l[k] _=true then l[k] else _);rw [<-e];split <;> rfl
 rw [key l.length (aG _),List.take_length]
theorem Dp (hc : X.calm = true) (hu : X.A.units + 64 < cLine) : oe X (.builtin "min") Ge := by
  intro pins s σ H G xs ds us Q I ab rx rd q;unfold Ge at q;split at q
  · rename_i x
    obtain⟨v, rfl, r⟩ := rd.one;obtain⟨u, rfl, ru⟩ := rx.one;have main : ∀ {α : Type} (zs : List α) (a : α) (enc : α -> D) (lt : α -> α -> Bool) (T : Heap -> Prop), itemsOf x G = some ((a :: zs).map enc) -> T s.heap -> (∀ (h h' : Heap) (B : Addr), s.heap.objs.size ≤ B -> T h -> (∀ b o, b < s.heap.objs.size -> b ≠ B -> h.get? b = some o -> h'.get? b = some o) -> T h') ->
        (∀ y z vy vz uy uz (s' : ak) (Q' : Value -> ak -> Prop) (E' : Value -> ak -> Prop), T s'.heap -> bW X.K H vy (enc y) -> RelV vy uy -> bW X.K H vz (enc z) -> RelV vz uz -> Q' (.bool (lt y z)) s' -> wpAny (model X.prog X.w) X.A.in1 (kM .Lt uy uz) Q' E' s') ->
        Q (enc (zs.foldl (fun m x => if lt x m = true then x else m) a)) G -> wpAny (model X.prog X.w) X.A (call (.builtin "min") [u]) (oA X pins σ H G Q) X.xe s := by
      intro α zs a enc lt T hi ht hT cmp hq;obtain⟨l, vs, its, rfl, rv, rs, hl, hz⟩ := uk I ab ru r hi;have hlen : its.length = zs.length + 1 := by rw [<-rv.length, rs.length, af, ai]
      have lG : ∀ {o : Obj}, s.heap.get? l = some o -> l ≠ s.heap.objs.size := fun e => bh (aL e);have at_ : ∀ i uu, its.toArray[i]? = some uu -> ∃ vv, RelV vv uu ∧ bW X.K H vv (enc ((a :: zs).getD i a)) := fun i uu e => by
        have e' : its[i]? = some uu := by simpa using e
        have Ko : i < its.length := (List.getElem?_eq_some_iff.mp e').1;have hd : ((a :: zs).map enc)[i]? = some (enc ((a :: zs).getD i a)) := by
          rw [cT, aN];cases h9 : (a :: zs)[i]? with
          | none => rw [List.getElem?_eq_none_iff] at h9; simp at h9; lia
          | some z => rfl
        obtain⟨vv, h1, h2⟩ := rs.get hd;obtain⟨Vh, h3, h4⟩ := rv.get h1;rw [e'] at h3;cases h3;exact⟨vv, h4, h2⟩
      have MW : ∀ i j p9 q9 s' (Q' : Value -> ak -> Prop) (E' : Value -> ak -> Prop), T s'.heap -> its.toArray[i]? = some p9 -> its.toArray[j]? = some q9 -> Q' (.bool (lt ((a :: zs).getD i a) ((a :: zs).getD j a))) s' -> wpAny (model X.prog X.w) X.A.in1 (kM .Lt p9 q9) Q' E' s' := fun i j p9 q9 s' Q' E' t' h1 h2 h3 => by
        obtain⟨v1, r1, d1⟩ := at_ i p9 h1;obtain⟨v2, r2, d2⟩ := at_ j q9 h2;exact cmp _ _ v1 v2 p9 q9 s' Q' E' t' d1 r1 d2 r2 h3
      have fin : ∀ vv h' tk, its.toArray[mV (fun i j => lt ((a :: zs).getD i a) ((a :: zs).getD j a)) (its.toArray.size - 1)]? = some vv -> (∀ b o, b ∉ [s.heap.objs.size] -> s.heap.get? b = some o -> h'.get? b = some o) -> oA X pins σ H G Q vv { s with heap := h', toks := tk } := fun vv h' tk e hk => by
        obtain⟨v1, r1, d1⟩ := at_ _ vv e;have es : its.toArray.size - 1 = zs.length := by rw [aI]; lia
        rw [es, zL lt zs a (fun i => (a :: zs).getD i a) (fun i _ => rfl)] at d1;exact⟨v1, H, _, G, I.kept fun b o e => hk b o (by simpa using bh (aL e)) e, .refl ab, r1, d1, hq⟩
      have HZ : 0 < its.toArray.size := by rw [aI]; lia
      have Q6 : ∀ (oo : Obj), T (s.heap.push oo) := fun oo => hT _ _ (s.heap.objs.size + 1) (oZ _) ht fun b o hb _ e => ax _ e;have Q7 : ∀ (oo : Obj) (h h' : Heap) (B : Addr), (s.heap.push oo).objs.size ≤ B -> T h -> (∀ b o, b ∉ [s.heap.objs.size] -> b ≠ B -> h.get? b = some o -> h'.get? b = some o) -> T h' := fun oo h h' B hB t kk => hT h h' B (by rw [iO] at hB; exact Nat.le_of_succ_le hB) t fun b o hb hn e => kk b o (by simpa using bh hb) hn e;rcases hl with hl | hl
      · refine yY (pH hl ?_)
        obtain⟨o, ho, xI, n, hd⟩ := id hl;exact⟨s.heap.objs.size, _, _, _, _, _, _, T, rfl, Bl (A := X.A.in1) (show X.A.in1.handled = none from I.ok.hd hc) _ l (lG ho) its.toArray, ⟨⟨_, ba _ rfl, rfl, rfl⟩, ⟨o, ax _ ho, xI, n, hd⟩⟩,
          fun b hb => by rcases (by simpa using hb : b = s.heap.objs.size ∨ b = l) with rfl | rfl
                         · rw [iO]; exact pD _
                         · rw [iO]; exact oD (aL ho), HZ, Q6 _, Q7 _, MW, fun vv h' tk e hk => fin vv h' tk e fun b o hb e => hk b o hb (ax _ e)⟩
      · refine yY (yv hl ?_)
        obtain⟨o, ho, xI, n, hd⟩ := id hl;exact⟨s.heap.objs.size, _, _, _, _, _, _, T, rfl, Walks.tuple (A := X.A.in1) (show X.A.in1.handled = none from I.ok.hd hc) _ l (lG ho) its.toArray, ⟨⟨_, ba _ rfl, rfl, rfl⟩, ⟨o, ax _ ho, xI, n, hd⟩⟩,
          fun b hb => by rcases (by simpa using hb : b = s.heap.objs.size ∨ b = l) with rfl | rfl
                         · rw [iO]; exact pD _
                         · rw [iO]; exact oD (aL ho), HZ, Q6 _, Q7 _, MW, fun vv h' tk e hk => fin vv h' tk e fun b o hb e => hk b o hb (ax _ e)⟩
    rcases q with ⟨ns, mm, hi, hm, q⟩ | ⟨Nu, mm, hi, hm, q⟩
    · cases ns with
      | nil => cases hm
      | cons a zs =>
        cases hm;have e : (fun m x : Int => if x < m then x else m) = fun m x => if decide (x < m) = true then x else m := by funext m x; simp
        rw [e] at q;refine main zs a D.int (fun x y => decide (x < y)) (fun _ => True) hi trivial (fun _ _ _ _ _ _ => trivial) (fun y z vy vz uy uz s' Q' E' _ d1 r1 d2 r2 hq => ?_) q;cases d1;cases d2;obtain⟨t1, rfl⟩ := r1;obtain⟨t2, rfl⟩ := r2;exact HT.t4 X.A.in1 s' y t1 z t2 X.prog X.w E' Q' hq
    · cases Nu with
      | nil => cases hm
      | cons a zs =>
        cases hm;have el : ∀ xs ys : List Int, HT.lexLt xs ys = K2.lexLt xs ys := by
          intro xs;induction xs with
          | nil => intro ys; cases ys <;> rfl
          | cons x xs ih => intro ys; cases ys with
            | nil => rfl
            | cons y ys => unfold HT.lexLt K2.lexLt; rw [ih]
        refine main zs a tI K2.lexLt (fun h => ∀ b o, b < s.heap.objs.size -> s.heap.get? b = some o -> h.get? b = some o) hi (fun b o _ e => e) (fun h h' B hB t kk b o hb e => kk b o hb (bh (a8 hb hB)) (t b o hb e)) (fun y z vy vz uy uz s' Q' E' t' d1 r1 d2 r2 hq => ?_) q;cases d1 with
        | tup h1 R1 =>
          cases d2 with
          | tup h2 ED =>
            cases r1;cases r2;have z1 := R1.ints;have z2 := ED.ints;subst z1 z2;obtain⟨L7, RX, ⟨o1, QT, TC, n1, MC⟩, _⟩ := I.tuple (.of h1);obtain⟨rB, IG, ⟨o2, wC, uG, n2, hd2⟩, _⟩ := I.tuple (.of h2);have p1 : IsTup s'.heap _ L7.toArray := ⟨o1, t' _ _ (aL QT) QT, TC, n1, MC⟩;have p2 : IsTup s'.heap _ rB.toArray := ⟨o2, t' _ _ (aL wC) wC, uG, n2, hd2⟩;rw [<-el] at hq;have i1 : jT L7.toArray.toList y := intsAre_of RX;have i2 : jT rB.toArray.toList z := intsAre_of IG;exact(HT.uh p1 p2 i1 i2 (show X.A.units + 1 < cLine by lia) hq : wpAny (model X.prog X.w) X.A.in1 (cX .Lt _ _) Q' E' s')
  · exact q.elim
noncomputable def OC(scope sc:Scope):List (Str×oK):=scope.names.map fun (n,k)=>if (k == .free&&sc.kind == .function&&sc.names.lookup n == some .cell) then (n,.cell) else (n,k)
noncomputable def tE(N:List Str)(scope:Scope)(m:Nat)(fr:List Nat)(sc:Scope)(XN:List Str):Bool :=
 scope.names.all (fun y=>decide (y.2≠.cell))&&decide (scope.kind=.function)&&scope.names.all (fun y=>!decide (y.2=.local)||decide (scope.names.lookup y.1=some .local)) &&
 scope.names.all (fun y=>!decide (y.2=.free)||decide (sc.names.lookup y.1=some .cell))&&decide (N.length=m+fr.length) &&
 (bP fr.length).all (fun j=>match fr[j]?,N[m+j]? with
  | some i,some x=>decide (XN[i]?=some x)&&decide (sc.names.lookup x=some .cell)&&decide ((OC scope sc).lookup x=some .cell)
  | _,_=>false)
theorem wM{sc:Scope}{XN:List Str}(Me:X.env.scope=sc)(MH:X.N=XN)(hb:tE N scope m fr sc XN=true):vf X N scope m fr:=by
 subst Me MH;unfold tE at hb;simp only [aK] at hb;obtain⟨⟨⟨⟨⟨h1,h2⟩,h3⟩,h4⟩,h5⟩,h6⟩:=hb;refine⟨fun y hy=>of_decide_eq_true (List.all_eq_true.mp h1 y hy),of_decide_eq_true h2,fun y hy hl=>?_,fun y hy hl=>?_,of_decide_eq_true h5,fun j i x e1 e2=>?_⟩
 ·have:=List.all_eq_true.mp h3 y hy;simp only [hl,decide_true,bK,DE] at this;exact of_decide_eq_true this
 ·have:=List.all_eq_true.mp h4 y hy;simp only [hl,decide_true,bK,DE] at this;exact of_decide_eq_true this
 ·have hj:j < fr.length:=(List.getElem?_eq_some_iff.mp e1).1;have:=List.all_eq_true.mp h6 j (List.mem_range.mpr hj);rw [e1,e2] at this;simp only [aK] at this;exact⟨of_decide_eq_true this.1.1,of_decide_eq_true this.1.2,of_decide_eq_true this.2⟩
theorem gT(N:List Str){sc:Scope}{XN:List Str}(hi:KZ X tg iter wi)(hg:∀ C s H fp,DP (cV X N scope C s H fp) tg g)(Km:∀ C s H fp,KY (cV X N scope C s H fp) ifs c)(he:∀ C s H fp,gh (cV X N scope C s H fp) elt te)
  (Me:autoParam (X.env.scope=sc) Ar._auto_1) (MH:autoParam (X.N=XN) Ar._auto_1) (hb:autoParam (tE N scope m fr sc XN=true) Ak._auto_1) (hc:autoParam (X.calm=true) Ar._auto_1) (hs:autoParam (∀ x,kN iter X.env x=pure x) Ai._auto_1):gh X (.ListComp elt [⟨tg,iter,ifs,0⟩] scope pos) (et m fr wi g c te) :=
 CO hc (wM Me MH hb) hi hg Km he hs
theorem qf(N:List Str){sc:Scope}{XN:List Str}{i:Nat}{y:Str}{py Et:Pos}(hN:X.N.Nodup)(Pp:X.N[i]?=some y)(hy:X.env.scope.names.lookup y=some .local)(hi:KZ X tg iter wi)(hg:∀ C s H fp,DP (cV X N scope C s H fp) tg g)
  (Km:∀ C s H fp,KY (cV X N scope C s H fp) ifs c) (he:∀ C s H fp,gh (cV X N scope C s H fp) elt te) (Me:autoParam (X.env.scope=sc) Ar._auto_1) (MH:autoParam (X.N=XN) Ar._auto_1) (hb:autoParam (tE N scope m fr sc XN=true) Ak._auto_1) (hc:autoParam (X.calm=true) Ar._auto_1)
  (Pz:autoParam (DW (.ListComp elt [⟨tg,iter,ifs,0⟩] scope pos) (some (.Name y py)) Et.line X.env=pure true) Ar._auto_1) (hs:autoParam (∀ x,kN iter X.env x=pure x) Ai._auto_1) :
  Cy X (.Assign [.Name y py] (.ListComp elt [⟨tg,iter,ifs,0⟩] scope pos) Et) (bO (et m fr wi g c te) (aJ i)) :=
 yQ hN Pp hy hc (wM Me MH hb) hi hg Km he Pz hs
end
end K2
end
section
namespace K2
open PySem PySem.Spec PyProof.Rows L2
noncomputable def Ga:HO->Bool
 | .lst _=>true
 | .dK _=>true
 | .dT _=>true
 | _=>false
noncomputable def ly(h:Heap)(S:Addr->Bool)(H:Hp):Hp:=fun a=>match H a with
 | some u=>if (Ga u&&S a)=true then (match h.get? a with
  | some o=>some (.lH o u)
  | none=>some u) else some u
 | none=>none
section
variable {h:Heap} {S:Addr->Bool} {H:Hp} {a:Addr}
theorem AX(n:∀ u,H a=some u->Ga u=false):ly h S H a=H a:=by
 unfold ly;cases e:H a with
 | none=>rfl
 | some u=>simp only [n u e,Bp,aw,if_false]
theorem uJ(hs:S a=false):ly h S H a=H a:=by
 unfold ly;cases e:H a with
 | none=>rfl
 | some u=>simp only [hs,Bq,aw,if_false]
theorem tw{u:HO}{o:Obj}(hs:S a=true)(e:H a=some u)(hu:Ga u=true)(ho:h.get? a=some o):ly h S H a=some (.lH o u):=by
 unfold ly;simp only [e,hs,hu,Bool.and_self,if_true,ho]
theorem lx(e:H a=none):ly h S H a=none:=by unfold ly; rw [e]
theorem kD{u:HO}(e:H a=some u)(hu:Ga u=false):ly h S H a=some u:=by rw [AX (fun v z=>by rw [e] at z; cases z; exact hu)]; exact e
theorem qy:Kp H (ly h S H):=⟨fun a xs e=>kD e rfl,fun a o u e=>kD e rfl⟩
end
section
variable {X:Cx} {pins:List (Addr×Obj)} {σ:L2.St} {H:Hp} {s:ak} {G:Gp}
theorem Inv.freeze(I : Inv X pins σ H s)(S : Addr -> Bool) : Inv X pins σ (ly s.heap S H) s where
  ok := I.ok
  os := I.os
  bare := I.bare
  base := { keep := I.base.keep, slot := I.base.slot, there := I.base.there
            free := fun b o q n hx => lx (I.base.free b o q n hx)
            vt := fun b xs q => kD (I.base.vt b xs q) rfl
            uI := fun b o u q => kD (I.base.uI b o u q) rfl
            qX := fun b ps q => kD (I.base.qX b ps q) rfl }
  loc := I.loc
  cell := I.cell
  free := lx I.free
  mG := fun x c e => lx (I.mG x c e)
  pin := fun p hp => let ⟨h1, h2, h3⟩ := I.pin p hp; ⟨h1, lx h2, h3⟩
  dA := fun a o q => by
    have st : ∀ u, H a = some u -> fR X.prog X.w (ly s.heap S H) s.heap a u := fun u e =>
      (I.dA a u e).k8 (fun b v _ r => r) (fun b r => kD r rfl) (fun b xs r => kD r rfl)
    cases e : H a with
    | none => rw [lx e] at q; cases q
    | some u =>
      by_cases hc : Ga u = true
      · by_cases hs : S a = true
        · obtain⟨ob, ho⟩ := lq (I.dA a _ e)
          rw [tw hs e hc ho] at q;cases q;exact⟨ho, st _ e⟩
        · rw [uJ (by simpa using hs), e] at q
          cases q;exact st _ e
      · rw [kD e (by simpa using hc)] at q
        cases q;exact st _ e
  len := I.len
noncomputable def mz(R:Nat->Bool)(G:Gp):Addr->Bool:=fun a=>R a&&(G a).isSome
theorem wI(I:Inv X pins σ H s)(ab:kA X.K H G)(R:Nat->Bool):Mv X.K H G (ly s.heap (mz R G) H) (vO R G) where
 keep:=fun a o e n=>by
  refine⟨by rw [uJ (by simp [mz,n])]; exact e,?_⟩;unfold vO; split
  ·rfl
  ·exact n
 k8:=fun a n=>by
  cases q:G a with
  | none=>exact absurd q n
  | some g =>
   have t:=(ab a g q).tracked;cases e:H a with
   | none=>exact absurd e t
   | some u =>
    unfold ly;rw [e];dsimp only;split
    ·split <;> simp
    ·simp
 ab:=fun a g e=>by
  unfold vO at e;split at e
  ·cases e
  ·rename_i hr;exact(ab a g e).mono qy (uJ (by simp [mz,hr]))
theorem FH(I:Inv X pins σ H s)(ab:kA X.K H G){R:Nat->Bool}:∀ {d t:D} {v:V},Fz G R d t->bW X.K H v d->bW X.K (ly s.heap (mz R G) H) v t:=by
 intro d t v h;revert v;refine Fz.rec (motive_1:=fun d t _=>∀ {v:V},bW X.K H v d->bW X.K (ly s.heap (mz R G) H) v t)
  (motive_2:=fun ds ts _=>∀ {vs:List V},a5 X.K H vs ds->a5 X.K (ly s.heap (mz R G) H) vs ts)
  (motive_3:=fun ds ts _=>(∀ {vs:List (Key×V)},lJ X.K H vs ds->lJ X.K (ly s.heap (mz R G) H) vs ts)/\∀ {vs:List (List Key×V)},mS X.K H vs ds->mS X.K (ly s.heap (mz R G) H) vs ts)
  ?_ ?_ ?_ ?_ ?_ ?_ ?_ ?_ ?_ h
 ·intro d v r; exact r.mono qy
 ·intro ds ss _ ih v r;cases r with
  | tup h rs=>exact .tup (qy.tup _ _ h) (ih rs)
 ·intro ds ss _ ih v r;cases r with
  | dm h rs=>exact .dm (qy.LD h) (ih rs)
 ·intro a ds ss g hr _ ih v r;cases r;obtain⟨vs,hv,rs⟩:=ab a _ g;obtain⟨ob,ho⟩:=lq (I.dA a _ hv);exact .dm (.inl ⟨_,tw (by simp [mz,hr,g]) hv rfl ho⟩) (ih rs)
 ·intro a ds ss g hr _ ih v r;cases r;rcases ab a _ g with ⟨kv,hv,rs⟩ | ⟨kv,hv,rs⟩
  ·obtain⟨ob,ho⟩:=lq (I.dA a _ hv);exact .pX (tw (by simp [mz,hr,g]) hv rfl ho) (ih.1 rs)
  ·obtain⟨ob,ho⟩:=lq (I.dA a _ hv);exact .pW (tw (by simp [mz,hr,g]) hv rfl ho) (ih.2 rs)
 ·intro vs r; cases r; exact .nil
 ·intro d s ds ss _ _ i1 i2 vs r;cases r with
  | cons r rs=>exact .cons (i1 r) (i2 rs)
 ·exact⟨fun r=>by cases r; exact .nil,fun r=>by cases r; exact .nil⟩
 ·intro k d s ds ss _ _ i1 i2;exact⟨fun r=>by cases r with | cons r rs=>exact .cons (i1 r) (i2.1 rs),fun r=>by cases r with | cons r rs=>exact .cons (i1 r) (i2.2 rs)⟩
variable {e:Expr} {te:fQ} {st:Stmt} {t:gW}
theorem bo(he:gh X e te):gh X e (dq te):=by
 intro E pins s σ H τ G Q hE I h;refine fG (he E pins s σ H τ G _ hE I h) ?_;rintro u s1 ⟨v,H1,d,G1,I1,m,r,rd,R,t,hf,q⟩;exact⟨v,_,t,_,Inv.freeze I1 _,m.trans (wI I1 m.ab R),r,FH I1 m.ab hf rd,q⟩
theorem sZ{i:Nat}(h1:Cy X st t):Cy X st (xX i t):=by
 intro E pins s σ H τ G D hE I h;refine fG (h1 E pins s σ H τ G _ hE I h) fun f s1 z=>?_;cases f with
 | next =>
  obtain⟨hW,H',mx,G',I',m,q⟩:=z;simp only at q;split at q
  ·rename_i d hd;obtain⟨R,t,hf,q⟩:=q;obtain⟨v,hv,rv⟩:=I'.st.at' i d hd;have a1:=(I'.st.mono (H':=ly s1.heap (mz R G') H') qy).set i (FH I'.inv I'.ab hf rv);have es:hW.set i (some v)=hW:=by
    have hi:i < hW.length:=(List.getElem?_eq_some_iff.mp hv).1;have e2:=(List.getElem?_eq_some_iff.mp hv).2;rw [<-e2]; exact List.set_getElem_self hi
   rw [es] at a1;have m2:=wI I'.inv I'.ab R;exact⟨hW,_,_,_,⟨Inv.freeze I'.inv _,a1,m2.ab⟩,m.trans m2,q⟩
  ·exact q.elim
 | ret v=>exact z
 | brk=>exact z
 | cont=>exact z
end
end K2
end
section
namespace K2
open PySem PySem.Spec PyProof.Rows L2
theorem h8:c7 "len" = some (.builtin "len"):=by decide +kernel
theorem KN:c7 "min" = some (.builtin "min"):=by decide +kernel
theorem Gk:c7 "max" = some (.builtin "max"):=by decide +kernel
theorem KP:c7 "all" = some (.builtin "all"):=by decide +kernel
theorem Dt:c7 "sorted" = some (.builtin "sorted"):=by decide +kernel
theorem ml:c7 "list" = some (.type "list"):=by decide +kernel
theorem Gj:c7 "tuple" = some (.type "tuple"):=by decide +kernel
theorem KO:c7 "int" = some (.type "int"):=by decide +kernel
theorem Iu:c7 "bool" = some (.type "bool"):=by decide +kernel
section
variable {X:Cx} {a b c e o:Expr} {es:List Expr} {ta tb tc te to:fQ} {t:zZ} {pos p p2 apos kY:Pos} {x name:Str} {id T:String} {k:Nat} {f:Addr} {fd:aB} {ps:List Str} {sp:mq}
theorem bp(F:fB X.prog X.w X.K X.mg X.base fV k f fd ps (da X.K sp))(hr:iM k X.A)(hg:Gl X x)(hm:X.mg x=some (.ref f))(hk:iq X.K (.ref f)=true)(hb:Binds X.K fd ps [])
  (ha:Bg X (e :: es) t) (AS:autoParam ((x == ("__debug__" : Str))=false) Ad._auto_1) (he:autoParam (bA (e :: es) X.env=(false,eval e X.env) :: bA es X.env) Ar._auto_1) (zY:autoParam ((jd pos (bA es X.env)).any (·.1)=false) Ar._auto_1) :
  gh X (.Call (.Name x p) (e :: es) [] pos) (br sp t):=EY F hr hg hm hk hb ha AS he zY
end
end K2
end
section
namespace K2
open PySem PySem.Spec PyProof.Rows L2
section
variable {X:Cx} {o i a b:Expr} {to ti ta tb:fQ} {pos p:Pos}
theorem xn(hu:X.A.units+64 < cLine)(ho:gh X o to)(hi:gh X i ti)
  (ha:autoParam (∀ v,D4 (.Subscript o i pos) X.env v=(do
   let ov ← Aa [v] (eval o X.env)
   let iv ← Aa [v,ov] (eval i X.env)
   standAt pos
   Aa [v,ov,iv] (setItem ov iv v)
   release [v,ov,iv] [])) Ai._auto_1):DP X (.Subscript o i pos) (AV to ti):=by
 intro E pins s σ H τ G w d u Q hE I r rd h;rw [ha];refine ar (dQ (kQ ho hE I h fun x H1 dx G1 ov s1 I1 m1 r1 j4 q1=>?_));refine ar (dQ (kQ hi hE I1 q1 fun y H2 dy G2 iv s2 kz m2 r2 BI q2=>?_));refine ar (wpAny_standAt (ar (dQ ?_)));have Ny:=m1.trans m2;have K7:=rd.mono (Ny.kp I.ab);have zW:=I.st.mono (Ny.kp I.ab);have RV:=j4.mono (m2.kp I1.ab);unfold BC at q2;split at q2
 ·rename_i l;cases RV;cases r1;split at q2
  ·rename_i xs hg;obtain⟨vs,hv,rs⟩:=kz.ab.lst hg;split at q2
   ·rename_i k;cases BI;split at q2
    ·rename_i j hj;have m3:Mv X.K H2 G2 (upd H2 l (.lst (vs.set j w))) (cB G2 l (.lst (xs.set j d))):=.putL kz.ab hg hv (rs.set K7 j);refine fG (set_list pins s2 σ H2 (.ref l) (.int k) w _ _ _ (fun H3=>H3=upd H2 l (.lst (vs.set j w))) kz.inv rfl r2 r ⟨l,vs,k,j,rfl,rfl,hv,?_,rfl⟩) ?_
     ·rw [rs.length]; exact hj
     ·rintro _ s3 ⟨H3,I3,e3⟩;subst e3;exact wpAny_release ⟨σ,_,τ,_,⟨I3,zW.mono (m3.kp kz.ab),m3.ab⟩,Ny.trans m3,q2⟩
    ·exact q2.elim
   ·exact q2.elim
  ·rename_i aY hg;obtain⟨hk,hz,q⟩:=q2;obtain⟨H3,H4,I3,dp,m3⟩:=FT kz.inv kz.ab hg hk hz BI K7;exact Dk (by lia) I3 dp r2 r fun s4 I4=>wpAny_release ⟨σ,H4,τ,_,⟨I4,zW.mono (m3.kp kz.ab),m3.ab⟩,Ny.trans m3,q⟩
  ·exact q2.elim
 ·exact q2.elim
end
end K2
end
section
namespace L2
open PySem PySem.Spec PyProof.Rows
structure Rn(z TI TO i1 i2 a b:Addr)(i:Nat)(h:Heap):Prop where
 hz:IsZip h z TI TO .none
 hI:IsPair h TI (.ref i1) (.ref i2)
 hO:∃ x y,IsPair h TO x y
 h1:h.IsListIter i1 a i
 h2:h.IsListIter i2 b i
end L2
end
section
namespace K2
open PySem PySem.W PyProof.Rows
noncomputable def fW{α:Type}(lt:Nat->Nat->Bool):KasT α->α
 | .ret a=>a
 | .ask i j k=>fW lt (k (lt i j))
theorem jP{α β:Type}(lt:Nat->Nat->Bool)(f:α->KasT β):∀ t:KasT α,fW lt (t.bind f)=fW lt (f (fW lt t))
 | .ret _=>rfl
 | .ask i j k=>jP lt f (k (lt i j))
noncomputable abbrev gA(p:Array Nat)(k:Nat):Nat:=p.getD k 0
theorem wG(p:Array Nat)(k:Nat):gA p k=(p[k]?).getD 0:=by
 unfold gA; rw [Array.getD_eq_getD_getElem?]
structure Dw(lt:Nat->Nat->Bool):Prop where
 asymm:∀ i j,lt i j=true->lt j i=false
 trans:∀ i j k,lt j i=false->lt k j=false->lt k i=false
theorem Dw.refl{lt:Nat->Nat->Bool}(w:Dw lt)(i:Nat):lt i i=false:=by
 cases h:lt i i with
 | false=>rfl
 | true=>rw [w.asymm _ _ h] at h; cases h
noncomputable def Up(lt:Nat->Nat->Bool)(p:Array Nat)(m:Nat):Prop:=∀ i j,i<=j->j < m->lt (gA p j) (gA p i)=false
noncomputable def Dn(lt:Nat->Nat->Bool)(p:Array Nat)(m:Nat):Prop:=∀ i j,i<=j->j < m->lt (gA p i) (gA p j)=false
section
variable {lt:Nat->Nat->Bool}
theorem Up.more(w:Dw lt){p:Array Nat}{n m:Nat}(h1:1<=n)(h:Up lt p n)(hs:∀ k,n<=k->k < m->lt (gA p k) (gA p (k - 1))=false):Up lt p m:=by
 intro i j zg Tp;induction j with
 | zero =>
  have:i=0:=by lia
  subst this; exact w.refl _
 | succ j ih =>
  by_cases hj:j+1 < n
  ·exact h i (j+1) zg hj
  ·by_cases e:i=j+1
   ·subst e; exact w.refl _
   ·have h1:=ih (by lia) (by lia);have h2:=hs (j+1) (by lia) Tp;exact w.trans _ _ _ h1 h2
theorem BD(p:Array Nat):∀ (f n:Nat),n<=fW lt (mU p f n)/\fW lt (mU p f n)<=n+f/\(∀ k,n<=k->k < fW lt (mU p f n)->lt (gA p k) (gA p (k - 1))=false) /\
  (fW lt (mU p f n) < n+f->lt (gA p (fW lt (mU p f n))) (gA p (fW lt (mU p f n) - 1))=true):=by
 intro f;induction f with
 | zero=>intro n; exact⟨aG _,aG _,fun k h1 h2=>absurd (show k < n from h2) (by lia),fun h=>absurd (show n < n+0 from h) (by lia)⟩
 | succ f ih =>
  intro n;have e:fW lt (mU p (f+1) n)=if lt (gA p n) (gA p (n - 1))=true then n else fW lt (mU p f (n+1)):=by
   show fW lt (if lt (gA p n) (gA p (n - 1))=true then qV n else mU p f (n+1))=_;split <;> rfl
  rw [e];by_cases c:lt (gA p n) (gA p (n - 1))=true
  ·rw [if_pos c];exact⟨aG _,by lia,fun k h1 h2=>absurd h2 (by lia),fun _=>c⟩
  ·rw [if_neg c];obtain⟨h1,h2,h3,h4⟩:=ih (n+1);refine⟨by lia,by lia,fun k k1 k2=>?_,fun h=>h4 (by lia)⟩;by_cases e:k=n
   ·subst e; simpa using c
   ·exact h3 k (by lia) k2
theorem fU{p:Array Nat}{i j:Nat}(hj:j<=p.size)(k:Nat):gA (fg p i j) k=if i<=k/\k < j then gA p (i+j - 1 - k) else gA p k:=by
 rw [wG,fg,getElem?_mirror_all hj];split <;> rw [wG]
theorem jW(p:Array Nat)(i j:Nat):(fg p i j).size=p.size:=mirror_size _ _ _ _
theorem iC(p:Array Nat)(i j:Nat):(fg p i j).Perm p:=mirror_perm _ _ _ _
theorem Dn.rev{p:Array Nat}{a n:Nat}(w:Dw lt)(hn:n<=p.size)(h:Dn lt p n)(he:∀ k,a<=k->k < n->lt (gA p (n - 1)) (gA p k)=false):Dn lt (fg p a n) n:=by
 intro i j zg Mr;rw [fU hn,fU hn];by_cases hi:a<=i
 ·rw [if_pos ⟨hi,by lia⟩,if_pos ⟨by lia,Mr⟩];exact w.trans _ _ _ (he (a+n - 1 - j) (by lia) (by lia)) (h (a+n - 1 - i) (n - 1) (by lia) (by lia))
 ·rw [if_neg (by lia)];by_cases hj:a<=j
  ·rw [if_pos ⟨hj,Mr⟩];exact h i (a+n - 1 - j) (by lia) (by lia)
  ·rw [if_neg (by lia)];exact h i j zg Mr
noncomputable def Rw(lt:Nat->Nat->Bool)(p:Array Nat)(n q:Nat):Prop:=q+1<=n/\∀ k,n - (q+1)<=k->k < n->lt (gA p (n - 1)) (gA p k)=false
theorem Dn.one(w:Dw lt){p:Array Nat}{n:Nat}(h1:1<=n)(h:Dn lt p n)(hc:lt (gA p (n - 1)) (gA p n)=false):Dn lt p (n+1):=by
 intro i j zg hj;by_cases e:j=n
 ·subst e;by_cases e2:i=j
  ·subst e2; exact w.refl _
  ·exact w.trans _ _ _ hc (h i (j - 1) (by lia) (by lia))
 ·exact h i j zg (by lia)
theorem EC(w:Dw lt):∀ (f:Nat) (p:Array Nat) (n q:Nat),n+f<=p.size->Dn lt p n->Rw lt p n q->∃ p' n' q',fW lt (jl f p n q)=(p',n',q')/\p'.Perm p/\p'.size=p.size/\n<=n'/\n'<=n+f/\Dn lt p' n'/\Rw lt p' n' q':=by
 intro f;induction f with
 | zero=>intro p n q _ hd he; exact⟨p,n,q,rfl,ki _,rfl,aG _,aG _,hd,he⟩
 | succ f ih =>
  intro p n q hs hd he;have h1:1<=n:=by have:=he.1; lia
  have e:fW lt (jl (f+1) p n q)=if lt (gA p n) (gA p (n - 1))=true then (if q > 0 then fW lt (jl f (fg p (n - (q+1)) n) (n+1) 0) else fW lt (jl f p (n+1) 0))
    else if lt (gA p (n - 1)) (gA p n)=true then (p,n,q) else fW lt (jl f p (n+1) (q+1)):=by
   show fW lt (if lt (gA p n) (gA p (n - 1))=true then (if q > 0 then jl f (fg p (n - (q+1)) n) (n+1) 0 else jl f p (n+1) 0) else .ask (gA p (n - 1)) (gA p n) fun d=>if d=true then .ret (p,n,q) else jl f p (n+1) (q+1))=_;split
   ·split <;> rfl
   ·show fW lt (if lt (gA p (n - 1)) (gA p n)=true then qV (p,n,q) else jl f p (n+1) (q+1))=_;split <;> rfl
  rw [e];by_cases c:lt (gA p n) (gA p (n - 1))=true
  ·rw [if_pos c];have ca:=w.asymm _ _ c;by_cases hq:q > 0
   ·rw [if_pos hq];have d1:Dn lt (fg p (n - (q+1)) n) n:=hd.rev w (by lia) he.2;have en:gA (fg p (n - (q+1)) n) n=gA p n:=by rw [fU (by lia),if_neg (by lia)]
    have UM:lt (gA (fg p (n - (q+1)) n) (n - 1)) (gA (fg p (n - (q+1)) n) n)=false:=by
     rw [en,fU (by lia)];split
     ·-- an item of Ou Nj is above p n
      exact w.trans _ _ _ ca (hd _ (n - 1) (by lia) (by lia))
     ·exact ca
    obtain⟨p',n',q',z,h2,h3,h4,h5,h6,h7⟩:=ih (fg p (n - (q+1)) n) (n+1) 0 (by rw [jW]; lia) (d1.one w h1 UM) ⟨by lia,fun k k1 k2=>by
     have:k=n:=by lia
     subst this; exact w.refl _⟩
    exact⟨p',n',q',z,h2.trans (iC _ _ _),h3.trans (jW _ _ _),by lia,by lia,h6,h7⟩
   ·rw [if_neg hq];obtain⟨p',n',q',z,h2,h3,h4,h5,h6,h7⟩:=ih p (n+1) 0 (by lia) (hd.one w h1 ca) ⟨by lia,fun k k1 k2=>by
     have:k=n:=by lia
     subst this; exact w.refl _⟩
    exact⟨p',n',q',z,h2,h3,by lia,by lia,h6,h7⟩
  ·rw [if_neg c];have c':lt (gA p n) (gA p (n - 1))=false:=by simpa using c
   by_cases d:lt (gA p (n - 1)) (gA p n)=true
   ·rw [if_pos d];exact⟨p,n,q,rfl,ki _,rfl,aG _,by lia,hd,he⟩
   ·rw [if_neg d];have d':lt (gA p (n - 1)) (gA p n)=false:=by simpa using d
    obtain⟨p',n',q',z,h2,h3,h4,h5,h6,h7⟩:=ih p (n+1) (q+1) (by lia) (hd.one w h1 d') ⟨by have:=he.1; lia,fun k k1 k2=>by
     rw [Nat.add_sub_cancel];by_cases e:k=n
     ·subst e; exact w.refl _
     ·exact w.trans _ _ _ (he.2 k (by lia) (by lia)) c'⟩
    exact⟨p',n',q',z,h2,h3,by lia,by lia,h6,h7⟩
theorem Dn.up{p:Array Nat}{n:Nat}(hn:n<=p.size)(h:Dn lt p n):Up lt (fg p 0 n) n:=by
 intro i j zg Mr;rw [fU hn,fU hn,if_pos ⟨by lia,Mr⟩,if_pos ⟨by lia,by lia⟩];exact h _ _ (by lia) (by lia)
theorem yH(w:Dw lt){p:Array Nat}{n nrem:Nat}(h1:1<=n)(hn:n<=nrem)(hs:nrem<=p.size)(h:Dn lt p n):∃ p' m,fW lt (DZ n nrem p)=(m,p')/\p'.Perm p/\p'.size=p.size/\n<=m/\m<=nrem/\Up lt p' m:=by
 obtain⟨a1,a2,a3,_⟩:=BD (lt:=lt) (fg p 0 n) (nrem - n) n;refine⟨fg p 0 n,fW lt (mU (fg p 0 n) (nrem - n) n),by rw [DZ,jP]; rfl,iC _ _ _,jW _ _ _,a1,by lia,?_⟩;exact(h.up (by lia)).more w h1 a3
theorem pV(w:Dw lt){p:Array Nat}{n nrem:Nat}(h1:1<=n)(hn:n < nrem)(hs:nrem<=p.size)(h:Dn lt p n)(hc:lt (gA p (n - 1)) (gA p n)=false) :
  ∃ p' m,fW lt (tN n nrem p)=(m,p')/\p'.Perm p/\p'.size=p.size/\n<=m/\m<=nrem/\Up lt p' m:=by
 obtain⟨p1,n1,q1,z,z2,z3,z4,z5,z6,z7⟩:=EC w (nrem - (n+1)) p (n+1) 0 (by lia) (h.one w h1 hc) ⟨by lia,fun k k1 k2=>by
  have:k=n:=by lia
  subst this; exact w.refl _⟩
 rw [tN,jP,z];show ∃ p' m,fW lt (if q1 > 0 then DZ n1 nrem (fg p1 (n1 - (q1+1)) n1) else DZ n1 nrem p1)=(m,p')/\_;by_cases hq:q1 > 0
 ·rw [if_pos hq];obtain⟨p',m,y1,y2,y3,y4,y5,y6⟩:=yH (nrem:=nrem) w (p:=fg p1 (n1 - (q1+1)) n1) (by lia) (by lia) (by rw [jW]; lia) (z6.rev w (by lia) z7.2);exact⟨p',m,y1,(y2.trans (iC _ _ _)).trans z2,(y3.trans (jW _ _ _)).trans z3,by lia,y5,y6⟩
 ·rw [if_neg hq];obtain⟨p',m,y1,y2,y3,y4,y5,y6⟩:=yH (nrem:=nrem) w (p:=p1) (by lia) (by lia) (by lia) z6;exact⟨p',m,y1,y2.trans z2,y3.trans z3,by lia,y5,y6⟩
theorem CJ(w:Dw lt){p:Array Nat}{nrem:Nat}(h1:1<=nrem)(hs:nrem<=p.size):∃ p' m,fW lt (kas_count nrem p)=(m,p')/\p'.Perm p/\p'.size=p.size/\1<=m/\m<=nrem/\Up lt p' m:=by
 obtain⟨a1,a2,a3,a4⟩:=BD (lt:=lt) p (nrem - 1) 1;rw [kas_count,jP];generalize fW lt (mU p (nrem - 1) 1)=n at a1 a2 a3 a4;have u1:Up lt p 1:=fun i j zg hj=>by
  have:i=j:=by lia
  subst this; exact w.refl _
 have up:Up lt p n:=u1.more w (aG _) a3;by_cases e:n=nrem
 ·subst e;rw [if_pos (by simp)];exact⟨p,n,rfl,ki _,rfl,a1,aG _,up⟩
 ·rw [if_neg (by simpa using e)];have hb:=a4 (by lia);by_cases h2:n > 1
  ·rw [if_pos h2];show ∃ p' m,fW lt (if lt (gA p 0) (gA p (n - 1))=true then qV (n,p) else tN n nrem (fg p 0 n))=(m,p')/\_;by_cases c:lt (gA p 0) (gA p (n - 1))=true
   ·rw [if_pos c];exact⟨p,n,rfl,ki _,rfl,a1,by lia,up⟩
   ·rw [if_neg c];have c':lt (gA p 0) (gA p (n - 1))=false:=by simpa using c
    have all:∀ i j,i < n->j < n->lt (gA p i) (gA p j)=false:=fun i j hi hj =>
     w.trans _ _ _ (w.trans _ _ _ (up j (n - 1) (by lia) (by lia)) c') (up 0 i (by lia) hi)
    have d1:Dn lt (fg p 0 n) n:=fun i j zg hj=>by
     rw [fU (by lia),fU (by lia),if_pos ⟨by lia,by lia⟩,if_pos ⟨by lia,hj⟩];exact all _ _ (by lia) (by lia)
    have hl:lt (gA (fg p 0 n) (n - 1)) (gA (fg p 0 n) n)=false:=by
     rw [fU (by lia),fU (by lia),if_pos ⟨by lia,by lia⟩,if_neg (by lia)];exact w.trans _ _ _ (w.asymm _ _ hb) (all _ _ (by lia) (by lia))
    obtain⟨p',m,y1,y2,y3,y4,y5,y6⟩:=pV (nrem:=nrem) w (p:=fg p 0 n) a1 (by lia) (by rw [jW]; lia) d1 hl;exact⟨p',m,y1,y2.trans (iC _ _ _),y3.trans (jW _ _ _),by lia,y5,y6⟩
  ·rw [if_neg h2];have e1:n=1:=by lia
   subst e1;have d1:Dn lt p 1:=fun i j zg hj=>by
    have:i=j:=by lia
    subst this; exact w.refl _
   obtain⟨p',m,y1,y2,y3,y4,y5,y6⟩:=pV (nrem:=nrem) w (p:=p) (aG _) (by lia) hs d1 (w.asymm _ _ hb);exact⟨p',m,y1,y2,y3,by lia,y5,y6⟩
theorem CI(w:Dw lt){p:Array Nat}{k:Nat}:∀ (f l r:Nat),l<=r->r<=k->r - l<=f->Up lt p k->(∀ i,i < l->lt (gA p k) (gA p i)=false)->(∀ i,r<=i->i < k->lt (gA p k) (gA p i)=true) ->
  ∃ m,fW lt (iy p k f l r)=m/\m<=k/\(∀ i,i < m->lt (gA p k) (gA p i)=false)/\(∀ i,m<=i->i < k->lt (gA p k) (gA p i)=true):=by
 intro f;induction f with
 | zero =>
  intro l r Td NH hf up h1 h2;have:l=r:=by lia
  subst this;exact⟨l,rfl,NH,h1,h2⟩
 | succ f ih =>
  intro l r Td NH hf up h1 h2;have e:fW lt (iy p k (f+1) l r)=if l>=r then l else if lt (gA p k) (gA p ((l+r) / 2))=true then fW lt (iy p k f l ((l+r) / 2)) else fW lt (iy p k f ((l+r) / 2+1) r):=by
   show fW lt (if l>=r then qV l else .ask (gA p k) (gA p ((l+r) / 2)) fun c=>if c=true then iy p k f l ((l+r) / 2) else iy p k f ((l+r) / 2+1) r)=_;split
   ·rfl
   ·show fW lt (if lt (gA p k) (gA p ((l+r) / 2))=true then iy p k f l ((l+r) / 2) else iy p k f ((l+r) / 2+1) r)=_;split <;> rfl
  rw [e];by_cases c:l>=r
  ·rw [if_pos c];have:l=r:=by lia
   subst this;exact⟨l,rfl,NH,h1,h2⟩
  ·rw [if_neg c];by_cases d:lt (gA p k) (gA p ((l+r) / 2))=true
   ·rw [if_pos d];refine ih l ((l+r) / 2) (by lia) (by lia) (by lia) up h1 fun i i1 i2=>?_;cases q:lt (gA p k) (gA p i) with
    | true=>rfl
    | false=>rw [w.trans _ _ _ (up ((l+r) / 2) i i1 i2) q] at d; cases d
   ·rw [if_neg d];refine ih ((l+r) / 2+1) r (by lia) NH (by lia) up (fun i hi=>?_) h2;exact w.trans _ _ _ (up i ((l+r) / 2) (by lia) (by lia)) (by simpa using d)
theorem wH{p:Array Nat}{src d:Nat}(hs:src < p.size)(hd:d<=src)(k:Nat):gA (bubble p src d) k=if k=src - d then gA p src else if src - d < k/\k<=src then gA p (k - 1) else gA p k:=by
 rw [wG,getElem?_bubble hs d hd,wG p src,wG p (k - 1),wG p k];by_cases h1:k=src - d
 ·rw [if_pos h1,if_pos h1]
 ·rw [if_neg h1,if_neg h1];by_cases h2:src - d < k/\k<=src
  ·rw [if_pos h2,if_pos h2]
  ·rw [if_neg h2,if_neg h2]
theorem Ha(w:Dw lt):∀ (f:Nat) (p:Array Nat) (k:Nat),k+f<=p.size->Up lt p k->∃ p',fW lt (kas_bin f p k)=p'/\p'.Perm p/\p'.size=p.size/\Up lt p' (k+f):=by
 intro f;induction f with
 | zero=>intro p k _ up; exact⟨p,rfl,ki _,rfl,up⟩
 | succ f ih =>
  intro p k hs up;obtain⟨m,e,hm,h1,h2⟩:=CI w k 0 k (bS _) (aG _) (aG _) up (fun i hi=>absurd hi (by lia)) (fun i i1 i2=>absurd i1 (by lia));have RE:Up lt (bubble p k (k - m)) (k+1):=by
   intro i j zg hj;rw [wH (by lia) (by lia),wH (by lia) (by lia)];have ek:k - (k - m)=m:=by lia
   rw [ek];by_cases j1:j=m
   ·rw [if_pos j1];by_cases i1:i=m
    ·rw [if_pos i1]; exact w.refl _
    ·rw [if_neg i1,if_neg (by lia)]; exact h1 i (by lia)
   ·rw [if_neg j1];by_cases j2:m < j/\j<=k
    ·rw [if_pos j2];by_cases i1:i=m
     ·rw [if_pos i1]; exact w.asymm _ _ (h2 (j - 1) (by lia) (by lia))
     ·rw [if_neg i1];by_cases i2:m < i/\i<=k
      ·rw [if_pos i2]; exact up _ _ (by lia) (by lia)
      ·rw [if_neg i2]; exact up _ _ (by lia) (by lia)
    ·rw [if_neg j2,if_neg (by lia),if_neg (by lia)]; exact up _ _ zg (by lia)
  obtain⟨p',z,z1,z2,z3⟩:=ih (bubble p k (k - m)) (k+1) (by rw [bubble_size]; lia) RE;refine⟨p',?_,z1.trans (bubble_perm _ _ _),z2.trans (bubble_size _ _ _),by rw [show k+(f+1)=k+1+f by lia]; exact z3⟩;rw [kas_bin,jP,e]; exact z
theorem EA(w:Dw lt){n:Nat}(h1:1<=n):∃ p,fW lt (kas_sort n)=p/\p.toList.Perm (bP n)/\p.size=n/\Up lt p n:=by
 obtain⟨p,m,z,z1,z2,z3,z4,z5⟩:=CJ w (p:=(bP n).toArray) h1 (by simp);have zs:p.size=n:=by rw [z2]; simp
 have zp:p.toList.Perm (bP n):=by simpa using z1.toList
 rw [kas_sort,jP,z];show ∃ q,fW lt (if m < n then kas_bin (n - max m 1) p (max m 1) else .ret p)=q/\_;by_cases c:m < n
 ·rw [if_pos c];have em:max m 1=m:=by lia
  rw [em];obtain⟨p',y,y1,y2,y3⟩:=Ha w (n - m) p m (by lia) z5;exact⟨p',y,(by simpa using y1.toList:p'.toList.Perm p.toList).trans zp,y2.trans zs,by rw [show n=m+(n - m) by lia]; exact y3⟩
 ·rw [if_neg c];have:m=n:=by lia
  subst this;exact⟨p,rfl,zp,zs,z5⟩
end
end K2
end
section
namespace K2
open PySem PySem.Spec PyProof.Rows L2
open PySem.AutoSeq1 (wpAny_loadPart')
open PySem.MeetsSeq PySem.MeetsSeq2 PySem.MeetsSeq3 PySem.SeqAt
noncomputable def sI(A:cF)(s:ak)(y x:Value)(b:Bool):Prop :=
 ∀ (prog:bC) (w:World) (E:Value->ak->Prop) (Q:Value->ak->Prop),Q (.bool b) s->wpAny (model prog w) A (kM .Lt y x) Q E s
noncomputable def oG(e l:Nat->Bool)(n m:Nat):Nat->Nat->Bool
 | 0,_=>decide (n < m)
 | f+1,i=>if e i=true then oG e l n m f (i+1) else l i
theorem HN(l b:Addr)(xs ys:Array Value)(n m:Nat)(dd de:Option Addr)(sl sm:Array (Option Value))(e lt:Nat->Bool)(k:Nat) :
  ∀ i:Nat,i<=min xs.size ys.size->min xs.size ys.size - i=k->Meets (Builtin.«list.__eq__.loop» ⟨[.ref l,.ref b,oJ i,oJ 0],[]⟩)
   (fun A R s=>s.heap.get? l=some { cls:=.type "list",dict:=dd,data:=.seq xs n,slots:=sl }/\s.heap.get? b=some { cls:=.type "list",dict:=de,data:=.seq ys m,slots:=sm } /\
    (∀ j (h1:j < xs.size) (h2:j < ys.size),EqAt A.in1 s xs[j] ys[j] (e j)/\sI A.in1 s xs[j] ys[j] (lt j)) /\
    R (.ok (.ret (.bool (oG e lt xs.size ys.size k i)))) s):=by
 induction k with
 | zero =>
  intro i hi hk prog w A R s h;obtain⟨hp,g,d,tk,os⟩:=s;obtain⟨hl,hb,he,h⟩:=h
  wp_walk using bB hl,bB hb
  by_cases c:xs.size<=ys.size
  ·have h1:xs[((i:Nat):Int).toNat]?=none:=by simp; lia
   rw [h1]
   wp_walk using bB hl,bB hb
   exact h
  ·have h2:ys[((i:Nat):Int).toNat]?=none:=by simp; lia
   rw [h2];cases q:xs[((i:Nat):Int).toNat]? with
   | none =>
    wp_walk using bB hl,bB hb
    exact h
   | some v =>
    wp_walk using bB hl,bB hb
    exact h
 | succ k ih =>
  intro i hi hk prog w A R s h;obtain⟨hp,g,d,tk,os⟩:=s;obtain⟨hl,hb,he,h⟩:=h
  wp_walk using bB hl,bB hb
  have l1:i < xs.size:=by lia
  have l2:i < ys.size:=by lia
  have h1:xs[((i:Nat):Int).toNat]?=some xs[i]:=by simp [l1]
  have h2:ys[((i:Nat):Int).toNat]?=some ys[i]:=by simp [l2]
  have hc:((i:Int)+1)=((i+1:Nat):Int):=by push_cast; rfl
  rw [h1,h2];refine ar ((he i l1 l2).1 prog w _ _ ?_);cases q:e i with
  | true =>
   rw [oG,q,if_pos rfl] at h
   wp_walk
   rw [hc];exact⟨e6 plain_eq_loop _,gj entry_eq_loop (by
    rw [dw plain_eq_loop _];exact ih (i+1) (by lia) (by lia) prog w A R _ ⟨hl,hb,he,h⟩)⟩
  | false =>
   rw [oG,q,if_neg (by simp)] at h
   wp_walk using bB hl,bB hb
   rw [h1,h2];have Mf:=(he i l1 l2).2 prog w
   wp_walk using Mf
   exact h
theorem wz(l b:Addr)(xs ys:Array Value)(n m:Nat)(dd de:Option Addr)(sl sm:Array (Option Value))(e lt:Nat->Bool) :
  Meets (Builtin.«list.__lt__» ⟨[.ref l,.ref b],[]⟩)
   (fun A R s=>s.heap.get? l=some { cls:=.type "list",dict:=dd,data:=.seq xs n,slots:=sl }/\s.heap.get? b=some { cls:=.type "list",dict:=de,data:=.seq ys m,slots:=sm } /\
    (∀ j (h1:j < xs.size) (h2:j < ys.size),EqAt A.in1 s xs[j] ys[j] (e j)/\sI A.in1 s xs[j] ys[j] (lt j)) /\
    R (.ok (.ret (.bool (oG e lt xs.size ys.size (min xs.size ys.size) 0)))) s):=by
 intro prog w A R s h;obtain⟨hp,g,d,tk,os⟩:=s;obtain⟨hl,hb,he,h⟩:=h;have f3:=An
 wp_walk using bB hl,bB hb
 exact⟨e6 plain_eq_loop _,gj entry_eq_loop (by
  rw [dw plain_eq_loop _];exact HN l b xs ys n m dd de sl sm e lt _ 0 (bS _) rfl prog w A R _ ⟨hl,hb,he,h⟩)⟩
theorem tS(l b:Addr)(xs ys:Array Value)(n m:Nat)(dd de:Option Addr)(sl sm:Array (Option Value))(e lt:Nat->Bool) :
  Meets (Builtin.«tuple.__lt__» ⟨[.ref l,.ref b],[]⟩)
   (fun A R s=>s.heap.get? l=some { cls:=.type "tuple",dict:=dd,data:=.seq xs n,slots:=sl }/\s.heap.get? b=some { cls:=.type "tuple",dict:=de,data:=.seq ys m,slots:=sm } /\
    (∀ j (h1:j < xs.size) (h2:j < ys.size),EqAt A.in1 s xs[j] ys[j] (e j)/\sI A.in1 s xs[j] ys[j] (lt j)) /\
    R (.ok (.ret (.bool (oG e lt xs.size ys.size (min xs.size ys.size) 0)))) s) :=
 .of_wp fun prog w A R s h=>by
  obtain⟨hp,g,d,tk,os⟩:=s;obtain⟨hl,hb,he,h⟩:=h;have f2:=mw;have zl:(xs.toList.zip ys.toList).length=min xs.size ys.size:=by simp
  wp_walk using bB hl,bB hb,wpAny_forIn_list _ (fun rest c s'=>c.1=none/\s'=⟨hp,g,d,tk,os⟩/\∃ i,i<=min xs.size ys.size/\rest=(xs.toList.zip ys.toList).drop i /\
   R (.ok (.ret (.bool (oG e lt xs.size ys.size (min xs.size ys.size - i) i)))) ⟨hp,g,d,tk,os⟩) _
  case turn =>
   rintro⟨y,x⟩ rest c s' ⟨hc,rfl,i,hi,hz,hR⟩;have il:i < min xs.size ys.size:=by
    have:=congrArg dW hz;rw [dI,zl,ai] at this;lia
   have l1:i < xs.size:=by lia
   have l2:i < ys.size:=by lia
   rw [cZ (by rw [zl]; exact il)] at hz;injection hz with Po Fs
   have ey:y=xs[i]/\x=ys[i]:=by simpa using Po
   obtain⟨rfl,rfl⟩:=ey;obtain⟨k,ek⟩:∃ k,min xs.size ys.size - i=k+1:=⟨min xs.size ys.size - i - 1,by lia⟩;rw [ek,oG] at hR;refine ar ((he i l1 l2).1 prog w _ _ ?_);cases q:e i with
   | true =>
    rw [q,if_pos rfl] at hR
    wp_walk
    exact⟨rfl,rfl,i+1,by lia,Fs,by rw [show min xs.size ys.size - (i+1)=k by lia]; exact hR⟩
   | false =>
    rw [q,if_neg (by simp)] at hR;have Mf:=(he i l1 l2).2 prog w
    wp_walk using Mf
    exact⟨_,rfl,by simpa using hR⟩
  case fin =>
   rintro⟨c1,c2⟩ s' ⟨hc,rfl,i,hi,hz,hR⟩;simp only at hc;subst hc;have il:min xs.size ys.size - i=0:=by
    have:=congrArg dW hz;rw [dI,zl,av] at this;lia
   rw [il,oG] at hR
   wp_walk
   exact⟨_,rfl,by simpa [pM] using hR⟩
  case h =>
   exact⟨rfl,rfl,0,bS _,rfl,by simpa using h⟩
theorem CU{A:cF}{s:ak}{l b:Addr}{xs ys:Array Value}{e lt:Nat->Bool}(hl:s.heap.IsList l xs)(hb:s.heap.IsList b ys)(hu:A.units < cLine)
  (he:∀ j (h1:j < xs.size) (h2:j < ys.size),EqAt A.in1 s xs[j] ys[j] (e j)/\sI A.in1 s xs[j] ys[j] (lt j)):sI A s (.ref l) (.ref b) (oG e lt xs.size ys.size (min xs.size ys.size) 0):=by
 intro prog w E Q hq;obtain⟨⟨cls,dd,data,sl⟩,ho,hc,n,hd⟩:=id hl;obtain⟨⟨FZ,yr,data2,BB⟩,wC,uG,n2,hd2⟩:=id hb;simp only at hc hd uG hd2;subst hc hd uG hd2;exact sr (op:=.Lt) ⟨_,ho,rfl⟩ ⟨_,wC,rfl⟩ pK Cz (Bo _ _) (wz l b xs ys n n2 dd yr sl BB e lt)
  ⟨ho,wC,he,(fun x=>nomatch x),hq⟩ hu
theorem AL{A:cF}{s:ak}{l b:Addr}{xs ys:Array Value}{e lt:Nat->Bool}(hl:s.heap.IsTuple l xs)(hb:s.heap.IsTuple b ys)(hu:A.units < cLine)
  (he:∀ j (h1:j < xs.size) (h2:j < ys.size),EqAt A.in1 s xs[j] ys[j] (e j)/\sI A.in1 s xs[j] ys[j] (lt j)):sI A s (.ref l) (.ref b) (oG e lt xs.size ys.size (min xs.size ys.size) 0):=by
 intro prog w E Q hq;obtain⟨⟨cls,dd,data,sl⟩,ho,hc,n,hd⟩:=id hl;obtain⟨⟨FZ,yr,data2,BB⟩,wC,uG,n2,hd2⟩:=id hb;simp only at hc hd uG hd2;subst hc hd uG hd2;exact sr (op:=.Lt) ⟨_,ho,rfl⟩ ⟨_,wC,rfl⟩ jC oB (mY _ _) (tS l b xs ys n n2 dd yr sl BB e lt)
  ⟨ho,wC,he,(fun x=>nomatch x),hq⟩ hu
theorem lr(xs ys:List D):∀ (k i:Nat),i<=min xs.length ys.length->min xs.length ys.length - i=k ->
  oG (fun j=>gy (xs.getD j .cR) (ys.getD j .cR)) (fun j=>ku (xs.getD j .cR) (ys.getD j .cR)) xs.length ys.length k i=kr (xs.drop i) (ys.drop i)
 | 0,i,hi,hk=>by
  rw [oG];by_cases c:xs.length<=ys.length
  ·have e1:xs.drop i=[]:=jD (by lia);rw [e1];cases q:ys.drop i with
   | nil =>
    have:=congrArg dW q;rw [dI,av] at this;exact decide_eq_false (by lia)
   | cons y r =>
    have:=congrArg dW q;rw [dI,ai] at this;exact decide_eq_true (by lia)
  ·have e1:ys.drop i=[]:=jD (by lia);rw [e1];cases q:xs.drop i with
   | nil =>
    have:=congrArg dW q;rw [dI,av] at this;exact decide_eq_false (by lia)
   | cons y r=>exact decide_eq_false (by lia)
 | k+1,i,hi,hk=>by
  have l1:i < xs.length:=by lia
  have l2:i < ys.length:=by lia
  rw [oG,cZ l1,cZ l2,lX,lr xs ys k (i+1) (by lia) (by lia)];have g1:xs.getD i .cR=xs[i]:=by rw [aN,aq l1]; rfl
  have g2:ys.getD i .cR=ys[i]:=by rw [aN,aq l2]; rfl
  rw [g1,g2]
theorem iD{h:Heap}:∀ {ds:List D} {vs:List Value} {as:List Addr},fC h vs (jy ds) as->∀ j (hj:j < vs.length),∃ bs,Reads h vs[j] (pd (ds.getD j .cR)) bs
 | [],vs,as,r,j,hj=>by cases r; exact absurd hj (lL _)
 | d :: ds,_,_,.cons (v:=v) (vs:=vs) r1 r2,j,hj=>by
  cases j with
  | zero=>exact⟨_,r1⟩
  | succ j=>exact iD r2 j (by simpa using hj)
theorem readsAll_len{h:Heap}:∀ {ds:List D} {vs:List Value} {as:List Addr},fC h vs (jy ds) as->vs.length=ds.length
 | [],_,_,r=>by cases r; rfl
 | d :: ds,_,_,.cons r1 r2=>by rw [ai,ai,readsAll_len r2]
theorem lV:∀ {ds:List D},mE ds=true->∀ j,nr (ds.getD j .cR)=true
 | [],_,j=>by rw [List.getD_nil]; rfl
 | d :: ds,h,0=>by
  have h:(nr d&&mE ds)=true:=h;rw [aK] at h; simpa using h.1
 | d :: ds,h,j+1=>by
  have h:(nr d&&mE ds)=true:=h;rw [aK] at h; simpa using lV h.2 j
theorem ji:∀ (ds:List D) (j:Nat),(pd (ds.getD j .cR)).depth<=bI (jy ds)
 | [],j=>by rw [List.getD_nil]; exact aG _
 | d :: ds,0=>by
  show (pd d).depth<=bI (pd d :: jy ds);simp only [bI]; lia
 | d :: ds,j+1=>by
  have:=ji ds j;show (pd (ds.getD j .cR)).depth<=bI (pd d :: jy ds);simp only [bI]; lia
theorem nR:∀ {l:List kl} {ds:List D},eg l ds=true->∀ j,j < ds.length->∃ s∈l,bX s (ds.getD j .cR)=true/\l[j]?=some s
 | [],[],_,j,hj=>absurd hj (lL _)
 | [],_ :: _,h,_,_=>by cases h
 | _ :: _,[],h,_,_=>by cases h
 | s :: l,d :: ds,h,0,_=>by
  have h:(bX s d&&eg l ds)=true:=h;rw [aK] at h;exact⟨s,by simp,by simpa using h.1,by simp⟩
 | s :: l,d :: ds,h,j+1,hj=>by
  have h:(bX s d&&eg l ds)=true:=h;rw [aK] at h;obtain⟨s',h1,h2,h3⟩:=nR h.2 j (by simpa using hj);exact⟨s',aE _ h1,by simpa using h2,by simpa using h3⟩
theorem nS:∀ {s:kl} {ds:List D},fx s ds=true->∀ j,j < ds.length->bX s (ds.getD j .cR)=true
 | s,[],_,j,hj=>absurd hj (lL _)
 | s,d :: ds,h,0,_=>by
  have h:(bX s d&&fx s ds)=true:=h;rw [aK] at h; simpa using h.1
 | s,d :: ds,h,j+1,hj=>by
  have h:(bX s d&&fx s ds)=true:=h;rw [aK] at h; simpa using nS h.2 j (by simpa using hj)
theorem xT{A:cF}{s:ak}{xs ys:List D}{vs ws:Array Value}{as bs:List Addr}(r1:fC s.heap vs.toList (jy xs) as)(r2:fC s.heap ws.toList (jy ys) bs)(n1:mE xs=true)(n2:mE ys=true)
  (hu:A.units+bI (jy xs) < cLine) (j:Nat) (h1:j < vs.size) (h2:j < ws.size):EqAt A s vs[j] ws[j] (gy (xs.getD j .cR) (ys.getD j .cR)):=by
 obtain⟨M5,q1⟩:=iD r1 j (by simpa using h1);obtain⟨MZ,q2⟩:=iD r2 j (by simpa using h2);have m1:=lV n1 j;have m2:=lV n2 j;have dp:=ji xs j;have:=eqAt_reads (pd (xs.getD j .cR)) (pd (ys.getD j .cR)) A s _ _ _ _ q1 q2 (iE _ m1) (iE _ m2) (by lia);rw [pk _ _ m1 m2] at this;simpa using this
theorem lY:∀ (n:Nat) (sh:kl) (a b:D) (A:cF) (s:ak) (u v:Value) (as bs:List Addr),(pd a).depth<=n->bX sh a=true->bX sh b=true->nr a=true->nr b=true->Reads s.heap u (pd a) as->Reads s.heap v (pd b) bs->A.units+n < cLine->sI A s u v (ku a b):=by
 intro n;induction n using Nat.strongRecOn with
 | _ n ih =>
 intro sh a b A s u v as bs hn h1 h2 n1 n2 r1 r2 hu;cases sh with
 | int =>
  first | obtain⟨_,rfl⟩:=cI h1 | obtain⟨_,rfl⟩:=cG h1 | obtain⟨_,rfl⟩:=cH h1
  first | obtain⟨_,rfl⟩:=cI h2 | obtain⟨_,rfl⟩:=cG h2 | obtain⟨_,rfl⟩:=cH h2
  cases r1; cases r2;intro prog w E Q hq;exact HT.t4 A s _ _ _ _ prog w E Q hq
 | tup l =>
  first | obtain⟨_,rfl⟩:=cI h1 | obtain⟨_,rfl⟩:=cG h1 | obtain⟨_,rfl⟩:=cH h1
  first | obtain⟨_,rfl⟩:=cI h2 | obtain⟨_,rfl⟩:=cG h2 | obtain⟨_,rfl⟩:=cH h2
  rename_i xs ys;have n1:mE xs=true:=n1;have n2:mE ys=true:=n2;cases r1 with
  | tuple k1 k2 k3 k4 =>
   cases r2 with
   | tuple m1 m2 m3 m4 =>
    rename_i p o vs c p' o' ws c';have hd:(pd (.tup xs)).depth=bI (jy xs)+1:=rfl;obtain⟨n',rfl⟩:∃ n',n=n'+1:=⟨n - 1,by lia⟩;have z1:=readsAll_len k4;have z2:=readsAll_len m4;have e1:vs.size=xs.length:=by simpa using z1
    have e2:ws.size=ys.length:=by simpa using z2
    have base:=AL (A:=A) (s:=s) (e:=fun j=>gy (xs.getD j .cR) (ys.getD j .cR)) (lt:=fun j=>ku (xs.getD j .cR) (ys.getD j .cR)) ⟨_,k1,k2,_,k3⟩ ⟨_,m1,m2,_,m3⟩ (by lia) (fun j j1 j2=>by
     refine⟨xT k4 m4 n1 n2 (by show A.units+1+_ < _; lia) j j1 j2,?_⟩;obtain⟨M5,q1⟩:=iD k4 j (by simpa using j1);obtain⟨MZ,q2⟩:=iD m4 j (by simpa using j2);obtain⟨sj,S2,g1,g2⟩:=nR (l:=l) (ds:=xs) h1 j (by lia);obtain⟨RS,PA,MP,MO⟩:=nR (l:=l) (ds:=ys) h2 j (by lia);rw [g2] at MO; cases MO;have dp:=ji xs j;have:=ih n' (by lia) sj (xs.getD j .cR) (ys.getD j .cR) A.in1 s _ _ _ _ (by lia) g1 MP (lV n1 j) (lV n2 j) q1 q2 (by show A.units+1+n' < cLine; lia);simpa using this)
    have fin:=lr xs ys (min xs.length ys.length) 0 (bS _) rfl;rw [e1,e2,fin] at base;exact base
 | lst l =>
  first | obtain⟨_,rfl⟩:=cI h1 | obtain⟨_,rfl⟩:=cG h1 | obtain⟨_,rfl⟩:=cH h1
  first | obtain⟨_,rfl⟩:=cI h2 | obtain⟨_,rfl⟩:=cG h2 | obtain⟨_,rfl⟩:=cH h2
  rename_i xs ys;have n1:mE xs=true:=n1;have n2:mE ys=true:=n2;cases r1 with
  | list k1 k2 k3 k4 =>
   cases r2 with
   | list m1 m2 m3 m4 =>
    rename_i p o vs c p' M5 o' ws c' MZ;have hd:(pd (.dm xs)).depth=bI (jy xs)+1:=rfl;obtain⟨n',rfl⟩:∃ n',n=n'+1:=⟨n - 1,by lia⟩;have z1:=readsAll_len k4;have z2:=readsAll_len m4;have e1:vs.size=xs.length:=by simpa using z1
    have e2:ws.size=ys.length:=by simpa using z2
    have base:=CU (A:=A) (s:=s) (e:=fun j=>gy (xs.getD j .cR) (ys.getD j .cR)) (lt:=fun j=>ku (xs.getD j .cR) (ys.getD j .cR)) ⟨_,k1,k2,_,k3⟩ ⟨_,m1,m2,_,m3⟩ (by lia) (fun j j1 j2=>by
     refine⟨xT k4 m4 n1 n2 (by show A.units+1+_ < _; lia) j j1 j2,?_⟩;obtain⟨M5,q1⟩:=iD k4 j (by simpa using j1);obtain⟨MZ,q2⟩:=iD m4 j (by simpa using j2);have dp:=ji xs j;have:=ih n' (by lia) l (xs.getD j .cR) (ys.getD j .cR) A.in1 s _ _ _ _ (by lia) (nS (s:=l) (ds:=xs) h1 j (by lia)) (nS (s:=l) (ds:=ys) h2 j (by lia)) (lV n1 j) (lV n2 j) q1 q2 (by show A.units+1+n' < cLine; lia);simpa using this)
    have fin:=lr xs ys (min xs.length ys.length) 0 (bS _) rfl;rw [e1,e2,fin] at base;exact base
end K2
end
section
namespace K2
open PySem PySem.Spec PyProof.Rows L2 PySem.W
section
variable {prog:bC} {w:World} {A:cF} {E:Value->ak->Prop} {s:ak}
theorem Eu {at':Addr} {its:List Value} {n:Nat} {P:PySem.Fin->ak->Prop} (rZ:s.heap.get? at'=some (jR "list" its.toArray n)) (Il:its.length < 2)
  (done:P (.done (.ret .none)) { s with heap:=sortedHeap s.heap at' its its.toArray }):wpAny (model prog w) A (Builtin.«list.sort» ⟨[.ref at'],[]⟩) P E s:=by
 rw [list_sort_plain];have lt':at' < s.heap.objs.size:=aL rZ;refine ar (listItems_at rZ rfl (ar (listUpdate_at rZ rfl ?_)));obtain⟨c,hc⟩:∃ c,(s.heap.update at' (cU fun _=>#[])).get? at'=some (jR "list" #[] c):=⟨_,D1 rZ (fun _=>#[])⟩;refine ar (seqEpoch_at hc rfl (ar (wpAny_newTuple (ar (wpAny_newList (dQ ?_))))));have h6:(((s.heap.update at' (cU fun _=>#[])).push (jR "tuple" its.toArray 0)).push (jR "list" #[] 0)).get? at'=some (jR "list" #[] c):=by
  rw [Heap.get?_push_ne _ _ _ (by rw [size_push',ym]; exact bh (oD lt')),Heap.get?_push_ne _ _ _ (by rw [ym]; exact bh lt')];exact hc
 show wpAny (model prog w) A _ P E { s with heap:=((s.heap.update at' (cU fun _=>#[])).push (jR "tuple" its.toArray 0)).push (jR "list" #[] 0) };dsimp only;have LB:its.toArray.size < 2:=by simpa using Il
 rw [if_pos LB,if_pos LB];refine ar (a0 ?_);rw [StateT.run_pure];refine ar (a0 ?_);dsimp only;have es:(its.toArray.zip its.toArray).map (·.2)=its.toArray:=by
  apply Array.toList_inj.mp;simp [List.map_snd_zip]
 refine ar (seqEpoch_at h6 rfl (ar (listUpdate_at h6 rfl ?_ (hsz2:=by rw [show (arrOf (SortSt.mk' general' (its.toArray.zip its.toArray) #[] 7 none)).map (·.2)=its.toArray from es,cf]; simp; lia))));simp only [bne_self_eq_false,aw,if_false];refine a0 ?_;rw [show (arrOf (SortSt.mk' general' (its.toArray.zip its.toArray) #[] 7 none)).map (·.2)=its.toArray from es];exact done
theorem Ax{l:Addr}{its:List Value}{Q:Value->ak->Prop}(hl:s.heap.IsList l its.toArray)(Il:its.length < 2)
  (done:Q (.ref (s.heap.objs.size+1)) { s with heap:=sortedAll s.heap its its.toArray }):wpAny (model prog w) A (call (.builtin "sorted") [.ref l]) Q E s:=by
 refine Calls.call_function_entry kind_sorted plain_sorted entry_sorted (args_sorted1 _) ?_;unfold Builtin.«sorted»;refine ar (m:=checkCount "sorted" 1 1 _) (a0 (ar (collect_list hl (ar (wpAny_newList ?_)))));have e1:((s.heap.push (jR "list" #[] 0)).update s.heap.objs.size (cU (·++its.toArray))).objs.size=s.heap.objs.size+1:=by rw [ym,size_push']
 have e2:(((s.heap.push (jR "list" #[] 0)).update s.heap.objs.size (cU (·++its.toArray))).push (jR "list" its.toArray 0)).get? (s.heap.objs.size+1)=some (jR "list" its.toArray 0):=by
  rw [<-e1]; exact ba _ rfl
 show wpAny _ _ _ _ _ { s with heap:=((s.heap.push (jR "list" #[] 0)).update s.heap.objs.size (cU (·++its.toArray))).push (jR "list" its.toArray 0) };rw [e1];refine ar (dQ (wpAny_call_entry slot_list_sort ⟨_,e2,rfl⟩ entry_list_sort (Eu e2 Il ⟨_,rfl,?_⟩) (args_list_sort _)));exact a0 ⟨_,rfl,done⟩
end
section
open PySem.SeqAt
noncomputable def Gv(A:cF)(s:ak)(y x:Value)(b:Bool):Prop :=
 ∀ (prog:bC) (w:World) (E:Value->ak->Prop) (Q:Bool->ak->Prop),Q b s->wpAny (model prog w) A (oneLt' true y x) Q E s
theorem AE{A:cF}{s:ak}{l b:Addr}{xs ys:Array Value}{e lt:Nat->Bool}(hl:s.heap.IsList l xs)(hb:s.heap.IsList b ys)(hu:A.units < cLine)
  (he:∀ j (h1:j < xs.size) (h2:j < ys.size),EqAt A.in1 s xs[j] ys[j] (e j)/\sI A.in1 s xs[j] ys[j] (lt j)):Gv A s (.ref l) (.ref b) (oG e lt xs.size ys.size (min xs.size ys.size) 0):=by
 intro prog w E Q hq;obtain⟨⟨cls,dd,data,sl⟩,ho,hc,n,hd⟩:=id hl;obtain⟨⟨FZ,yr,data2,BB⟩,wC,uG,n2,hd2⟩:=id hb;simp only at hc hd uG hd2;subst hc hd uG hd2;rw [oneLt'_eq];simp only [if_true];refine ar (wpAny_cRoomFor hu (ar (Bk (T:="list") ⟨_,ho,rfl⟩ pK ?_)));exact vg pK ⟨_,ho,rfl⟩ Cz (Bo _ _) (wz l b xs ys n n2 dd yr sl BB e lt) ⟨ho,wC,he,iP hq⟩
theorem yT{A:cF}{s:ak}{l b:Addr}{xs ys:Array Value}{e lt:Nat->Bool}(hl:s.heap.IsTuple l xs)(hb:s.heap.IsTuple b ys)(hu:A.units < cLine)
  (he:∀ j (h1:j < xs.size) (h2:j < ys.size),EqAt A.in1 s xs[j] ys[j] (e j)/\sI A.in1 s xs[j] ys[j] (lt j)):Gv A s (.ref l) (.ref b) (oG e lt xs.size ys.size (min xs.size ys.size) 0):=by
 intro prog w E Q hq;obtain⟨⟨cls,dd,data,sl⟩,ho,hc,n,hd⟩:=id hl;obtain⟨⟨FZ,yr,data2,BB⟩,wC,uG,n2,hd2⟩:=id hb;simp only at hc hd uG hd2;subst hc hd uG hd2;rw [oneLt'_eq];simp only [if_true];refine ar (wpAny_cRoomFor hu (ar (Bk (T:="tuple") ⟨_,ho,rfl⟩ jC ?_)));exact vg jC ⟨_,ho,rfl⟩ oB (mY _ _) (tS l b xs ys n n2 dd yr sl BB e lt) ⟨ho,wC,he,iP hq⟩
theorem zd{n:Nat}{A:cF}{s:ak}{xs ys:List D}{vs ws:Array Value}{as bs:List Addr}(r1:fC s.heap vs.toList (jy xs) as)(r2:fC s.heap ws.toList (jy ys) bs)(n1:mE xs=true)(n2:mE ys=true)(hd:bI (jy xs)<=n)
  (hu:A.units+n < cLine) (hs:∀ j,j < xs.length->j < ys.length->∃ sh,bX sh (xs.getD j .cR)=true/\bX sh (ys.getD j .cR)=true) (j:Nat) (h1:j < vs.size) (h2:j < ws.size) :
  EqAt A s vs[j] ws[j] (gy (xs.getD j .cR) (ys.getD j .cR))/\sI A s vs[j] ws[j] (ku (xs.getD j .cR) (ys.getD j .cR)):=by
 have z1:=readsAll_len r1;have z2:=readsAll_len r2;have e1:vs.size=xs.length:=by simpa using z1
 have e2:ws.size=ys.length:=by simpa using z2
 refine⟨xT r1 r2 n1 n2 (by lia) j h1 h2,?_⟩;obtain⟨M5,q1⟩:=iD r1 j (by simpa using h1);obtain⟨MZ,q2⟩:=iD r2 j (by simpa using h2);obtain⟨sh,g1,g2⟩:=hs j (by lia) (by lia);have dp:=ji xs j;have:=lY n sh (xs.getD j .cR) (ys.getD j .cR) A s _ _ _ _ (by lia) g1 g2 (lV n1 j) (lV n2 j) q1 q2 hu;simpa using this
theorem rW{n:Nat}{sh:kl}{a b:D}{A:cF}{s:ak}{u v:Value}{as bs:List Addr}(hn:(pd a).depth<=n)(h1:bX sh a=true)(h2:bX sh b=true)(n1:nr a=true)(n2:nr b=true)(r1:Reads s.heap u (pd a) as)(r2:Reads s.heap v (pd b) bs)
  (hu:A.units+n < cLine):Gv A s u v (ku a b):=by
 cases sh with
 | int =>
  first | obtain⟨_,rfl⟩:=cI h1 | obtain⟨_,rfl⟩:=cG h1 | obtain⟨_,rfl⟩:=cH h1
  first | obtain⟨_,rfl⟩:=cI h2 | obtain⟨_,rfl⟩:=cG h2 | obtain⟨_,rfl⟩:=cH h2
  cases r1; cases r2;intro prog w E Q hq;exact oneLt_int hq
 | tup l =>
  first | obtain⟨_,rfl⟩:=cI h1 | obtain⟨_,rfl⟩:=cG h1 | obtain⟨_,rfl⟩:=cH h1
  first | obtain⟨_,rfl⟩:=cI h2 | obtain⟨_,rfl⟩:=cG h2 | obtain⟨_,rfl⟩:=cH h2
  rename_i xs ys;have n1:mE xs=true:=n1;have n2:mE ys=true:=n2;cases r1 with
  | tuple k1 k2 k3 k4 =>
   cases r2 with
   | tuple m1 m2 m3 m4 =>
    rename_i p o vs c p' o' ws c';have hd:(pd (.tup xs)).depth=bI (jy xs)+1:=rfl;obtain⟨n',rfl⟩:∃ n',n=n'+1:=⟨n - 1,by lia⟩;have z1:=readsAll_len k4;have z2:=readsAll_len m4;have e1:vs.size=xs.length:=by simpa using z1
    have e2:ws.size=ys.length:=by simpa using z2
    have base:=yT (A:=A) (s:=s) ⟨_,k1,k2,_,k3⟩ ⟨_,m1,m2,_,m3⟩ (by lia) (zd (A:=A.in1) (n:=n') k4 m4 n1 n2 (by lia) (by show A.units+1+n' < cLine; lia) fun j j1 j2=>by
     obtain⟨sj,S2,g1,g2⟩:=nR (l:=l) (ds:=xs) h1 j j1;obtain⟨RS,PA,MP,MO⟩:=nR (l:=l) (ds:=ys) h2 j j2;rw [g2] at MO; cases MO;exact⟨sj,g1,MP⟩)
    have fin:=lr xs ys (min xs.length ys.length) 0 (bS _) rfl;rw [e1,e2,fin] at base;exact base
 | lst l =>
  first | obtain⟨_,rfl⟩:=cI h1 | obtain⟨_,rfl⟩:=cG h1 | obtain⟨_,rfl⟩:=cH h1
  first | obtain⟨_,rfl⟩:=cI h2 | obtain⟨_,rfl⟩:=cG h2 | obtain⟨_,rfl⟩:=cH h2
  rename_i xs ys;have n1:mE xs=true:=n1;have n2:mE ys=true:=n2;cases r1 with
  | list k1 k2 k3 k4 =>
   cases r2 with
   | list m1 m2 m3 m4 =>
    rename_i p o vs c p' M5 o' ws c' MZ;have hd:(pd (.dm xs)).depth=bI (jy xs)+1:=rfl;obtain⟨n',rfl⟩:∃ n',n=n'+1:=⟨n - 1,by lia⟩;have z1:=readsAll_len k4;have z2:=readsAll_len m4;have e1:vs.size=xs.length:=by simpa using z1
    have e2:ws.size=ys.length:=by simpa using z2
    have base:=AE (A:=A) (s:=s) ⟨_,k1,k2,_,k3⟩ ⟨_,m1,m2,_,m3⟩ (by lia) (zd (A:=A.in1) (n:=n') k4 m4 n1 n2 (by lia) (by show A.units+1+n' < cLine; lia) fun j j1 j2=>⟨l,nS (s:=l) (ds:=xs) h1 j j1,nS (s:=l) (ds:=ys) h2 j j2⟩);have fin:=lr xs ys (min xs.length ys.length) 0 (bS _) rfl;rw [e1,e2,fin] at base;exact base
theorem xD{prog:bC}{w:World}{A:cF}{s:ak}{b fin:Bool}{Q:Bool->ak->Prop}{n:Nat}(hu:A.units+n < cLine):∀ (l:List kl) (xs ys:List D) (vs ws:List Value) (as bs:List Addr) (i:Nat),eg l xs=true->eg l ys=true->mE xs=true->mE ys=true ->
  fC s.heap vs (jy xs) as->fC s.heap ws (jy ys) bs->bI (jy xs)<=n->fin=false->Q (kr xs ys) s->KatLex prog w A b fin Q (vs.zip ws) i s:=by
 intro l xs;induction xs generalizing l with
 | nil =>
  intro ys vs ws as bs i h1 h2 n1 n2 r1 r2 hd hf hq;cases r1;cases l with
  | nil =>
   cases ys with
   | nil=>cases r2; subst hf; exact hq
   | cons _ _=>cases h2
  | cons _ _=>cases h1
 | cons x xs ih =>
  intro ys vs ws as bs i h1 h2 n1 n2 r1 r2 hd hf hq;cases l with
  | nil=>cases h1
  | cons sh l =>
  cases ys with
  | nil=>cases h2
  | cons y ys =>
  cases r1 with
  | @cons v vs _ _ _ _ a1 a2 =>
  cases r2 with
  | @cons u ws _ _ _ _ b1 b2 =>
  have h1:(bX sh x&&eg l xs)=true:=h1;have h2:(bX sh y&&eg l ys)=true:=h2;have n1:(nr x&&mE xs)=true:=n1;have n2:(nr y&&mE ys)=true:=n2;rw [aK] at h1 h2 n1 n2;have MC:(pd x).depth<=n/\bI (jy xs)<=n:=by
   have hd:bI (pd x :: jy xs)<=n:=hd;simp only [bI] at hd;lia
  show KatLex prog w A b fin Q ((v,u) :: vs.zip ws) i s;have eq:=eqAt_reads (pd x) (pd y) A s _ _ _ _ a1 b1 (iE _ n1.1) (iE _ n2.1) (by lia);rw [pk _ _ n1.1 n2.1] at eq;refine kat_cons (eq prog w _ _ ?_);rw [lX] at hq;cases q:gy x y with
  | true =>
   rw [q,if_pos rfl] at hq;exact kat_yes (ih l ys vs ws _ _ (i+1) h1.2 h2.2 n1.2 n2.2 a2 b2 MC.2 hf hq)
  | false =>
   rw [q,if_neg (by simp)] at hq;refine kat_no ?_;cases c:(b&&i == 0) with
   | true=>exact rW MC.1 h1.1 h2.1 n1.1 n2.1 a1 b1 hu prog w _ Q hq
   | false=>exact kat_one v u (lY n sh x y A s _ _ _ _ MC.1 h1.1 h2.1 n1.1 n2.1 a1 b1 hu prog w _ _ hq)
end
noncomputable def jk{α:Type}(n:Nat)(P:α->Prop):KasT α->Prop
 | .ret a=>P a
 | .ask i j k=>i < n/\j < n/\∀ b,jk n P (k b)
theorem jk.bind{α β:Type}{n:Nat}{P:α->Prop}{P':β->Prop}{f:α->KasT β}:∀ {t:KasT α},jk n P t->(∀ a,P a->jk n P' (f a))->jk n P' (t.bind f)
 | .ret a,q,h=>h a q
 | .ask i j k,⟨q1,q2,q3⟩,h=>⟨q1,q2,fun b=>jk.bind (q3 b) h⟩
theorem zb{α:Type}{n:Nat}{lt:Nat->Nat->Bool}{cmp:Nat->Nat->(Bool->ak->Prop)->ak->Prop}{s:ak}{Q:α->ak->Prop}(hc:∀ i j,i < n->j < n->∀ C:Bool->ak->Prop,C (lt i j) s->cmp i j C s) :
  ∀ (t:KasT α),jk n (fun _=>True) t->Q (fW lt t) s->t.kasWp cmp Q s
 | .ret a,_,q=>q
 | .ask i j k,⟨h1,h2,h3⟩,q=>hc i j h1 h2 _ (zb hc (k (lt i j)) (h3 _) q)
noncomputable def Bd(n:Nat)(p:Array Nat):Prop:=0 < n/\∀ x∈p,x < n
theorem Bd.at{n:Nat}{p:Array Nat}(h:Bd n p)(k:Nat):p.getD k 0 < n:=by
 by_cases hk:k < p.size
 ·have:p.getD k 0=p[k]:=by simp [Br,hk]
  rw [this]; exact h.2 _ (Array.getElem_mem hk)
 ·have:p.getD k 0=0:=by simp [Br,hk]
  rw [this]; exact h.1
theorem Bd.perm{n:Nat}{p q:Array Nat}(h:Bd n p)(hp:q.Perm p):Bd n q:=⟨h.1,fun x hx=>h.2 x (hp.mem_iff.mp hx)⟩
theorem x6{n:Nat}{p:Array Nat}(h:Bd n p):∀ (f k:Nat),jk n (fun _=>True) (mU p f k)
 | 0,k=>trivial
 | f+1,k=>⟨h.at _,h.at _,fun b=>by
  show jk n _ (if b=true then qV k else mU p f (k+1));split
  ·trivial
  ·exact x6 h f (k+1)⟩
theorem qI{n:Nat}:∀ (f:Nat) (p:Array Nat) (k q:Nat),Bd n p->jk n (fun r=>Bd n r.1) (jl f p k q)
 | 0,p,k,q,h=>h
 | f+1,p,k,q,h=>⟨h.at _,h.at _,fun b=>by
  show jk n _ (if b=true then (if q > 0 then jl f (fg p (k - (q+1)) k) (k+1) 0 else jl f p (k+1) 0) else .ask (p.getD (k - 1) 0) (p.getD k 0) fun d=>if d=true then .ret (p,k,q) else jl f p (k+1) (q+1));split
  ·split
   ·exact qI f _ _ _ (h.perm (iC _ _ _))
   ·exact qI f _ _ _ h
  ·refine⟨h.at _,h.at _,fun d=>?_⟩;show jk n _ (if d=true then qV (p,k,q) else jl f p (k+1) (q+1));split
   ·exact h
   ·exact qI f _ _ _ h⟩
theorem zK{n:Nat}{p:Array Nat}(h:Bd n p)(k m:Nat):jk n (fun r=>Bd n r.2) (DZ k m p) :=
 jk.bind (x6 (h.perm (iC _ _ _)) _ _) fun _ _=>h.perm (iC _ _ _)
theorem qH{n:Nat}{p:Array Nat}(h:Bd n p)(k m:Nat):jk n (fun r=>Bd n r.2) (tN k m p) :=
 jk.bind (qI _ _ _ _ h) fun r hr=>by
  split
  ·exact zK (hr.perm (iC _ _ _)) _ _
  ·exact zK hr _ _
theorem Du{n:Nat}{p:Array Nat}(h:Bd n p)(m:Nat):jk n (fun r=>Bd n r.2) (kas_count m p) :=
 jk.bind (x6 h _ _) fun k _=>by
  split
  ·exact h
  ·split
   ·refine⟨h.at _,h.at _,fun b=>?_⟩;show jk n _ (if b=true then qV (k,p) else tN k m (fg p 0 k));split
    ·exact h
    ·exact qH (h.perm (iC _ _ _)) _ _
   ·exact qH h _ _
theorem rM{n:Nat}{p:Array Nat}(h:Bd n p)(k:Nat):∀ (f l r:Nat),jk n (fun _=>True) (iy p k f l r)
 | 0,l,r=>trivial
 | f+1,l,r=>by
  show jk n _ (if l>=r then qV l else .ask (p.getD k 0) (p.getD ((l+r) / 2) 0) fun c=>if c=true then iy p k f l ((l+r) / 2) else iy p k f ((l+r) / 2+1) r);split
  ·trivial
  ·refine⟨h.at _,h.at _,fun b=>?_⟩;show jk n _ (if b=true then iy p k f l ((l+r) / 2) else iy p k f ((l+r) / 2+1) r);split
   ·exact rM h k f _ _
   ·exact rM h k f _ _
theorem Ct{n:Nat}:∀ (f:Nat) (p:Array Nat) (k:Nat),Bd n p->jk n (fun _=>True) (kas_bin f p k)
 | 0,p,k,h=>trivial
 | f+1,p,k,h=>jk.bind (rM h k _ _ _) fun l _=>Ct f _ _ (h.perm (bubble_perm _ _ _))
theorem Gr{n:Nat}(h:0 < n):jk n (fun _=>True) (kas_sort n) :=
 jk.bind (Du ⟨h,fun x hx=>by simpa using hx⟩ n) fun r hr=>by
  split
  ·exact Ct _ _ _ hr
  ·trivial
end K2
end
section
namespace K2
open PySem PySem.Spec PyProof.Rows L2 PySem.W
mutual
theorem rT{h h':Heap}(hk:∀ b o vs n,o.data=.seq vs n->h.get? b=some o->h'.get? b=some o):∀ (d:D) {v:Value} {as:List Addr},nr d=true->Reads h v (pd d) as->Reads h' v (pd d) as
 | .cR,_,_,_,r=>by cases r; exact .none
 | .bl b,_,_,_,r=>by cases r; exact .bool b
 | .int i,_,_,_,r=>by cases r; exact .int i _
 | .str x,_,_,_,r=>by cases r; exact .str x _
 | .tup ds,_,_,n,r=>by
  cases r with
  | tuple h1 h2 h3 h4=>exact .tuple (hk _ _ _ _ h3 h1) h2 h3 (jX hk ds n h4)
 | .dm ds,_,_,n,r=>by
  cases r with
  | list h1 h2 h3 h4=>exact .list (hk _ _ _ _ h3 h1) h2 h3 (jX hk ds n h4)
 | .mR _,_,_,n,_=>by cases n
 | .ref _,_,_,n,_=>by cases n
 | .exc _,_,_,n,_=>by cases n
theorem jX{h h':Heap}(hk:∀ b o vs n,o.data=.seq vs n->h.get? b=some o->h'.get? b=some o):∀ (ds:List D) {vs:List Value} {as:List Addr},mE ds=true->fC h vs (jy ds) as->fC h' vs (jy ds) as
 | [],_,_,_,r=>by cases r; exact .nil
 | d :: ds,_,_,n,r=>by
  have n:(nr d&&mE ds)=true:=n;rw [aK] at n;cases r with
  | cons r1 r2=>exact .cons (rT hk d n.1 r1) (jX hk ds n.2 r2)
end
mutual
theorem Ay(G:Gp):∀ (sh:kl) (d:D) (n:Nat),bX sh d=true->Jc sh<=n->Sn G n d d
 | .int,.int i,n,_,_=>.int i
 | .tup l,.tup ds,n,h,hn=>by
  have hn:FP l+1<=n:=hn;obtain⟨m,rfl⟩:∃ m,n=m+1:=⟨n - 1,by lia⟩;exact By G l ds m h (by lia)
 | .lst s,.dm ds,n,h,hn=>by
  have hn:Jc s+1<=n:=hn;obtain⟨m,rfl⟩:∃ m,n=m+1:=⟨n - 1,by lia⟩;exact Bz G s ds m h (by lia)
theorem By(G:Gp):∀ (l:List kl) (ds:List D) (m:Nat),eg l ds=true->FP l<=m->Sn G (m+1) (.tup ds) (.tup ds)
 | [],[],m,_,_=>.Av
 | s :: l,d :: ds,m,h,hm=>by
  have h:(bX s d&&eg l ds)=true:=h;have hm:max (Jc s) (FP l)<=m:=hm;rw [aK] at h;exact .ni (Ay G s d m h.1 (by lia)) (By G l ds m h.2 (by lia))
theorem Bz(G:Gp):∀ (s:kl) (ds:List D) (m:Nat),fx s ds=true->Jc s<=m->Sn G (m+1) (.dm ds) (.dm ds)
 | s,[],m,_,_=>.CK
 | s,d :: ds,m,h,hm=>by
  have h:(bX s d&&fx s ds)=true:=h;rw [aK] at h;exact .wd (Ay G s d m h.1 hm) (Bz G s ds m h.2 hm)
end
theorem getD_at{α:Type}(xs:List α)(d:α){i:Nat}(h:i < xs.length):xs.getD i d=xs[i]:=by
 rw [aN,aq h]; rfl
theorem uf{α:Type}(xs:List α)(d:α):(bP xs.length).map (fun i=>xs.getD i d)=xs:=by
 refine List.ext_getElem (by simp) fun i h1 h2=>?_;rw [cQ,fE];exact getD_at _ _ h2
theorem yB{h:Heap}{s1:kl}{l:List kl}:∀ (zs:List D) (vs:List Value),(∀ z∈zs,bX (.tup (s1 :: l)) z=true)->(∀ i,i < vs.length->∃ as,Reads h (vs.getD i .none) (pd (zs.getD i .cR)) as)->vs.length=zs.length ->
  ∃ fs,KatTups h vs fs/\fs.length=vs.length/\∀ f∈fs,∃ d as,bX s1 d=true/\Reads h f (pd d) as:=by
 intro zs;induction zs with
 | nil =>
  intro vs _ _ h;have:vs=[]:=List.length_eq_zero_iff.mp h;subst this;exact⟨[],trivial,rfl,fun _ h=>by cases h⟩
 | cons z zs ih =>
 intro vs hs hr hl;cases vs with
 | nil=>cases hl
 | cons v vs =>
  obtain⟨fs,h1,h2,h3⟩:=ih vs (fun z hz=>hs z (aE _ hz)) (fun i hi=>by
   obtain⟨as,r⟩:=hr (i+1) (by simpa using hi);exact⟨as,by simpa using r⟩) (by simpa using hl)
  obtain⟨as,r⟩:=hr 0 (by simp);have hz:=hs z (by simp);simp only [List.getD_cons_zero] at r;cases z <;> first | (cases hz; done) | skip
  rename_i ds;cases ds with
  | nil=>cases hz
  | cons d ds =>
   have hz:(bX s1 d&&eg l ds)=true:=hz;rw [aK] at hz;cases r with
   | tuple k1 k2 k3 k4 =>
    rename_i p o ws c;have k5:fC h ws.toList (pd d :: jy ds) as:=k4;cases q:ws.toList with
    | nil=>rw [q] at k5; cases k5
    | cons f rest =>
     rw [q] at k5;cases k5 with
     | cons r1 r2 =>
      have hf:ws[0]?=some f:=by
       have:ws.toList[0]?=some f:=by rw [q]; rfl
       simpa using this
      refine⟨f :: fs,.cons k1 k2 k3 hf h1,by simp [h2],fun g hg=>?_⟩;rcases List.mem_cons.mp hg with rfl | hg
      ·exact⟨d,_,hz.1,r1⟩
      ·exact h3 g hg
noncomputable def Eh:kl->Value
 | .int=>.type "int"
 | .tup _=>.type "tuple"
 | .lst _=>.type "list"
theorem wy{M:Model}{h:Heap}{sh:kl}{d:D}{v:Value}{as:List Addr}(hs:bX sh d=true)(r:Reads h v (pd d) as):Looks M h (typeOf v) (Eh sh):=by
 cases sh with
 | int =>
  cases d <;> first | (cases hs; done) | skip
  cases r;exact .now
 | tup l =>
  cases d <;> first | (cases hs; done) | skip
  cases r with
  | tuple k1 k2 k3 k4 =>
   rename_i p o ws c;have:Looks M h (typeOf (.ref p)) o.cls:=(Looks.ld k1).andThen .now;rw [k2] at this; exact this
 | lst l =>
  cases d <;> first | (cases hs; done) | skip
  cases r with
  | list k1 k2 k3 k4 =>
   rename_i p o ws c as;have:Looks M h (typeOf (.ref p)) o.cls:=(Looks.ld k1).andThen .now;rw [k2] at this; exact this
theorem C2{prog:bC}{w:World}{A:cF}{s:ak}{E:Value->ak->Prop}{Q:Bool->ak->Prop}{n:Nat}{b:Bool}{l:List kl}{a c:D}{u v:Value}{as bs:List Addr}(hn:(pd a).depth<=n+1)(h1:bX (.tup l) a=true)(h2:bX (.tup l) c=true)(n1:nr a=true)(n2:nr c=true)
  (r1:Reads s.heap u (pd a) as) (r2:Reads s.heap v (pd c) bs) (hu:A.units+n < cLine) (hq:Q (ku a c) s):wpAny (model prog w) A (keyLt' (tuples' b) u v) Q E s:=by
 first | obtain⟨_,rfl⟩:=cI h1 | obtain⟨_,rfl⟩:=cG h1 | obtain⟨_,rfl⟩:=cH h1
 first | obtain⟨_,rfl⟩:=cI h2 | obtain⟨_,rfl⟩:=cG h2 | obtain⟨_,rfl⟩:=cH h2
 rename_i xs ys;cases r1 with
 | tuple k1 k2 k3 k4 =>
  cases r2 with
  | tuple m1 m2 m3 m4 =>
   rename_i p o vs c p' o' ws c';have z1:=readsAll_len k4;have z2:=readsAll_len m4;have e1:vs.size=xs.length:=by simpa using z1
   have e2:ws.size=ys.length:=by simpa using z2
   have el:∀ (l:List kl) (xs ys:List D),eg l xs=true->eg l ys=true->xs.length=ys.length:=by
    intro l;induction l with
    | nil =>
     intro xs ys h1 h2;cases xs with
     | nil=>cases ys with
      | nil=>rfl
      | cons _ _=>cases h2
     | cons _ _=>cases h1
    | cons s l ih =>
     intro xs ys h1 h2;cases xs with
     | nil=>cases h1
     | cons x xs =>
      cases ys with
      | nil=>cases h2
      | cons y ys =>
       have h1:(bX s x&&eg l xs)=true:=h1;have h2:(bX s y&&eg l ys)=true:=h2;rw [aK] at h1 h2;rw [ai,ai,ih xs ys h1.2 h2.2]
   have hd:(pd (.tup xs)).depth=bI (jy xs)+1:=rfl;refine kat_lt k1 k3 m1 m3 (xD (n:=n) hu l xs ys _ _ _ _ 0 h1 h2 n1 n2 k4 m4 (by lia) (decide_eq_false (by rw [e1,e2,el l xs ys h1 h2]; lia)) hq)
section
variable {X:Cx}
theorem CV{x:D}{G:Gp}{zs:List D}(ty:sR x G)(hi:itemsOf x G=some zs):mF x G=some zs:=by
 cases x <;> first | exact ty.elim | exact hi
theorem x4 (hc:X.calm=true) (hu:X.A.units+64 < cLine):oe X (.builtin "sorted") tG:=by
 intro pins s σ H G xs ds us Q I ab rx rd q;unfold tG at q;split at q
 ·rename_i x;obtain⟨sh,zs,ty,hi,Fy,dA,Vv,q⟩:=q;obtain⟨w1,rfl,GZ⟩:=rd.one;obtain⟨u,rfl,ru⟩:=rx.one;obtain⟨l,vs,its,rfl,rv,rs,hl,_⟩:=kd I ab ru GZ (CV ty hi);have Th:=rv.length;have Kl:=rs.length;have hsz:aX=16777216:=cf;have hz:∀ z∈zs,bX sh z=true:=fun z h=>List.all_eq_true.mp Fy z h;by_cases Il:its.length < 2
  ·refine Ax hl Il ?_;obtain⟨e,he⟩:=sortedAll_at s.heap its its.toArray;have hp:H (s.heap.objs.size+1)=none:=I.dA.fresh (oZ _);have es:nj zs=zs:=pQ sh hz (.refl _) (by
    match zs,Kl,Il with
    | [],_,_=>exact .nil
    | [z],_,_=>exact List.pairwise_singleton _ _
    | _ :: _ :: _,h,f=>exact absurd f (by rw [<-Th,h]; simp))
   rw [es] at q;refine⟨.ref (s.heap.objs.size+1),upd H (s.heap.objs.size+1) (.lst vs),.ref _,_,I.laid (t':=s.toks) (fun b o e=>sortedAll_old e) (oZ _) ?_,.xw ab hp rs,rfl,.ref _,q _ (ab.free hp)⟩;exact⟨by lia,its,e,rv,he⟩
  ·obtain⟨m,F0⟩:=I.fr;have nz:0 < zs.length:=by lia
   have nL:∀ b o vs n,o.data=.seq vs n->s.heap.get? b=some o->b≠X.env.locals:=fun b o vs n e1 e2 z=>by
    obtain⟨o',es,ep,H0,C9,_⟩:=F0.ns;rw [z,H0] at e2; cases e2; rw [C9] at e1; cases e1
   unfold JS at dA;rw [aK] at dA;have Tx:Jc sh<=7:=of_decide_eq_true dA.1;have sn:∀ z∈zs,Sn G 7 z z:=fun z h=>Ay G sh z 7 (hz z h) Tx;refine kat_sorted F0 yV hl (by lia) (by lia) fun Dd e1 h' F N sD=>?_;obtain⟨kk,ns⟩:=rp I F0 F fun p hp=>N p (aE _ hp);have zX:∀ i,i < its.length->∃ as,Reads h' (its.getD i .none) (pd (zs.getD i .cR)) as:=fun i hi=>by
    have i1:i < zs.length:=by lia
    have i2:i < vs.length:=by lia
    have g1:zs.getD i .cR=zs[i]:=getD_at _ _ i1;have g2:its.getD i .none=its[i]:=getD_at _ _ hi;obtain⟨v,hv,LN⟩:=rs.get (aq i1);obtain⟨u,yp,OA⟩:=rv.get hv;rw [aq hi] at yp;cases yp;obtain⟨as,r⟩:=(eV I ab (sn _ (cP i1))).1 v _ LN OA;rw [g1,g2];exact⟨as,rT (fun b o vs n e1 e2=>kk b o (nL b o vs n e1 e2) e2) _ (sn _ (cP i1)).nr r⟩
   have w9:∀ i,i < zs.length->bX sh (zs.getD i .cR)=true:=fun i hi=>by rw [getD_at _ _ hi]; exact hz _ (cP hi)
   have Nw:∀ i,i < zs.length->nr (zs.getD i .cR)=true:=fun i hi=>by rw [getD_at _ _ hi]; exact(sn _ (cP hi)).nr
   have Rj:∀ i,i < zs.length->(pd (zs.getD i .cR)).depth<=7:=fun i hi=>by rw [getD_at _ _ hi]; exact rH (sn _ (cP hi))
   let zz:Nat->D:=fun i=>if i < zs.length then zs.getD i .cR else zs.getD 0 .cR
   have Lp:∀ i,bX sh (zz i)=true:=fun i=>by
    show bX sh (if i < zs.length then zs.getD i .cR else zs.getD 0 .cR)=true;split
    ·exact w9 i (by assumption)
    ·exact w9 0 nz
   let lt:Nat->Nat->Bool:=fun i j=>ku (zz i) (zz j)
   have RP:Dw lt:=⟨fun i j h=>wx sh (Lp i) (Lp j) h,fun i j k h1 h2=>uj sh (Lp i) (Lp j) (Lp k) h1 h2⟩;have QG:∀ i j,i < zs.length->j < zs.length->lt i j=ku (zs.getD i .cR) (zs.getD j .cR):=fun i j hi hj=>by
    show ku (if i < zs.length then _ else _) (if j < zs.length then _ else _)=_;rw [if_pos hi,if_pos hj]
   obtain⟨p,ep,zf,Qv,SW⟩:=EA RP (n:=its.length) (by lia);have Rb:X.A.in1.in1.units=X.A.units+2:=rfl;have ask:∀ κ:SortKind,(∀ i j,i < its.length->j < its.length->∀ C:Bool->ak->Prop,C (ku (zs.getD i .cR) (zs.getD j .cR)) { s with heap:=h' }->kas_ask X.prog X.w X.A.in1.in1 κ its i j C { s with heap:=h' }) ->
     (kas_sort its.length).kasWp (kas_ask X.prog X.w X.A.in1.in1 κ its) (fun p Jz=>KasFin X.base X.env.locals m Dd e1 (p.toList.map fun i=>its.getD i k6) (fun s3=>oA X pins σ H G Q (.ref Dd) s3) Jz) { s with heap:=h' }:=by
    intro κ hk;refine zb (lt:=lt) (n:=its.length) (fun i j i1 i2 C hC=>hk i j i1 i2 C (by rw [<-QG i j (by lia) (by lia)]; exact hC)) _ (Gr (by lia)) ?_;rw [ep];refine KasFin.intro (g:=fun o=>(Dd,o) :: oz X.base s.heap X.env.locals) F N (.head (fun q hq z=>absurd (sD q hq) (by rw [z]; exact fF _))) fun h2 c F2 N2=>?_;obtain⟨k2,Sq⟩:=rp I F0 F2 fun p hp=>N2 p (aE _ hp);have hD:s.heap.get? Dd=none:=by
     have nD:=N _ bb;cases qd:s.heap.get? Dd with
     | none=>rfl
     | some o=>exact absurd (sD _ (rX nD.2.1 nD.2.2 qd)) (fF _)
    have hp:H Dd=none:=Cb I.dA hD;have RW:Vals (p.toList.map fun i=>vs.getD i .cR) (p.toList.map fun i=>its.getD i k6):=by
     have:∀ (ps:List Nat),(∀ i∈ps,i < its.length)->Vals (ps.map fun i=>vs.getD i .cR) (ps.map fun i=>its.getD i k6):=by
      intro ps;induction ps with
      | nil=>intro _; exact .nil
      | cons i ps ih =>
       intro hh;have hi:=hh i (by simp);refine .cons ?_ (ih fun j hj=>hh j (aE _ hj));have i2:i < vs.length:=by lia
       obtain⟨u,yp,OA⟩:=rv.get (aq i2);rw [aq hi] at yp;cases yp;show RelV (vs.getD i .cR) (its.getD i .none);rw [getD_at _ _ i2,getD_at _ _ hi]; exact OA
     exact this _ fun i hi=>by simpa using zf.mem_iff.mp hi
    have R0:a5 X.K H (p.toList.map fun i=>vs.getD i .cR) (p.toList.map fun i=>zs.getD i .cR):=by
     have:∀ (ps:List Nat),(∀ i∈ps,i < its.length)->a5 X.K H (ps.map fun i=>vs.getD i .cR) (ps.map fun i=>zs.getD i .cR):=by
      intro ps;induction ps with
      | nil=>intro _; exact .nil
      | cons i ps ih =>
       intro hh;have hi:=hh i (by simp);refine .cons ?_ (ih fun j hj=>hh j (aE _ hj));have i2:i < vs.length:=by lia
       have i1:i < zs.length:=by lia
       obtain⟨v,hv,r⟩:=rs.get (aq i1);rw [aq i2] at hv;cases hv;show bW X.K H (vs.getD i .cR) (zs.getD i .cR);rw [getD_at _ _ i2,getD_at _ _ i1]; exact r
     exact this _ fun i hi=>by simpa using zf.mem_iff.mp hi
    have es:nj zs=p.toList.map fun i=>zs.getD i .cR:=by
     refine pQ sh hz ?_ ?_
     ·have h1:(p.toList.map fun i=>zs.getD i .cR).Perm ((bP zs.length).map fun i=>zs.getD i .cR):=by
       have:its.length=zs.length:=by lia
       rw [<-this];exact zf.map _
      rw [uf] at h1;exact h1
     ·rw [List.pairwise_map,List.pairwise_iff_getElem];intro i j hi hj zg;have g1:gA p i=p.toList[i]:=by
       have:i < p.size:=by simpa using hi
       simp [gA,Br,this]
      have g2:gA p j=p.toList[j]:=by
       have:j < p.size:=by simpa using hj
       simp [gA,Br,this]
      have bi:p.toList[i] < its.length:=by simpa using zf.mem_iff.mp (cP hi)
      have bj:p.toList[j] < its.length:=by simpa using zf.mem_iff.mp (cP hj)
      have:=SW i j (by lia) (by have:j < p.toList.length:=hj; rw [eW,Qv] at this; exact this);rw [g1,g2,QG _ _ (by lia) (by lia)] at this;exact this
    rw [es] at q;have ln:(p.toList.map fun i=>vs.getD i .cR).length<=aX:=by rw [af,eW,Qv]; lia
    refine⟨.ref Dd,upd H Dd (.lst (p.toList.map fun i=>vs.getD i .cR)),.ref _,_,Inv.IS (t':=s.toks) I k2 Sq hD ?_,.xw ab hp R0,rfl,.ref _,q _ (ab.free hp)⟩;exact⟨ln,_,c,RW,(N2 _ bb).1⟩
   have gen:∀ i j,i < its.length->j < its.length->∀ C:Bool->ak->Prop,C (ku (zs.getD i .cR) (zs.getD j .cR)) { s with heap:=h' }->wpAny (model X.prog X.w) X.A.in1.in1 (keyLt' oneType' (its.getD i k6) (its.getD j k6)) C (fun _ _=>False) { s with heap:=h' }:=by
    intro i j hi hj C hC;obtain⟨as,r1⟩:=zX i hi;obtain⟨bs,r2⟩:=zX j hj;rw [keyLt'_oneType];exact rW (s:={ s with heap:=h' }) (n:=7) (Rj i (by lia)) (w9 i (by lia)) (w9 j (by lia)) (Nw i (by lia)) (Nw j (by lia)) r1 r2 (by rw [Rb]; lia) X.prog X.w _ C hC
   have lk:∀ v∈its,Looks (model X.prog X.w) h' (typeOf v) (Eh sh):=fun v hv=>by
    obtain⟨i,hi,rfl⟩:=c9 hv;obtain⟨as,r⟩:=zX i hi;rw [getD_at _ _ hi] at r;exact wy (w9 i (by lia)) r
   cases sh with
   | int=>exact kas_kind (s:={ s with heap:=h' }) (T:=.type "int") (by lia) lk rfl rfl (ask oneType' gen)
   | lst ss=>exact kas_kind (s:={ s with heap:=h' }) (T:=.type "list") (by lia) lk rfl rfl (ask oneType' gen)
   | tup ss =>
    cases ss with
    | nil=>exact absurd dA.2 (by simp)
    | cons s1 ss =>
     obtain⟨fs,t1,t2,t3⟩:=yB (h:=h') zs its hz zX (by lia);refine kat_kind (s:={ s with heap:=h' }) (T:=Eh s1) t1 (by lia) (fun f hf=>?_) (by cases s1 <;> rfl) (ask _ fun i j hi hj C hC=>?_)
     ·obtain⟨d,as,h1,h2⟩:=t3 f hf;exact wy h1 h2
     ·obtain⟨as,r1⟩:=zX i hi;obtain⟨bs,r2⟩:=zX j hj;exact C2 (s:={ s with heap:=h' }) (n:=7) (by have:=Rj i (by lia); lia) (w9 i (by lia)) (w9 j (by lia)) (Nw i (by lia)) (Nw j (by lia)) r1 r2 (by rw [Rb]; lia) hC
 ·exact q.elim
end
end K2
end
section
namespace K2
open PySem PySem.Spec PyProof.Rows L2 PySem.W
section
variable {X:Cx}
theorem Bs:∀ (ks:List V) (us:List Value),ks.length=us.length->(∀ i (h1:i < ks.length) (h2:i < us.length),RelV ks[i] us[i])->Vals ks us
 | [],[],_,_=>.nil
 | [],_ :: _,h,_=>by cases h
 | _ :: _,[],h,_=>by cases h
 | k :: ks,u :: us,h,hr=>.cons (hr 0 (by simp) (by simp)) (Bs ks us (by simpa using h) fun i h1 h2=>hr (i+1) (by simpa using h1) (by simpa using h2))
end
end K2
end
section
namespace K2
open PySem PySem.Spec PyProof.Rows L2
section
variable {X:Cx}
theorem xU{pins:List (Addr×Obj)}{σ:L2.St}{H:Hp}{s:ak}{G:Gp}{x:V}{d:D}{aY:List (D×D)}(I:Inv X pins σ H s)(ab:kA X.K H G)(rd:bW X.K H x d)(hd:Cd d G=some aY)(h1:BY aY=true) :
  ∃ a kv vs,x=.ref a/\lJ X.K H kv aY/\kv.length<=aX/\(a == gX)=false/\KV kv vs/\s.heap.DictOf (eP X.prog X.w) a vs:=by
 have empty:∀ (a:Addr) (kv:List (List Key×V)),fR X.prog X.w H s.heap a (.dT kv)->mS X.K H kv aY ->
   ∃ a' kv vs,V.ref a=.ref a'/\lJ X.K H kv aY/\kv.length<=aX/\(a' == gX)=false/\KV kv vs/\s.heap.DictOf (eP X.prog X.w) a' vs:=by
  intro a kv ok rs;cases rs with
  | nil =>
   obtain⟨z,hm,xs,rel,o,es,ep,ho,hx,C9,hl,nd⟩:=ok;have hv:xs=[]:=by cases rel; rfl
   subst hv;have he:es=#[]:=by simpa using hl
   subst he;exact⟨a,[],[],rfl,.nil,bS _,hm,.nil,o,#[],ep,ho,hx,C9,(fun _ h=>by simp at h),.nil,bZ⟩
  | cons _ _=>simp [BY,dF] at h1
 cases rd with
 | pX hq rs =>
  cases (show some _=some aY from hd);obtain⟨z,hm,vs,rel,dd⟩:=qC I.dA (.inr ⟨_,hq⟩);exact⟨_,_,vs,rfl,rs,z,hm,rel,dd⟩
 | pW hq rs =>
  cases (show some _=some aY from hd);exact empty _ _ (I.dA _ _ hq).2 rs
 | ref a =>
  unfold Cd at hd;dsimp only at hd;split at hd
  ·rename_i Vn hg;cases hd;rcases ab a _ hg with ⟨kv,hv,rs⟩ | ⟨kv,hv,rs⟩
   ·obtain⟨z,hm,vs,rel,dd⟩:=zx I.dA hv;exact⟨a,kv,vs,rfl,rs,z,hm,rel,dd⟩
   ·exact empty a _ (I.dA _ _ hv) rs
  ·cases hd
 | _=>cases hd
end
end K2
end
section
namespace K2
open PySem PySem.Spec PyProof.Rows L2
section
variable {X:Cx}
theorem nU{K:ah}{H:Hp}:∀ {kv:List (Key×V)} {l:List (Int×Int)},lJ K H kv (cJ l)->kv=l.map fun p=>((.inl p.1:Key),V.int p.2)
 | _,[],h=>by cases h; rfl
 | _,p :: l,h=>by
  have h:lJ K H _ ((D.int p.1,D.int p.2) :: cJ l):=h;generalize e:(D.int p.1,D.int p.2) :: cJ l=t at h;cases h with
  | nil=>cases e
  | cons r rs =>
   rename_i k v d r' t';injection e with e1 e2
   injection e1 with e3 e4
   subst e2 e4;cases r;rw [nU rs];cases k with
   | inl i=>cases e3; rfl
   | inr x=>cases e3
theorem qu:∀ {l:List (Int×Int)} {vs:List (Key×Value)},KV (l.map fun p=>((.inl p.1:Key),V.int p.2)) vs->∃ ts:List Tok,ts.length=l.length/\vs=(l.zip ts).map fun q=>((.inl q.1.1:Key),dR q.1.2 q.2)
 | [],_,.nil=>⟨[],rfl,rfl⟩
 | p :: l,_,.cons h r=>by
  obtain⟨ts,h1,h2⟩:=qu r;rename_i q vs;obtain⟨k,v⟩:=q;obtain⟨e1,t,e2⟩:=h;cases e1;cases e2;exact⟨t :: ts,by simp [h1],by rw [h2]; rfl⟩
theorem w6{l:List (Int×Int)}{ts:List Tok}(h:ts.length=l.length)(k:Int):(eA l k=none/\kO ((l.zip ts).map fun q=>((.inl q.1.1:Key),dR q.1.2 q.2)) (.inl k)=none)\/∃ v t,eA l k=some v/\kO ((l.zip ts).map fun q=>((.inl q.1.1:Key),dR q.1.2 q.2)) (.inl k)=some (.int v t):=by
 induction l generalizing ts with
 | nil=>exact .inl ⟨rfl,rfl⟩
 | cons p l ih =>
  cases ts with
  | nil=>cases h
  | cons t ts =>
   have ih:=ih (ts:=ts) (by simpa using h);by_cases e:p.1=k
   ·refine .inr ⟨p.2,t,?_,?_⟩
    ·unfold eA; simp [e]
    ·unfold kO; simp [e]
   ·have e':¬ ((.inl p.1:Key)=.inl k):=fun z=>e (by injection z);have a1:eA (p :: l) k=eA l k:=by unfold eA; simp [e]
    have a2:kO (((p :: l).zip (t :: ts)).map fun q=>((.inl q.1.1:Key),dR q.1.2 q.2)) (.inl k)=kO ((l.zip ts).map fun q=>((.inl q.1.1:Key),dR q.1.2 q.2)) (.inl k):=by
     unfold kO; simp [e']
    rw [a1,a2]; exact ih
theorem rC{A:cF}{s:ak}{m:List (Int×Int)}{us:List Tok}(hm:us.length=m.length):∀ {l:List (Int×Int)} {ts:List Tok},ts.length=l.length ->
  PySem.W.KeqHits A s ((m.zip us).map fun q=>((.inl q.1.1:Key),dR q.1.2 q.2)) ((l.zip ts).map fun q=>((.inl q.1.1:Key),dR q.1.2 q.2)) (l.all fun p=>eA m p.1 == some p.2)
 | [],_,_=>.nil
 | p :: l,[],h=>by cases h
 | p :: l,t :: ts,h=>by
  have ih:=rC (A:=A) (s:=s) hm (l:=l) (ts:=ts) (by simpa using h);rcases w6 hm p.1 with ⟨e1,e2⟩ | ⟨v,t',e1,e2⟩
  ·have:((p :: l).all fun p=>eA m p.1 == some p.2)=false:=by simp [e1]
   rw [this];exact .miss e2
  ·have eq:SeqAt.EqAt A s (dR p.2 t) (dR v t') (decide (p.2=v)):=by
    have:=PySem.W.keq_flat (A:=A) (s:=s) (v:=dR p.2 t) (y:=dR v t') (d:=.int p.2) (e:=.int v) (.int _ _) (.int _ _);have e2:SeqAt.EqAt A s (dR p.2 t) (dR v t') (p.2 == v):=by simpa [mQ] using this
    exact e2
   have:((p :: l).all fun p=>eA m p.1 == some p.2)=(decide (p.2=v)&&l.all fun p=>eA m p.1 == some p.2):=by
    rw [vm,e1];congr 1;by_cases z:p.2=v
    ·simp [z]
    ·have:¬ v=p.2:=fun y=>z y.symm;simp [z,this]
   rw [this];exact .hit e2 eq ih
theorem HE(hu:X.A.units+64 < cLine):lF X (cX .Eq) (JJ false):=by
 intro pins s σ H G x y dx dy v u Q I ab rx ry dX dY q;obtain⟨l,m,e1,e2,q⟩:=q;obtain⟨a,kv,vs,rfl,rs,z,hm,rel,dd⟩:=xU I ab dX e1 (ot l);obtain⟨b,kw,ws,rfl,ED,z2,Ia,EH,yr⟩:=xU I ab dY e2 (ot m);cases rx;cases ry;rw [nU rs] at rel;rw [nU ED] at EH;obtain⟨ts,t1,rfl⟩:=qu rel;obtain⟨us,t2,rfl⟩:=qu EH;refine PySem.W.keq_eq hm Ia dd yr (by lia) (fun _=>rC t2 t1) ?_;refine⟨.bl _,H,.bl _,G,I,.refl ab,rfl,.bl _,?_⟩;have:((((l.zip ts).map fun q=>((.inl q.1.1:Key),dR q.1.2 q.2)).length == ((m.zip us).map fun q=>((.inl q.1.1:Key),dR q.1.2 q.2)).length)&&l.all fun p=>eA m p.1 == some p.2)=Dh l m:=by
  unfold Dh; simp [t1,t2]
 rw [this]; exact q
theorem HA(hu:X.A.units+64 < cLine):lF X (cX .NotEq) (JJ true):=by
 intro pins s σ H G x y dx dy v u Q I ab rx ry dX dY q;obtain⟨l,m,e1,e2,q⟩:=q;obtain⟨a,kv,vs,rfl,rs,z,hm,rel,dd⟩:=xU I ab dX e1 (ot l);obtain⟨b,kw,ws,rfl,ED,z2,Ia,EH,yr⟩:=xU I ab dY e2 (ot m);cases rx;cases ry;rw [nU rs] at rel;rw [nU ED] at EH;obtain⟨ts,t1,rfl⟩:=qu rel;obtain⟨us,t2,rfl⟩:=qu EH;refine PySem.W.keq_ne hm Ia dd yr (by lia) (fun _=>rC t2 t1) ?_;refine⟨.bl _,H,.bl _,G,I,.refl ab,rfl,.bl _,?_⟩;have:((((l.zip ts).map fun q=>((.inl q.1.1:Key),dR q.1.2 q.2)).length == ((m.zip us).map fun q=>((.inl q.1.1:Key),dR q.1.2 q.2)).length)&&l.all fun p=>eA m p.1 == some p.2)=Dh l m:=by
  unfold Dh; simp [t1,t2]
 rw [this]; exact q
theorem xq(hu:X.A.units+64 < cLine):lF X (cX .Eq) (lR false):=by
 intro pins s σ H G x y dx dy v u Q I ab rx ry dX dY q;rcases q with q | q
 ·exact t8 hu pins s σ H G x y dx dy v u Q I ab rx ry dX dY q
 ·exact HE hu pins s σ H G x y dx dy v u Q I ab rx ry dX dY q
theorem lT(hu:X.A.units+64 < cLine):lF X (cX .NotEq) (lR true):=by
 intro pins s σ H G x y dx dy v u Q I ab rx ry dX dY q;rcases q with q | q
 ·exact E1 hu pins s σ H G x y dx dy v u Q I ab rx ry dX dY q
 ·exact HA hu pins s σ H G x y dx dy v u Q I ab rx ry dX dY q
variable {k v:Expr} {tk tv:fQ} {pos:Pos}
end
end K2
end
section
namespace L2
open PySem PySem.Spec PyProof.Rows
theorem CS:typeLookup (.type "list_reverseiterator") "__len__" = pure none:=by rw [typeLookup_type,builtinLookup_eq_fast]; kernel_rfl
theorem Fu:typeLookup (.type "list_reverseiterator") "__length_hint__" = pure (some (.builtin "list_reverseiterator.__length_hint__")):=by rw [typeLookup_type,builtinLookup_eq_fast]; kernel_rfl
section
variable {prog:bC} {w:World} {A:cF} {E:Value->ak->Prop} {s:ak}
theorem Fc{I l:Addr}{items:Array Value}{Q:Value->ak->Prop}(hh:A.handled=none)(hl:s.heap.IsList l items)(hI:s.heap.IsRevIter I l ((items.size:Int) - 1))(lG:l≠I)(hn:items.size<=aX)
  (hQ:∀ h' tk u3 c',(∀ b o,b≠I->s.heap.get? b=some o->h'.get? b=some o)->h'.get? s.heap.objs.size=some { cls:=.type "list",dict:=none,data:=.seq u3 c',slots:=#[] }->ItemsOf (fun i v=>items[items.size - 1 - i]?=some v) u3 items.size->Q (.ref s.heap.objs.size) { s with heap:=h',toks:=tk }) :
  wpAny (model prog w) A (call (.type "list") [.ref I]) Q E s:=by
 have lI:I < s.heap.objs.size:=by obtain⟨o,e,_⟩:=hI; exact aL e
 have ll:l < s.heap.objs.size:=by obtain⟨o,e,_⟩:=hl; exact aL e
 refine callType_codes (Q₁:=fun obj dS=>obj=.ref s.heap.objs.size/\dS={ s with heap:=s.heap.push { cls:=.type "list",data:=.seq #[] } }) PySem.F.called_list (PySem.F.typeCall_list_1 _) PySem.F.entry_list_init
  (code_list_new _ ⟨rfl,rfl⟩) fun obj dS kX=>?_
 obtain⟨rfl,rfl⟩:=kX;have hS:(s.heap.push { cls:=.type "list",data:=.seq #[] }).get? s.heap.objs.size=some { cls:=.type "list",data:=.seq #[] }:=ba _ rfl;refine⟨⟨_,hS,rfl⟩,PySem.F.args_list_init_2 _ _,?_⟩;show wpAny _ _ (do let old ← wZ (.ref s.heap.objs.size); Builtin.List.listUpdate (.ref s.heap.objs.size) (fun _=>#[]); letGo old.toList.reverse; jO (.ref s.heap.objs.size) (.ref I) .none) _ _ _;refine ar ?_;unfold wZ;refine ar (jc hS rfl (a0 ?_));show wpAny _ _ (DU s.heap.objs.size (fun _=>#[]) >>= fun _=>letGo (#[]:Array Value).toList.reverse >>= fun _=>jO (.ref s.heap.objs.size) (.ref I) .none) _ _ _;refine ar (gi hS rfl ?_);have I0:=kh (cU (fun _=>(#[]:Array Value))) hS rfl;have Nq:∀ b o,s.heap.get? b=some o->((s.heap.push { cls:=.type "list",data:=.seq #[] }).update s.heap.objs.size (cU (fun _=>(#[]:Array Value)))).get? b=some o :=
  fun b o e=>(cg _ _ (yi (aL e))).trans (ax _ e)
 refine ar (jq ?_);have W:=Walks.listRev (prog:=prog) (w:=w) (A:=A.in1.in1) hh I l lG items;have st:(fun (i:Nat) (h:Heap)=>i<=items.size/\h.IsRevIter I l ((items.size:Int) - 1 - (i:Int))/\h.IsList l items) 0 ((s.heap.push { cls:=.type "list",data:=.seq #[] }).update s.heap.objs.size (cU (fun _=>(#[]:Array Value)))) :=
  ⟨bS _,by have:=hI.at (fun o e=>Nq I o e); simpa using this,hl.at fun o e=>Nq l o e⟩
 generalize (s.heap.push { cls:=.type "list",data:=.seq #[] }).update s.heap.objs.size (cU (fun _=>(#[]:Array Value)))=h2 at I0 Nq st;have hT:Shared.TypeIs { s with heap:=h2 } (.ref I) "list_reverseiterator":=st.2.1.typeIs;have Lh:s.heap.objs.size≠I:=yi lI;have MK:s.heap.objs.size∉[I,l]:=by simp only [vj,List.not_mem_nil,or_false,not_or]; exact⟨Lh,yi ll⟩
 unfold jO;refine ar (wpAny_typeOf hT ?_);have h1:vq (.ref s.heap.objs.size) (.ref I)=false:=by simp [vq,Lh]
 rw [if_neg (by rw [h1]; decide)];refine ar (wpAny_pyIter_revIter (s:={ s with heap:=h2 }) st.2.1 ?_);refine ar (dQ ?_);unfold Builtin.List.listLengthHint;refine ar (wpAny_specialOf hT CS ?_);show wpAny _ _ (specialOf (mW I) (qT "__length_hint__") >>= _) _ _ _;refine ar (wpAny_specialOf hT Fu ?_);generalize Ib:("list_reverseiterator.__length_hint__" : String)=SO
 wp_delta
 rw [show splitId SO=some ("list_reverseiterator","__length_hint__") from by subst Ib; decide +kernel];subst Ib;refine ar (wpAny_isInstance (b:=true) hT (by rw [isSubtype_type]; kernel_rfl) ?_);refine a0 ?_;rw [if_neg (by decide)];obtain⟨c₀,MJ⟩:∃ c₀,h2.get? s.heap.objs.size=some { cls:=.type "list",data:=.seq #[] c₀ }:=⟨_,I0⟩;refine a0 ⟨e6 PySem.F.plain_extend_loop _,codeAny_extend_loopS W.toS hn _ MK _ items.size 0 _ #[] c₀ rfl (bS _) st MJ (ItemsOf.nil _) fun s' u3 c' hm PX zj=>?_⟩;rw [Moved.eq_with hm];refine⟨rfl,hQ s'.heap s'.toks u3 c' (fun b o hb e=>hm.heap b o (fun Kj=>?_) (Nq b o e)) PX zj⟩;rcases List.mem_cons.mp Kj with e' | Kj
 ·exact absurd (aL e) (by rw [e']; exact fF _)
 ·exact hb (List.mem_singleton.mp Kj)
end
end L2
namespace K2
open PySem PySem.Spec PyProof.Rows L2 PySem.W
section
variable {X:Cx}
variable {es:List Expr} {t:U4} {e v1 v2:Expr} {te:fQ} {pos:Pos} {c:Str} {k:Nat}
theorem yz:∀ {vs:List V} {us:List Value} {v:V} {u:Value},Vals vs us->RelV v u->Vals (vs++[v]) (us++[u])
 | _,_,_,_,.nil,h=>.cons h .nil
 | _,_,_,_,.cons a r,h=>.cons a (yz r h)
theorem yy:∀ {vs:List V} {us:List Value},Vals vs us->Vals vs.reverse us.reverse
 | _,_,.nil=>.nil
 | _,_,.cons h r=>by rw [og,og]; exact yz (yy r) h
theorem yL{K:ah}{H:Hp}:∀ {vs:List V} {ds:List D},a5 K H vs ds->a5 K H vs.reverse ds.reverse
 | _,_,.nil=>.nil
 | _,_,.cons h r=>by rw [og,og]; exact(yL r).append (.cons h .nil)
theorem zI:c7 "reversed" = some (.type "reversed"):=by decide +kernel
variable {a:Expr} {ta:fQ} {p p2 sy:Pos}
theorem EX (hc:X.calm=true) (hg:Gl X "list") (hm:X.mg "list" = none) (Mx:Gl X "reversed") (Ia:X.mg "reversed" = none) (ha:gh X a ta) (hs:autoParam (bA [a] X.env=[(false,eval a X.env)]) Ar._auto_1)
  (Kd:autoParam (bA [.Call (.Name "reversed" p2) [a] [] sy] X.env=[(false,eval (.Call (.Name "reversed" p2) [a] [] sy) X.env)]) Ar._auto_1) :
  gh X (.Call (.Name "list" p) [.Call (.Name "reversed" p2) [a] [] sy] [] pos) (FY ta):=by
 intro E pins s σ H τ G Q hE I h;refine c6 (kU I.inv hg hm ml ?_);refine c8 ?_ Kd rfl;rw [Kd];show wpAny _ _ (z8 ((false,eval (.Call (.Name "reversed" p2) [a] [] sy) X.env) :: jd pos (bA [] X.env))) _ _ s;refine gJ ?_;refine c6 (kU I.inv Mx Ia zI ?_);refine c8 ?_ hs rfl;rw [hs];show wpAny _ _ (z8 ((false,eval a X.env) :: jd sy (bA [] X.env))) _ _ s;refine gJ (kQ ha hE I h fun x H1 d G1 u s1 I1 m1 r1 j4 q1=>?_);refine jE ?_;obtain⟨ds,hd,q⟩:=q1;obtain⟨l,vs,its,rfl,rv,rs,hl,hz⟩:=kd I1.inv I1.ab r1 j4 hd;have SQ:its.toArray.size<=aX:=by rw [aI,<-rv.length]; exact hz
 refine call_reversed_list hl ?_;refine jE ?_;have ll:l < s1.heap.objs.size:=by obtain⟨o,e,_⟩:=hl; exact aL e
 have Kl:(s1.heap.push (revObj l ((its.toArray.size:Int) - 1))).IsList l its.toArray:=hl.at fun o e=>ax _ e;have TM:(s1.heap.push (revObj l ((its.toArray.size:Int) - 1))).IsRevIter s1.heap.objs.size l ((its.toArray.size:Int) - 1):=⟨_,ba _ rfl,rfl,rfl⟩;have kz:Inv X pins σ H1 { s1 with heap:=s1.heap.push (revObj l ((its.toArray.size:Int) - 1)) }:=I1.inv.kept (t':=s1.toks) fun b o e=>ax _ e;refine Fc (s:={ s1 with heap:=s1.heap.push (revObj l ((its.toArray.size:Int) - 1)) }) (I1.inv.ok.hd hc) Kl TM (bh ll) SQ fun h' tk u3 c' kk PX zj=>?_;have eq:u3.toList=its.reverse:=by
  refine List.ext_getElem? fun j=>?_;by_cases hj:j < u3.size
  ·have h1:=zj.2 j u3[j] (mL hj);have hs:u3.size=its.length:=by rw [zj.1]; simp
   rw [List.getElem?_reverse (by lia),Array.getElem?_toList,mL hj,<-h1];simp
  ·have hs:u3.size=its.length:=by rw [zj.1]; simp
   rw [kg (by rw [eW]; lia),kg (by rw [List.length_reverse]; lia)]
 have hsz:(s1.heap.push (revObj l ((its.toArray.size:Int) - 1))).objs.size=s1.heap.objs.size+1:=iO _ _;have hle:s1.heap.objs.size<=(s1.heap.push (revObj l ((its.toArray.size:Int) - 1))).objs.size:=by rw [hsz]; exact oZ _
 have hp:H1 (s1.heap.push (revObj l ((its.toArray.size:Int) - 1))).objs.size=none:=I1.inv.dA.fresh hle;refine⟨.ref _,upd H1 _ (.lst vs.reverse),.ref _,_,I1.inv.laid (t':=tk) (fun b u e=>kk b u (bh (aL e)) (ax _ e)) hle ⟨by rw [List.length_reverse]; exact hz,u3.toList,c',by rw [eq]; exact yy rv,by simpa using PX⟩,m1.trans (.xw I1.ab hp (yL rs)),rfl,.ref _,q _ (I1.ab.free hp)⟩
end
end K2
end
section
namespace K2
open PySem PySem.Spec PyProof.Rows L2
section
variable {X:Cx}
noncomputable def JI(neg:Bool):vY:=fun x y G Q=>match y with
 | .cR=>CM neg x G Q
 | _=>False
theorem L1{H:Hp}{x:V}{dx:D}{v:Value}(r:RelV x v)(rd:bW X.K H x dx)(h:dx≠.cR):v≠.none:=by
 intro z;subst z;cases rd with
 | cR=>exact h rfl
 | bl b=>cases r
 | int i=>obtain⟨t,e⟩:=r; cases e
 | str x=>obtain⟨t,e⟩:=r; cases e
 | _=>cases r
theorem Hk{neg:Bool}{x:D}{G:Gp}{Q:DK}(h:x≠.cR)(q:CM neg x G Q):Q (.bl neg) G:=by
 cases x with
 | cR=>exact absurd rfl h
 | _=>exact q
theorem HD:lF X (cX .Is) (JI false):=by
 intro pins s σ H G x y dx dy v u Q I ab rx ry dX dY q;unfold JI at q;split at q
 ·cases dY;cases ry;by_cases h:dx=.cR
  ·subst h;cases dX;cases rx;exact is_none_none ⟨.bl true,H,.bl true,G,I,.refl ab,rfl,.bl _,q⟩
  ·exact is_none_ne (L1 rx dX h) ⟨.bl false,H,.bl false,G,I,.refl ab,rfl,.bl _,Hk h q⟩
 ·exact q.elim
variable {a:Expr} {ta:fQ} {pos p:Pos}
end
end K2
end
section
namespace K2
open PySem PySem.Spec PyProof.Rows L2
section
variable {K:ah} {h:Heap} {C:Addr} {M0:List Value} {newId:String}
inductive K1 (h:Heap) (C:Addr) (M0:List Value) (newId:String):Prop
 | mk (bm N nm qn bs PQ sn sub ab col dd k0 k1 k2 k3 k5 mN) (o:h.get? C=some (excClassObj nm qn C N bs bm PQ sn sub ab col dd k0 k1 k2 k3 k5 newId)) (n:h.Ns N mN) (i:mN "__init__" = none) (t:OwnTail h M0 bm):K1 h C M0 newId
end
end K2
end
section
namespace K2
open PySem PySem.Spec PyProof.Rows L2
noncomputable def SI:HO->Bool
 | .tup _=>true
 | .lH _ (.lst _)=>true
 | .lH _ (.dK _)=>true
 | .lH _ (.dT _)=>true
 | .lH _ (.ext _)=>true
 | _=>false
noncomputable def hr(H:Hp):Hp:=fun b=>(H b).bind fun o=>if SI o=true then some o else none
noncomputable def hj(H1 H':Hp):Hp:=fun b=>match H1 b with
 | some o=>some o
 | none=>H' b
end K2
end
section
namespace K2
open PySem PySem.Spec PyProof.Rows L2
noncomputable def subIn(K:ah)(C:Addr)(v:Value):Bool:=match K.lookup C with
 | some ⟨_,_,.cls cd,_⟩=>cd.mro.contains v
 | _=>false
section
variable {X:Cx} {x cn n:Str} {D f:Addr} {fd:aB} {ps:List Str} {k i:Nat} {sp:mq} {Qb:List Value} {newD:String} {cat:List Str} {e:Expr} {es:List Expr} {p np pos ep HZ tp:Pos} {Qq:Stmt} {Qn:List Stmt} {t:zZ} {th:gW}
structure Ry(X:Cx):Prop where
 st:X.stack=X.env :: X.outer
 fr:X.env.frame=some X.env.locals
 ex:X.ex=[]
structure Clause(X:Cx)(i:Nat)(n cn:Str)(D:Addr)(cat:List Str):Prop where
 nd:X.N.Nodup
 NV:X.N[i]?=some n
 loc:X.env.scope.names.lookup n=some .local
 gl:Gl X cn
 mg:X.mg cn=some (.ref D)
 cls:∃ Qb newD,PySem.W.excIn X.K D Qb newD=true/\Qb.contains (.type "BaseException")=true
 cat:∀ c,cat.contains c=true->∃ C M0 newId,dB X.K bG c=some (some (.ref C))/\PySem.W.excIn X.K C M0 newId=true/\subIn X.K C (.ref D)=true
end
end K2
end
section
namespace K2
open PySem PySem.Spec PyProof.Rows L2 PySem.W PySem.Calls PySem.Builtin PySem.Builtin.Getset_descriptor
section
variable {prog:bC} {w:World} {A:cF} {E:Value->ak->Prop} {s:ak} {K:ah} {a C:Addr} {ox:Obj}
structure Rv(K:ah)(C:Addr):Prop where
 ga:findIn K (.ref C) "__getattribute__" = some (some (.builtin "BaseException.__getattribute__"))
 gn:findIn K (.ref C) "__getattr__" = some none
 NV:findIn K (.ref C) "__class__" = some (some (.builtin "object.__class__"))
 sp:specialIn K (.builtin "object.__class__") "__get__" = some (some (.builtin "getset_descriptor.__get__"))
 tk:takesIn K (.builtin "object.__class__")=some true
 mo:mroIn K C (.type "object")=some true
 mb:mroIn K C (.type "BaseException")=some true
 is:(clsIn K C).isSome=true
end
end K2
end
section
namespace K2
open PySem PySem.Spec PyProof.Rows L2
section
variable {X:Cx} {e:Expr} {te:fQ} {pos:Pos}
theorem mC{i:Nat}{x:Str}{pos':Pos}(hN:X.N.Nodup)(hi:X.N[i]?=some x)(he:gh X e te)(hx:autoParam (Loc X.env.scope x) Ao._auto_1)(hs:autoParam (DW e (some (.Name x pos')) pos.line X.env=pure false) Ar._auto_1)(hf:autoParam (X.fn x=true\/X.env.scope.names.lookup x=some .local) Ao._auto_1) :
  Cy X (.Assign [.Name x pos'] e pos) (bO te (aJ i)):=Hq hN hi hx he hs hf
theorem mD{i:Nat}{x:Str}(hN:X.N.Nodup)(hi:X.N[i]?=some x)(hx:autoParam (Loc X.env.scope x) Ao._auto_1)(hf:autoParam (X.fn x=true\/X.env.scope.names.lookup x=some .local) Ao._auto_1):DP X (.Name x pos) (aJ i):=ET hN hi hx hf
theorem tx{P:bC}{w:World}{K:ah}{mg:Str->Option Value}{base:Heap}{x qual:Str}{st:Stmt}{f:Addr}{fd:aB}{Nn ps:List Str}{k:Nat}{sp:mq}{rd:gW}(F:mP K x qual st f fd)(S:bV Nn ps (aR st))
  (hr:∀ ds G Q,sp ds G Q (fun _ _=>False)->rd (fun _ _=>False) (ends Q) (bg Nn.length ds) G)
  (hb:∀ (jA:Value) (A:cF) (outer:List Env) (s:ak) (H:Hp) (E:XK),iM k (A.deeper (tO qual (aR st) s.heap.objs.size f jA))->rN (uY fV P w K mg base Nn qual (aR st) f jA A outer s H E).GF (gG st) rd)
  (len:autoParam (∀ ds G Q E,sp ds G Q E->ds.length=ps.length) Al._auto_1):fB P w K mg base fV (k+1) f fd ps (da K sp):=Ii F S len hr hb
theorem qZ{N ps:List Str}{sc:Scope}(h1:autoParam (sc.kind=.function) Ar._auto_1)(h2:autoParam (sc.isCoroutine=false) Ar._auto_1)(h3:autoParam (sc.isGenerator=false) Ar._auto_1)(h4:autoParam N.Nodup Ak._auto_1)(h5:autoParam (N.take ps.length=ps) Ar._auto_1)
  (h6:autoParam (∀ x∈ps,sc.names.lookup x=some .local\/sc.names.lookup x=some .cell) Ak._auto_1) (h7:autoParam (∀ y∈sc.names,y.2≠.free) Ak._auto_1):bV N ps sc:=⟨h1,h2,h3,h4,h5,h6,h7⟩
end
end K2
end
section
namespace K2
open PySem PySem.Spec PyProof.Rows L2
theorem mO{α:Type}{us:List α}(h:us.length=1):∃ a,us=[a]:=List.length_eq_one_iff.mp h
theorem Pf{α:Type}{us:List α}{n:Nat}(h:us.length=n+1):∃ a t,us=a :: t/\t.length=n:=by
 cases us with
 | nil=>cases h
 | cons a t=>exact⟨a,t,rfl,Nat.succ.inj h⟩
theorem xB{α:Type}{us:List α}(h:us.length=2):∃ a b,us=[a,b]:=by
 obtain⟨a,t,rfl,h2⟩:=Pf h; obtain⟨b,rfl⟩:=mO h2; exact⟨a,b,rfl⟩
end K2
end
section
namespace K2
open PySem PySem.Spec PyProof.Rows L2 PySem.W
section
variable {X:Cx}
theorem wN (hc:X.calm=true) (hu:X.A.units+64 < cLine):oe X (.builtin "max") Ds:=by
 intro pins s σ H G xs ds us Q I ab rx rd q;unfold Ds at q;split at q
 ·rename_i a b;obtain⟨w1,w2,rfl,GZ,LI⟩:=rd.two;obtain⟨u1,u2,rfl,OB,LJ⟩:=vals2 rx;cases GZ;cases LI;obtain⟨t,rfl⟩:=OB;obtain⟨t2,rfl⟩:=LJ;refine max_two_ints (I.ok.hd hc) fun h' tk k=>?_;have I2:=I.kept (t':=tk) k;by_cases c:a < b
  ·rw [if_pos c] at q;rw [if_pos (show b > a from c)];exact⟨.int b,H,.int b,G,I2,.refl ab,⟨_,rfl⟩,.int _,q⟩
  ·rw [if_neg c] at q;rw [if_neg (show ¬ b > a from c)];exact⟨.int a,H,.int a,G,I2,.refl ab,⟨_,rfl⟩,.int _,q⟩
 ·exact q.elim
end
end K2
end
section
namespace K2
open PySem PySem.Spec PyProof.Rows L2
section
variable {X:Cx}
theorem Ho{a:Expr}{ta:fQ}{p pos:Pos}{j}(ha:gh X a ta):Bf X (.Compare a [.Is] [.Constant .none j p] pos) (fX (Dm (CM false) ta)) :=
 show Bf X _ (fX (aZ (JI false) ta (dC .cR))) from dM HD ha BM (fJ _)
end
end K2
end
section
namespace K2
open PySem PySem.Spec PyProof.Rows L2
section
variable {X:Cx}
theorem HC(hu:X.A.units+64 < cLine):lF X (cX .Lt) JH:=by
 intro pins s σ H G x y dx dy v u Q I ab rx ry dX dY q;obtain⟨sh,a,b,⟨sa,sb⟩,⟨h1,h2⟩,q⟩:=q;obtain⟨as,ra⟩:=(eV I ab sa).1 x v dX rx;obtain⟨bs,rb⟩:=(eV I ab sb).1 y u dY ry;have d1:=rH sa;exact lY _ sh a b _ s _ _ as bs (aG _) h1 h2 sa.nr sb.nr ra rb (by unfold SN at d1; lia) _ _ _ _ ⟨.bl _,H,.bl _,G,I,.refl ab,rfl,.bl _,q⟩
end
end K2
end
section
namespace K2
open PySem PySem.W PySem.Spec PyProof.Rows PySem.Calls
theorem CY{p q:bC}{loose:List Str}{Xt:ak->Bool}{α:Type}{Yf:ak->α}{Ya:World->α}{N:Nat}(e:opening p=plainProg p.main.scope.names)(hN:Nat.ble 600 N=true)(f:∀ s,fenceModules? p s=some s)
  (h:∀ (w:World) (os:OsState),(topFrom treeTable p w N ⟨boot_heap w.params,Array.mk [],boot_drawn,boot_toks,os⟩).map (fun s=>(openSeen q loose (D0 p.main.body) Xt true s,Yf s))=some (openGood q loose,Ya w)):LeftO p q loose Xt Yf Ya N:=fun w=>by
 obtain⟨⟨h',gs,d,k,os⟩,e1,e2⟩:=Option.map_eq_some_iff.mp (boot_open e hN f w);obtain⟨rfl,rfl,rfl,rfl⟩:h'=boot_heap w.params/\gs=Array.mk []/\d=boot_drawn/\k=boot_toks:=by simpa using e2
 unfold openEnds;rw [e1];exact h w os
noncomputable abbrev Bu(l:D5)(q:bC):Bool:=chainsOk q&&opensWell l.row.prog&&(frees l.row.toRowW&&l.row.within.isEmpty)
noncomputable abbrev Lw(l:D5)(q:bC)(s:ak):Bool:=xlAt q [] s&&recOk l.row.records s
theorem C8{l:D5}{q:bC}{loose:List Str}{K:Params->Frag}{as:List Addr}{d:DefRec}{N:Nat}(ok:l.wellSaid=true)(e:opening l.row.prog=plainProg l.row.prog.main.scope.names)(hN:Nat.ble 600 N=true)(f:∀ s,fenceModules? l.row.prog s=some s)(hK:∀ P,as=(K P).map (·.1))
  (h:∀ (w:World) (os:OsState),(topFrom treeTable l.row.prog w N ⟨boot_heap w.params,Array.mk [],boot_drawn,boot_toks,os⟩).map (fun s=>(openSeen q loose (D0 l.row.prog.main.body) (Lw l q) true s,as.map s.heap.get?))=some (openGood q loose,(K w.params).map fun p=>some p.2))
  (hd:defOf q l.row.name=some (d,[])) (hp:l.row.prog.theDef l.row.name=some (d.params,d.body,d.scope)) (hk:kwWritten? d.params.kwonlyargs d.params.kw_defaults=some []) (hr:(!l.row.writes||l.row.records.isEmpty)=true) (ht:Bu l q=true) (hb:l.row.prog.bare) (hw:l.row.toRowW.promised)
  (c:WalkO q loose (XL q []) (InK K) l.row.toRowW d [] fun f vs=>PySem.call f vs):l.Holds :=
 holds_law ok fun k1=>holds_open (CY (Yf:=Hook.obs (kHook K as hK)) (Ya:=Hook.val (kHook K as hK)) e hN f h) (Hook.of (kHook K as hK)) (Hook.keeps (kHook K as hK)) (fun s x=>xl_of s (Bool.and_eq_true_iff.mp x).1) XL.keeps hd hp hk (fun s x=>recFacts_of (Bool.and_eq_true_iff.mp x).2) hr k1 ht hb hw c
structure At(K:Frag)(x:Str)(st:Stmt)(f:Addr)(fd:aB):Prop where
 a:nsIn K bG x=some (some (.ref f))
 F:L2.mP K x x st f fd
theorem At.mg{K:Frag}{h:Heap}{mg:Str->Option Value}{x:Str}{st:Stmt}{f:Addr}{fd:aB}(z:At K x st f fd)(X:K.In h)(G:h.Ns bG mg):mg x=some (.ref f):=mg_of X G z.a
theorem fA{K:Frag}{x:Str}{st:Stmt}{f:Addr}{oc:Value}{od an:Option Addr}{DJ:Array (Option Value)}{kV doc pm jA ct:Value}(a:autoParam (nsIn K bG x=some (some (.ref f))) Aq._auto_1)(l:autoParam (K.lookup f=some ⟨oc,od,.func (fnOf x x (L2.kE st) (L2.gG st) (L2.aR st) .none kV doc pm an jA ct),DJ⟩) Aq._auto_1)
  (c:autoParam (codeIn K jA x=true) Aq._auto_1) (k:autoParam (keepIn K (.ref f)=true) Aq._auto_1):At K x st f (fnOf x x (L2.kE st) (L2.gG st) (L2.aR st) .none kV doc pm an jA ct):=⟨a,L2.Kz l c k⟩
structure oY(P:bC)(w:World)(K:Frag)(mg:Str->Option Value)(base:Heap)(CX:L2.DS)(k:Nat)(f:Addr)(fd:aB)(x:Str)(ps:List Str)(sp:L2.Sp):Prop where
 ok:L2.fB P w K mg base CX k f fd ps sp
 mg:mg x=some (.ref f)
 kp:keepIn K (.ref f)=true
 bi:L2.Binds K fd ps []
end K2
end
section
namespace L2
open PySem PySem.Spec PyProof.Rows K2
noncomputable abbrev Dy(h h':Heap):Prop:=∀ b o,h.get? b=some o->h'.get? b=some o
section
variable {prog:bC} {w:World} {A:cF} {E:Value->ak->Prop} {s:ak} {l q it S:Addr} {vs:List Value} {R:Result->ak->Prop} {Q:Value->ak->Prop} {kv:Nat->Value} {lt:Nat->Nat->Bool}
noncomputable def Jh(prog:bC)(w:World)(A:cF)(s:ak)(q:Addr)(vs:List Value)(kv:Nat->Value):Prop :=
 ∀ (i:Nat) (v:Value),vs[i]?=some v->∀ (h:Heap) (tk:Nat),Dy s.heap h ->
  wpAny (model prog w) A.in1 (call (.ref q) [v]) (fun x s'=>x=kv i/\∃ (h':Heap) (GD:Nat),s'={ s with heap:=h',toks:=GD }/\Dy h h') (fun _ _=>False) { s with heap:=h,toks:=tk }
noncomputable def Nd(A:cF)(s:ak)(n:Nat)(kv:Nat->Value)(lt:Nat->Nat->Bool):Prop :=
 ∀ (i j:Nat),i < n->j < n->∀ (h:Heap) (tk:Nat),Dy s.heap h->sI A.in1 { s with heap:=h,toks:=tk } (kv i) (kv j) (lt i j)
theorem xt:(toString "min"++toString ".loop" : String) = "min.loop":=by decide
theorem HH(hh:A.handled=none)(hl:s.heap.IsList l vs.toArray)(hI:s.heap.objs.size<=it)(hS:s.heap.objs.size<=S)(lG:S≠it)(turn:Jh prog w A s q vs kv)(cmp:Nd A s vs.length kv lt)
  (fin:∀ v h' GD,vs[vn lt (vs.length - 1)]?=some v->Dy s.heap h'->R (.ok (.ret v)) { s with heap:=h',toks:=GD }) :
  ∀ (r j:Nat) (h:Heap) (tk:Nat) (vb:Value) (c:Nat),vs.length - (j+1)=r->j+1<=vs.length->Dy s.heap h->h.get? S=some (jR "list" #[vb,kv (vn lt j)] c)->h.IsListIter it l (j+1)->vs[vn lt j]?=some vb ->
   tP (model prog w) A (.builtin "min.loop" ⟨[.ref it,.ref q,.ref S],[]⟩) R { s with heap:=h,toks:=tk }:=by
 have CP:∀ b o,s.heap.get? b=some o->b≠it:=fun b o e=>bh (a8 (aL e) hI);have HF:∀ b o,s.heap.get? b=some o->b≠S:=fun b o e=>bh (a8 (aL e) hS);obtain⟨ol,Ml,Kh⟩:=id hl;have Tg:l≠it:=CP _ _ Ml;have QK:∀ h,Dy s.heap h->h.IsList l vs.toArray:=fun h k=>⟨ol,k _ _ Ml,Kh⟩;have W:=Bl (prog:=prog) (w:=w) (A:=A.in1) hh it l Tg vs.toArray;have hsz:vs.toArray.size=vs.length:=aI ..;intro r;induction r with
 | zero =>
  intro j h tk vb c hr hj k gS hit Py;have Mt:j+1=vs.length:=by lia
  refine gj oC ?_;rw [dw dH _];show wpAny _ A.in1 (yw (.ref S) >>= _) _ _ _;refine ar (jc gS rfl ?_);show wpAny _ A.in1 (tryCatch (DY (.ref it)) _ >>= _) _ _ _;refine ar (e9 (W.done _ _ _ ⟨by rw [hsz,<-Mt]; exact hit,QK h k⟩ fun h' GD DM=>?_));have TY:=DM S _ (by simpa using lG) gS;show wpAny _ A.in1 (DU S (fun _=>#[]) >>= _) _ _ _;refine ar (gi TY rfl (ar (jq (a0 ?_))));refine fin vb _ _ (by rw [show vs.length - 1=j by lia]; exact Py) fun b o e=>?_;exact((oM h' S (cU fun _=>(#[]:Array Value))).2 b (HF b o e)).trans (DM b o (by simpa using CP b o e) (k b o e))
 | succ r ih =>
  intro j h tk vb c hr hj k gS hit Py;have sD:j+1 < vs.length:=by lia
  refine gj oC ?_;rw [dw dH _];show wpAny _ A.in1 (yw (.ref S) >>= _) _ _ _;refine ar (jc gS rfl ?_);show wpAny _ A.in1 (tryCatch (DY (.ref it)) _ >>= _) _ _ _;refine ar (e9 (W.item (j+1) _ _ _ (by rw [hsz]; exact sD) ⟨hit,QK h k⟩ fun v h' GD hP Kc DM=>?_));have hv:vs[j+1]?=some v:=by simpa using hP
  have k1:Dy s.heap h':=fun b o e=>DM b o (by simpa using CP b o e) (k b o e);have P4:=DM S _ (by simpa using lG) gS;obtain⟨oI,gI,oc,od⟩:=id Kc.1;show wpAny _ A.in1 (tryCatch (Aa [v] (call (.ref q) [v])) _ >>= _) _ _ _;refine ar (e9 (dQ (pI (turn (j+1) v hv h' GD k1) (fun x Jz he=>?_) fun _ _ hF=>hF.elim)));obtain⟨rfl,h2,Jr,rfl,kk⟩:=he;have k2:Dy s.heap h2:=fun b o e=>kk b o (k1 b o e);have Li:=kk _ _ P4;have NQ:=kk _ _ gI;have hb:=Gm lt j;show wpAny _ A.in1 (tryCatch (Aa [v,kv (j+1)] (kM .Lt (kv (j+1)) (kv (vn lt j)) >>= _)) _ >>= _) _ _ _;refine ar (e9 (dQ (ar (cmp (j+1) (vn lt j) sD (by lia) h2 Jr k2 prog w _ _ ?_))));refine ar (dQ (iP ?_));refine ar (jq (a0 ?_));cases hc:lt (j+1) (vn lt j) with
  | true =>
   have MF:vn lt (j+1)=j+1:=by unfold vn; rw [if_pos hc]
   have s1:=oM h2 S (cU fun _=>#[v,kv (j+1)]);obtain⟨c2,uG⟩:∃ c2,(h2.update S (cU fun _=>#[v,kv (j+1)])).get? S=some (jR "list" #[v,kv (j+1)] c2):=⟨_,D1 Li fun _=>#[v,kv (j+1)]⟩;simp only [if_true];refine ar (gi Li rfl (ar (jq ?_)));rw [xt];exact a0 ⟨e6 dH _,ih (j+1) _ _ v c2 (by lia) sD (fun b o e=>(s1.2 b (HF b o e)).trans (k2 b o e)) (by rw [MF]; exact uG) ⟨oI,(s1.2 it lG.symm).trans NQ,oc,od⟩ (by rw [MF]; exact hv)⟩
  | false =>
   have MF:vn lt (j+1)=vn lt j:=by
    show (if lt (j+1) (vn lt j)=true then j+1 else vn lt j)=_;rw [hc]; rfl
   simp only [aw,if_false];refine ar (jq ?_);rw [xt];exact a0 ⟨e6 dH _,ih (j+1) _ _ vb c (by lia) sD k2 (by rw [MF]; exact Li) ⟨oI,NQ,oc,od⟩ (by rw [MF]; exact Py)⟩
theorem JU(hh:A.handled=none)(hl:s.heap.IsList l vs.toArray)(lG:0 < vs.length)(turn:Jh prog w A s q vs kv)(cmp:Nd A s vs.length kv lt)
  (fin:∀ v h' GD,vs[vn lt (vs.length - 1)]?=some v->Dy s.heap h'->Q v { s with heap:=h',toks:=GD }) :
  wpAny (model prog w) A (call (.builtin "min") [.ref l] [(qT "key",.ref q)]) Q E s:=by
 obtain⟨ol,Ml,Kh⟩:=id hl;refine kmk_tree PySem.F.kind_min PySem.F.plain_min PySem.F.entry_min (kmk_min_key _ _) ?_;show wpAny _ A.in1 (jo "min" ["key","default"] 0 ⟨[],[(qT "key",.ref q)]⟩ >>= _) _ _ s;refine ar (wpAny_of_eq (show _=pure [some (.ref q),none] from rfl) ?_);refine ar (a0 (ar (pH hl (ar (wpAny_newList ?_ (bS _))))));rw [xt];generalize hI:({ cls:=.type "list_iterator",data:=.fields #[.ref l,.int 0 0] }:Obj)=oI;have z1:(s.heap.push oI).objs.size=s.heap.objs.size+1:=size_push' ..;have Lh:(s.heap.push oI).objs.size≠s.heap.objs.size:=by rw [z1]; exact Nat.succ_ne_self _
 refine a0 ⟨e6 dH _,?_⟩;have kH:Dy s.heap ((s.heap.push oI).push (jR "list" #[] 0)):=fun b o e=>ax _ (ax _ e);have gI:((s.heap.push oI).push (jR "list" #[] 0)).get? s.heap.objs.size=some oI:=ax _ (ba _ (by rw [<-hI]; rfl));have gS:((s.heap.push oI).push (jR "list" #[] 0)).get? (s.heap.push oI).objs.size=some (jR "list" #[] 0):=ba _ rfl;have CP:∀ b o,s.heap.get? b=some o->b≠s.heap.objs.size:=fun b o e=>bh (aL e);have HF:∀ b o,s.heap.get? b=some o->b≠(s.heap.push oI).objs.size:=fun b o e=>by rw [z1]; exact bh (oD (aL e))
 have W:=Bl (prog:=prog) (w:=w) (A:=A.in1) hh s.heap.objs.size l (CP _ _ Ml) vs.toArray;refine gj oC ?_;rw [dw dH _];show wpAny _ A.in1 (yw (.ref _) >>= _) _ _ _;refine ar (jc gS rfl ?_);show wpAny _ A.in1 (tryCatch (DY (.ref s.heap.objs.size)) _ >>= _) _ _ _;refine ar (e9 (W.item 0 _ _ _ (by rw [aI]; exact lG) ⟨⟨_,gI,by cases hI; rfl,by cases hI; rfl⟩,⟨ol,kH _ _ Ml,Kh⟩⟩ fun v h' GD hP Kc DM=>?_));have hv:vs[0]?=some v:=by simpa using hP
 obtain⟨So,TZ,oc,od⟩:=id Kc.1;have k1:Dy s.heap h':=fun b o e=>DM b o (by simpa using CP b o e) (kH b o e);have P4:=DM _ _ (by simpa using Lh) gS;show wpAny _ A.in1 (tryCatch (Aa [v] (call (.ref q) [v])) _ >>= _) _ _ _;refine ar (e9 (dQ (pI (turn 0 v hv h' GD k1) (fun x Jz he=>?_) fun _ _ hF=>hF.elim)));obtain⟨rfl,h2,Jr,rfl,kk⟩:=he;have Li:=kk _ _ P4;have NQ:=kk _ _ TZ;have s1:=oM h2 (s.heap.push oI).objs.size (cU fun _=>#[v,kv 0]);obtain⟨c2,uG⟩:∃ c2,(h2.update (s.heap.push oI).objs.size (cU fun _=>#[v,kv 0])).get? (s.heap.push oI).objs.size=some (jR "list" #[v,kv 0] c2):=⟨_,D1 Li fun _=>#[v,kv 0]⟩;show wpAny _ A.in1 (DU (s.heap.push oI).objs.size (fun _=>#[v,kv 0]) >>= _) _ _ _;refine ar (gi Li rfl ?_);rw [xt];exact a0 ⟨e6 dH _,HH hh hl (aG _) (by rw [z1]; exact oZ _) Lh turn cmp fin _ 0 _ _ v c2 rfl lG (fun b o e=>(s1.2 b (HF b o e)).trans (kk b o (k1 b o e))) uG ⟨So,(s1.2 _ Lh.symm).trans NQ,oc,od⟩ hv⟩
end
end L2
end
section
namespace K2
open PySem PySem.Spec PyProof.Rows L2 PySem.W
structure Gx(X:Cx)(c P:Addr):Prop where
 code:X.env.code=.ref c
 hd:CodeHd X.base c P
 bm:∃ bm ob,X.mg "__builtins__" = some (.ref bm)/\bm≠pJ/\X.base.get? bm=some ob/\ob.cls=.type "module"/\ob.dict=some pJ/\ob.data=.plain
section
variable {X:Cx} {pins:List (Addr×Obj)} {σ:L2.St} {H:Hp} {s:ak} {c P:Addr} {q:Str} {params:Eb} {body:Expr} {scope:Scope} {pos:Pos} {E:Value->ak->Prop} {Q:Value->ak->Prop}
theorem Inv.grown(I:Inv X pins σ H s)(hT:H P=some (.yn q)){ps:Array Value}(gP:s.heap.get? P=some (tabObj ps)){h':Heap}{tk:Nat}{c':Addr}(tr:TriplesOk (ps++#[oJ pos.line,oJ pos.col,.ref c']).toList)
  (cs:∀ p cv,jS p ps.toList=some cv->∃ c',cv=.ref c'/\H c'=some (.own P)/\s.heap.CodeRec (.ref c') q) (ce:∀ p cv,jS p (ps++#[oJ pos.line,oJ pos.col,.ref c']).toList=some cv->jS p ps.toList=some cv\/cv=.ref c')
  (hx:Heap.ExtBut P s.heap h') (Mw:s.heap.objs.size<=c') (xG:h'.CodeRec (.ref c') q) (NC:h'.get? P=some (tabObj (ps++#[oJ pos.line,oJ pos.col,.ref c']))):Inv X pins σ (upd H c' (.own P)) { s with heap:=h',toks:=tk }:=by
 have hn:H c'=none:=I.dA.fresh Mw;have nP:∀ b,H b=none->b≠P:=fun b e z=>by rw [z,hT] at e; cases e
 have nc:∀ b o,s.heap.get? b=some o->b≠c':=fun b o e=>bh (a8 (aL e) Mw);refine I.step (g':=s.gens) (d':=s.drawn) (ch:=[]) (fun _ z=>nomatch z) (fun b o _ _ _ e n=>hx b o (nP b n) e) (fun b o _ _ _ e n=>⟨o.slots,hx b o (nP b n) e⟩) (fun b o _ e n=>by rw [bM (nc b o e)]; exact n) (fun b o _ e=>?_)
  (fun b xs e=>by rw [bM (cy e hn)]; exact e) (fun b o u e=>by rw [bM (cy e hn)]; exact e) (fun b u e=>by rw [bM (cy e hn)]; exact e) (fun m hm=>?_) (fun b u e=>?_) I.bare
 ·by_cases hb:b=P
  ·rw [hb]; exact⟨_,NC⟩
  ·exact⟨o,hx b o hb e⟩
 ·obtain⟨o,es,ep,ho,r⟩:=hm;exact⟨o,es,ep,hx _ o (nP _ I.free) ho,r⟩
 ·by_cases hb:b=c'
  ·subst hb;rw [cN] at e;cases e;obtain⟨_,oc,_,_,e3,e4,_⟩:=xG;cases e3;exact⟨oc,e4⟩
  ·rw [bM hb] at e;by_cases NM:b=P
   ·subst NM;rw [hT] at e;cases e;refine⟨_,NC,tr,fun p cv y=>?_⟩;rcases ce p cv y with y | rfl
    ·obtain⟨d,e1,e2,c2,oc,vs,tq,e3,e4,r⟩:=cs p cv y;cases e3;exact⟨d,e1,by rw [bM (cy e2 hn)]; exact e2,d,oc,vs,tq,rfl,hx _ _ (fun z=>by rw [z,hT] at e2; cases e2) e4,r⟩
    ·exact⟨c',rfl,cN,xG⟩
   ·refine(I.dA b u e).k8 (fun d v hd r=>hx d v ?_ r) (fun d z=>by rw [bM (cy z hn)]; exact z) (fun d xs z=>by rw [bM (cy z hn)]; exact z);rcases hd with rfl | hd
    ·exact NM
    ·rintro rfl;rw [hT] at hd; cases hd
theorem Bc{p pos:Pos}{cv c:Value}:∀ (l:List Value),TriplesOk l->jS p (l++[oJ pos.line,oJ pos.col,c])=some cv->jS p l=some cv\/cv=c:=by
 intro l
 fun_induction jS p l
 ·rename_i hc;intro _ h;left;simpa only [aO,jS,hc,if_true] using h
 ·rename_i hc ih;intro tr h;exact ih tr (by simpa only [aO,jS,hc,aw,if_false] using h)
 ·rename_i l hl;intro tr h;cases l with
  | nil =>
   right;simp only [aS,oJ,jS] at h;split at h
   ·exact(a6 h).symm
   ·cases h
  | cons a l =>
   exfalso;unfold TriplesOk at tr;split at tr
   ·rename_i e; cases e
   ·rename_i e; exact hl _ _ _ _ _ _ e
   ·exact tr
theorem Fe (I:Inv X pins σ H s) (hT:H P=some (.yn q)) (L:Gx X c P) (hq:X.env.qual++"<lambda>" = q) (xI:Ab scope X.env=pure []) (Kr:defaultsOf params X.env=([],[]))
  (h:∀ (f c':Addr) (Co pm:Value) (h':Heap) (tk:Nat) (H':Hp),(∀ G,kA X.K H G->Mv X.K H G H' G)->Inv X pins σ H' { s with heap:=h',toks:=tk }->h'.get? f=some (kla_obj "<lambda>" q params body scope [] pm c' Co)->h'.CodeRec (.ref c') q ->
   Q (.ref f) { s with heap:=h',toks:=tk }):wpAny (model X.prog X.w) X.A (eval (.Lambda params body scope pos) X.env) Q E s:=by
 refine kla_eval Kr ?_;rw [hq];obtain⟨ps,gP,tr,cs⟩:=I.dA P _ hT;have NK:=I.mod.glob.keeps I.bk;have Ts:bG≠P:=fun z=>by
  obtain⟨o,es,ep,e,hd,_⟩:=NK;rw [z,gP] at e; cases e; cases hd
 obtain⟨bm,ob,b1,b2,b3,b4,b5,b6⟩:=L.bm;have NM:bm≠P:=fun z=>by
  have e:=I.bk _ _ b3;rw [z,gP] at e; cases e; cases b4
 have TH:bm≠bG:=fun z=>by
  obtain⟨o,es,ep,e,hd,_⟩:=NK;have e2:=I.bk _ _ b3;rw [z,e] at e2; cases e2; rw [hd] at b6; cases b6
 have HB:s.heap.BuiltinsAt X.mg P:=⟨bm,ob,b1,b2,TH,NM,I.bk _ _ b3,b4,b5,b6⟩;cases ha:jS pos ps.toList with
 | none =>
  refine kla_makeFunction (mg:=X.mg) xI I.ok.glob NK L.code (L.hd.keeps I.bk) gP tr ha Ts HB fun c' Co h' tk hx Mw sD xG NC=>?_;have hl:(ps++#[oJ pos.line,oJ pos.col,mW c']).toList=ps.toList++[oJ pos.line,oJ pos.col,.ref c']:=by simp
  have I1:=Inv.grown (tk:=tk) I hT gP (by rw [hl]; exact TriplesOk_snoc _ _ _ _ tr) cs (fun p cv y=>Bc _ tr (by rw [<-hl]; exact y)) hx Mw xG NC;have hn:H c'=none:=I.dA.fresh Mw;have I2:=I1.kept (h':=h'.push (kla_obj "<lambda>" q params body scope [] ((X.mg "__name__").getD .none) c' Co)) (t':=tk) fun b o e=>ax _ e;refine h h'.objs.size c' Co _ _ tk _ (fun G ab=>.Ib ab hn) I2 (ba _ rfl) ?_;obtain⟨c2,oc,vs,t,e3,e4,r⟩:=xG;exact⟨c2,oc,vs,t,e3,ax _ e4,r⟩
 | some cv =>
  obtain⟨c',rfl,_,c2,oc,vs,t,e3,e4,r⟩:=cs pos cv ha;refine kla_makeFunctionHit (mg:=X.mg) xI I.ok.glob NK L.code (L.hd.keeps I.bk) gP tr ha HB fun Co h' tk hk hsz=>?_;have I2:=I.kept (h':=h'.push (kla_obj "<lambda>" q params body scope [] ((X.mg "__name__").getD .none) c' Co)) (t':=tk) fun b o e=>ax _ (hk b o e);exact h h'.objs.size c' Co _ _ tk _ (fun G ab=>.refl ab) I2 (ba _ rfl) ⟨c2,oc,vs,t,e3,ax _ (hk _ _ e4),r⟩
end
theorem Ff{prog:bC}{w:World}{A:cF}{s:ak}{f c':Addr}{q x:Str}{params:Eb}{scope:Scope}{pm Co:Value}{t:Addr}{its:List Value}{v0:Value}{p1 p2 p3:Pos}{j1:Nat}{E:Value->ak->Prop}{Q:Value->ak->Prop}
  (hf:s.heap.get? f=some (kla_obj "<lambda>" q params (.Subscript (.Name x p1) (.Constant (.int 0) j1 p2) p3) scope [] pm c' Co)) (hc:s.heap.CodeRec (.ref c') q) (hd:A.depth < GK) (Kk:s.heap.NoLimit) (ht:IsTup s.heap t its.toArray) (h0:its[0]?=some v0)
  (zi:∀ u,bindArgs (kla_fn "<lambda>" q params (.Subscript (.Name x p1) (.Constant (.int 0) j1 p2) p3) scope [] pm (.ref c') Co) ⟨[u],[]⟩=pure [(x,u)]) (hx:scope.names.lookup x=some .local) (PS:scope.isCoroutine=false) (Kq:scope.isGenerator=false) (hk:scope.kind=.function)
  (jz:∀ y∈scope.names,y.2≠.cell) (AS:(x == ("__debug__" : Str))=false)
  (h:∀ h' tk,Dy s.heap h'->Q v0 { s with heap:=h',toks:=tk }):wpAny (model prog w) A (call (.ref f) [.ref t]) Q E s:=by
 refine wpAny_call (kla_callFunE hd hf rfl PS Kq rfl hc ?_);rw [zi];refine a0 (wpAny_newFunctionEnv jz (fun y hy=>by rw [List.mem_singleton.mp hy]; exact hx) (fun kX C6 NG=>⟨Kk.fresh _ NG,?_⟩) hk);have IX:Dy s.heap kX:=fun b o e=>NG.extBut b o (bh (aL e)) (ax _ e);refine kla_codeExpr (Subscript_ (wpAny_Name (wpAny_loadName_local hk hx C6 (v:=.ref t) (by simp) ?_) AS));refine wpAny_Constant_int ?_;have QO:IsTup kX t its.toArray:=let ⟨o,e,r⟩:=ht; ⟨o,IX _ _ e,r⟩
 have hz:0 < its.toArray.size:=by rw [aI]; exact(List.getElem?_eq_some_iff.mp h0).1
 refine so (x:=v0) QO.typeIs PySem.F.slot_tuple_getitem.lookup (getItem_tuple (j:=0) (Q:=fun r s'=>r=v0/\_) QO (by decide) (by decide) ?_ (by simpa using h0) ⟨rfl,?_⟩) rfl
 ·rw [DX (Int.le_refl 0) (by simpa using hz)]; rfl
 ·exact h _ _ IX
end K2
end
section
namespace K2
open PySem PySem.Spec PyProof.Rows L2 PySem.W
section
variable {X:Cx}
theorem HU{K:ah}{H:Hp}{G:Gp}{v:V}{d:D}{ds:List D}(h:IsL G d ds)(ab:kA K H G)(r:bW K H v d):∃ l vs,v=.ref l/\vW K H l vs/\a5 K H vs ds:=by
 rcases h with rfl | ⟨a,rfl,e⟩
 ·cases r with
  | dm hq rs=>exact⟨_,_,rfl,hq.sq,rs⟩
 ·cases r with
  | ref =>
   obtain⟨vs,hv,rs⟩:=ab.lst e;exact⟨a,vs,rfl,.of hv,rs⟩
variable {a:Expr} {ta:fQ} {pos p kp p1 p2 p3 Pc:Pos} {j1:Nat} {c P:Addr} {q x:Str} {params:Eb} {scope:Scope}
theorem EW (hT:X.Bi P=some (.yn q)) (L:Gx X c P) (hr:iM 1 X.A) (hg:Gl X "min") (hm:X.mg "min" = none) (ha:gh X a ta) (hc:autoParam (X.calm=true) Ar._auto_1) (hq:autoParam (X.env.qual++"<lambda>" = q) Ar._auto_1) (xI:autoParam (Ab scope X.env=pure []) Ar._auto_1) (Kr:autoParam (defaultsOf params X.env=([],[])) Ar._auto_1)
  (zi:autoParam (∀ pm c' Co u,bindArgs (kla_fn "<lambda>" q params (.Subscript (.Name x p1) (.Constant (.int 0) j1 p2) p3) scope [] pm (.ref c') Co) ⟨[u],[]⟩=pure [(x,u)]) Aj._auto_1) (hx:autoParam (scope.names.lookup x=some .local) Ar._auto_1) (PS:autoParam (scope.isCoroutine=false) Ar._auto_1) (Kq:autoParam (scope.isGenerator=false) Ar._auto_1) (hk:autoParam (scope.kind=.function) Ar._auto_1)
  (jz:autoParam (∀ y∈scope.names,y.2≠.cell) Ad._auto_1) (AS:autoParam ((x == ("__debug__" : Str))=false) Ad._auto_1) (hs:autoParam (bA [a] X.env=[(false,eval a X.env)]) Ar._auto_1) :
  gh X (.Call (.Name "min" p) [a] [⟨some "key",.Lambda params (.Subscript (.Name x p1) (.Constant (.int 0) j1 p2) p3) scope Pc,kp⟩] pos) (FX ta):=by
 intro E pins s σ H τ G Q hE I h;have hA:Bg X [a] (az ta aT):=ao ha aA hs;refine c6 (kU I.inv hg hm rfl (callWith_builtin_kwB ?_ rfl ?_))
 ·rw [hs]; rfl
 rw [show jd pos (bA [a] X.env)=(false,eval a X.env) :: [] from by rw [hs]; rfl];refine evalArgs_kwB rfl ?_;rw [show ((false,eval a X.env) :: []:List (Bool×Sem Value))=jd pos (bA [a] X.env) from by rw [hs]; rfl];refine w7 hA pos hE I (R:=OL fun x G1=>AI x G1 Q) h fun vs H1 ds G1 us s1 I1 m1 r1 j4 q1=>?_;refine kws_cons (Fe I1.inv (I1.inv.base.qX P q hT) L hq xI Kr fun f c' Co pm h' tk H2 mv I2 gf xG=>kws_nil ?_)
 match ds,q1 with
 | [d],q1 =>
  obtain⟨ds,sh,kf,il,lG,GH,fin⟩:AI d G1 Q:=q1;obtain⟨v,rfl,rv⟩:=j4.one;obtain⟨u,rfl,ru⟩:=r1.one;have m2:=mv G1 I1.ab;obtain⟨l,ws,rfl,sq,rs⟩:=HU il m2.ab (rv.mono (m2.kp I1.ab));cases ru;obtain⟨its,Oz,pl,hz⟩:=I2.list sq;have l1:=Oz.length;have l2:=rs.length;show wpAny (model X.prog X.w) X.A (call (.builtin "min") [.ref l] [(qT "key",.ref f)]) _ _ _;have ex:∀ i:Nat,∃ kv:Value,∀ u,its[i]?=some u->∃ t La,u=.ref t/\IsTup h' t (List.toArray La)/\La[0]?=some kv/\∃ as,Reads h' kv (pd (kf i)) as:=by
   intro i;by_cases hi:i < its.length
   ·obtain⟨d,hd⟩:∃ d,ds[i]?=some d:=⟨_,aq (by lia)⟩;obtain⟨k,r,rfl,sn,NF⟩:=GH i _ hd;obtain⟨w,hw,o6⟩:=rs.get hd;obtain⟨u,hu,ru⟩:=Oz.get hw;cases o6 with
    | tup ht RY =>
     cases RY with
     | cons rk _ =>
      cases ru;obtain⟨La,rj,pt,_⟩:=I2.tuple (.of ht);obtain⟨u0,Mc,R3⟩:=Vals.get rj (i:=0) rfl;obtain⟨as,zX⟩:=(eV I2 m2.ab sn).1 _ _ rk R3;refine⟨u0,fun u' yp=>?_⟩;rw [hu] at yp;cases yp;exact⟨_,_,rfl,pt,Mc,as,zX⟩
   ·exact⟨.none,fun u hu=>absurd (List.getElem?_eq_some_iff.mp hu).1 hi⟩
  obtain⟨kv,QX⟩:=Classical.axiomOfChoice ex;have MB:∀ i,i < its.length->(pd (kf i)).depth<=SN/\bX sh (kf i)=true/\nr (kf i)=true:=fun i hi=>by
   obtain⟨d,hd⟩:∃ d,ds[i]?=some d:=⟨_,aq (by lia)⟩;obtain⟨k,r,rfl,sn,NF⟩:=GH i _ hd;exact⟨rH sn,NF,sn.nr⟩
  have PC:∀ i,i < its.length->∃ as,Reads h' (kv i) (pd (kf i)) as:=fun i hi=>by
   obtain⟨t,La,_,_,_,as,rd⟩:=QX i _ (aq hi);exact⟨as,rd⟩
  refine JU (s:={ s1 with heap:=h',toks:=tk }) (vs:=its) (kv:=kv) (lt:=fun i j=>ku (kf i) (kf j)) (I2.ok.hd hc) pl.isList (by lia) (fun i u hu h2 Jr HS=>?_) (fun i j hi hj h2 Jr HS=>?_) fun u h2 Jr hu HS=>?_
  ·obtain⟨t,La,rfl,pt,h0,_⟩:=QX i u hu;have Mg:h2.CodeRec (.ref c') q:=let ⟨c2,oc,vs,t,e3,e4,r⟩:=xG; ⟨c2,oc,vs,t,e3,HS _ _ e4,r⟩
   refine Ff (s:={ s1 with heap:=h2,toks:=Jr }) (its:=La) (HS _ _ gf) Mg hr.in1.depth (I2.nolimit.keeps HS) (let ⟨o,e,r⟩:=pt; ⟨o,HS _ _ e,r⟩) h0 (zi pm c' Co) hx PS Kq hk jz AS fun h3 RJ SH=>⟨rfl,h3,RJ,rfl,SH⟩
  ·obtain⟨d1,RU,n1⟩:=MB i hi;obtain⟨d2,RT,n2⟩:=MB j hj;obtain⟨as,ra⟩:=PC i hi;obtain⟨bs,rb⟩:=PC j hj;have Vp:=hr.in1.units;exact lY _ sh _ _ _ _ _ _ as bs (aG _) RU RT n1 n2 (Reads.keeps HS ra) (Reads.keeps HS rb) (by unfold SN at d1; lia)
  ·have e:its.length=ds.length:=by lia
   rw [e] at hu;obtain⟨w,hw⟩:∃ w,ws[vn (fun i j=>ku (kf i) (kf j)) (ds.length - 1)]?=some w:=⟨_,aq (by have:=(List.getElem?_eq_some_iff.mp hu).1; lia)⟩;obtain⟨u',yp,o6⟩:=Vals.get Oz hw;rw [hu] at yp;cases yp;obtain⟨d,hd,R4⟩:=rs.P1 hw;exact⟨w,H2,d,G1,I2.kept (t':=Jr) HS,m1.trans m2,o6,R4,fin d hd⟩
 | [],q1=>exact q1.elim
 | _ :: _ :: _,q1=>exact q1.elim
end
end K2
end
section
namespace K2
open PySem PySem.Spec PyProof.Rows L2 PySem.W
noncomputable abbrev Tb(P:Addr)(q:Str):Hp->Prop:=fun H=>H P=some (.yn q)
noncomputable def my(T:Hp->Prop)(K:Frag)(sp:mq):Sp:=fun vs H Q E=>T H/\da K sp vs H Q E
structure yd(mg:Str->Option Value)(base:Heap)(c P:Addr):Prop where
 hd:CodeHd base c P
 bm:∃ bm ob,mg "__builtins__" = some (.ref bm)/\bm≠pJ/\base.get? bm=some ob/\ob.cls=.type "module"/\ob.dict=some pJ/\ob.data=.plain
theorem yd.lam{CX:DS}{P:bC}{w:World}{K:Frag}{mg:Str->Option Value}{base:Heap}{N:List Str}{qual:Str}{scope:Scope}{f c Pt:Addr}{A:cF}{outer:List Env}{s:ak}{H:Hp}{E:XK}(h:yd mg base c Pt):Gx (uY CX P w K mg base N qual scope f (.ref c) A outer s H E).GF c Pt:=⟨rfl,h.hd,h.bm⟩
theorem Ih{P:bC}{w:World}{K:Frag}{mg:Str->Option Value}{base:Heap}{x qual:Str}{st:Stmt}{f:Addr}{fd:aB}{Nn ps:List Str}{k:Nat}{sp:mq}{rd:gW}{T:Hp->Prop}(F:mP K x qual st f fd)(S:bV Nn ps (aR st))(len:∀ ds G Q E,sp ds G Q E->ds.length=ps.length)
  (hr:∀ ds G Q,sp ds G Q (fun _ _=>False)->rd (fun _ _=>False) (ends Q) (bg Nn.length ds) G)
  (hb:∀ (jA:Value) (A:cF) (outer:List Env) (s:ak) (H:Hp) (E:XK),fd.code=jA->T H->iM k (A.deeper (tO qual (aR st) s.heap.objs.size f jA))->rN (uY fV P w K mg base Nn qual (aR st) f jA A outer s H E).GF (gG st) rd):fB P w K mg base fV (k+1) f fd ps (my T K sp):=by
 obtain⟨oc,od,kV,doc,pm,an,jA,ct,DJ,rfl,lk,yq⟩:=F.ex;refine Ja lk yq S ((by rintro vs H Q E ⟨_,ds,G,Q2,r,ab,q,_⟩; exact by rw [r.length]; exact len _ _ _ _ q)) ?_;rintro A outer s H vs Q E Fq ⟨hT,ds,G,Q2,r,ab,q,kk⟩;have PV:=EO (hb jA A outer s H E rfl hT Fq) (E:=fun _ _=>False) (Lk.none fun _ _ z=>z);refine⟨_,PV.GF,?_⟩;exact⟨bg Nn.length ds,G,ends Q2,yD r,ab,hr ds G Q2 q,fun hW H' mx G' mv z=>kk _ _ _ _ z mv .cR,fun v H' d G' mv LN z=>kk _ _ _ _ z mv LN,fun _ _ z=>z,fun _ _ z=>z⟩
theorem P6{P:bC}{w:World}{K:Frag}{mg:Str->Option Value}{base:Heap}{x qual:Str}{st:Stmt}{f:Addr}{fd:aB}{Nn ps:List Str}{k:Nat}{sp:mq}{rd:gW}{T:Hp->Prop}(F:mP K x qual st f fd)(S:bV Nn ps (aR st))
  (hr:∀ ds G Q,sp ds G Q (fun _ _=>False)->rd (fun _ _=>False) (ends Q) (bg Nn.length ds) G)
  (hb:∀ (jA:Value) (A:cF) (outer:List Env) (s:ak) (H:Hp) (E:XK),fd.code=jA->T H->iM k (A.deeper (tO qual (aR st) s.heap.objs.size f jA))->rN (uY fV P w K mg base Nn qual (aR st) f jA A outer s H E).GF (gG st) rd)
  (len:autoParam (∀ ds G Q E,sp ds G Q E->ds.length=ps.length) Al._auto_1):fB P w K mg base fV (k+1) f fd ps (my T K sp):=Ih F S len hr hb
section
variable {X:Cx} {k:Nat} {f P:Addr} {q:Str} {fd:aB} {ps:List Str} {sp:mq} {x:Str} {p pos:Pos} {e:Expr} {es:List Expr} {t:zZ}
theorem lp(hT:X.Bi P=some (.yn q))(F:fB X.prog X.w X.K X.mg X.base fV k f fd ps (my (Tb P q) X.K sp))(hr:iM k X.A)(hg:Gl X x)(hm:X.mg x=some (.ref f))(hk:iq X.K (.ref f)=true)(hb:Binds X.K fd ps [])
  (ha:Bg X (e :: es) t) (AS:autoParam ((x == ("__debug__" : Str))=false) Ad._auto_1) (he:autoParam (bA (e :: es) X.env=(false,eval e X.env) :: bA es X.env) Ar._auto_1) (zY:autoParam ((jd pos (bA es X.env)).any (·.1)=false) Ar._auto_1) :
  gh X (.Call (.Name x p) (e :: es) [] pos) (br sp t):=by
 intro E pins s σ H τ G Q hE I h;refine c6 (BW I.inv hg hm ?_ AS);refine Gz (h₀:=X.base) I.inv.ok.mod.Nz hk (w7 ha pos hE I h fun vs H1 ds G1 us s1 I1 m1 r rd q=>⟨I1.inv.B0,?_⟩) he zY;refine fG (EB F hr hb .nil IP I1.inv r (Q:=ya X.K H1 G1 Q) ?_) fun _ _ z=>(oA.of z).trans m1;rw [eE];exact⟨I1.inv.base.qX P _ hT,ds,G1,Q,rd,I1.ab,q,fun d G' v H' q' m' K7=>⟨d,G',m',K7,q'⟩⟩
end
theorem AN{K:Frag}{H:Hp}{a P:Addr}{q:Str}{ns:List Int}(hT:Tb P q H)(hF:KU K H a (ns.map V.int))(hl:ns.length<=63):my (Tb P q) K v9 [.ref a] H (fun v _=>v=.bl true) fun _ _ _=>False:=by
 refine⟨hT,[.dm (ns.map D.int)],fun _=>none,fun d _=>d=.bl true,.cons (.dm hF (a5.BO ns)) .nil,fun a g e=>(by cases e),⟨ns,rfl,hl,fun _=>rfl,fun _=>rfl⟩,fun d G' v H' e mv r=>?_⟩;subst e;cases r;rfl
theorem C1{Pg:bC}{w:World}{K:Frag}{mg mb:Str->Option Value}{k:Nat}{fa a c P:Addr}{fd:aB}{x q:Str}{dS:ak}{vs:List Value}{ns:List Int}
  (KX:K.In dS.heap) (C6:dS.heap.Ns bG mg) (hb:dS.heap.Ns pJ mb) (PV:∀ x:Str,x≠"__name__"->mb x=c7 x) (Kk:dS.heap.NoLimit) (hg:dS.gens=#[])
  (ha:dS.heap.get? a=some { cls:=.type "list",data:=.seq vs.toArray }) (hi:jT vs ns) (hl:ns.length<=63) (hr:iM k D3) (C:yd mg dS.heap c P) (gP:dS.heap.get? P=some (tabObj #[])) (PZ:K.lookup P=none)
  (F:∀ base:Heap,K.In base->base.Ns bG mg->yd mg base c P->fB Pg w K mg base fV k fa fd [x] (my (Tb P q) K v9)) (zi:∀ (s:ak) (u:Value),BindsTo s fd ⟨[u],[]⟩ [(x,u)]) :
  tP (model Pg w) D3 (.call (.ref fa) ⟨[.ref a],[]⟩) (fun r s'=>r=.ok (.ret (.bool true))/\OldK dS.heap s'.heap/\s'.os=dS.os/\w4 s'.gens) dS:=by
 have rv:=v7 hi;have Pe:=hi.length;have NN:a≠P:=fun z=>by rw [z,gP] at ha; cases ha
 have Kl:ns.length<=aX:=bw hl (by decide);have core:∀ H:Hp,Tb P q H->KU K H a (ns.map V.int)->pG Pg w H dS.heap->(∀ b,H b≠none->b=a\/b=P)->(H a≠none->K.lookup a=none)->(∀ u,H a=some u->∃ o xs,u=.lH o xs) ->
   tP (model Pg w) D3 (.call (.ref fa) ⟨[.ref a],[]⟩) (fun r s'=>r=.ok (.ret (.bool true))/\OldK dS.heap s'.heap/\s'.os=dS.os/\w4 s'.gens) dS:=by
  intro H hT hS dA hA hK hZ;have tH:∀ {b:Addr} {o:Obj},dS.heap.get? b=some o->H b=none->(vE dS.heap H).get? b=some o:=fun e n=>Fv e n;have nA:∀ {b:Addr} {o:Obj},dS.heap.get? b=some o->o.cls≠.type "list"\/o.data≠.seq vs.toArray 0->o.data≠.fields #[]->H b=none:=fun {b o} e d1 d2=>by
   cases z:H b with
   | none=>rfl
   | some u =>
    rcases hA b (by rw [z]; simp) with rfl | rfl
    ·rw [ha] at e; cases e;rcases d1 with d1 | d1
     ·exact absurd rfl d1
     ·exact absurd rfl d1
    ·rw [gP] at e; cases e; exact absurd rfl d2
  have Nv:∀ {b:Addr} {m:Str->Option Value},dS.heap.Ns b m->(vE dS.heap H).Ns b m:=fun {b m} ⟨o,es,ep,e,d,r⟩=>⟨o,es,ep,tH e (nA e (.inr (by rw [d]; intro z; cases z)) (by rw [d]; intro z; cases z)),d,r⟩;have Q8:K.In (vE dS.heap H):=fun b o e=>tH (KX b o e) (by
   cases z:H b with
   | none=>rfl
   | some u =>
    rcases hA b (by rw [z]; simp) with rfl | rfl
    ·rw [hK (by rw [z]; simp)] at e; cases e
    ·rw [PZ] at e; cases e)
  have hC:yd mg (vE dS.heap H) c P:=by
   obtain⟨⟨o,wv,file,tf,flags,tg,SK,text,tt,e,e1,e2,r⟩,bm,ob,b1,b2,b3,b4,r2⟩:=C;refine⟨⟨o,wv,file,tf,flags,tg,SK,text,tt,tH e (nA e (.inl (by rw [e1]; intro z; injection z with z; exact absurd z (by decide))) (by rw [e2]; intro z; cases z; have r1:=r.1; cases r1)),e1,e2,r⟩,bm,ob,b1,b2,tH b3 (nA b3 (.inl (by rw [b4]; intro z; injection z with z; exact absurd z (by decide))) (by rw [r2.2]; intro z; cases z)),b4,r2⟩
  have hM:Mod K mg (vE dS.heap H):=⟨Q8,Nv C6,⟨mb,Nv hb,PV⟩,let ⟨mc,h1,h2⟩:=Kk; ⟨mc,Nv h1,h2⟩⟩;have e0:IB Pg w K mg (vE dS.heap H) D3 [] dS H:=⟨rfl,hM,fun b o e=>HG e,Nat.le_of_eq (C7 _ _),trivial,fun b hb=>absurd (show b∈([]:List Addr) from hb) (by simp),dA,.of_eq hg⟩;refine codeAny_mono ((F _ Q8 (Nv C6) hC).run D3 [] dS H ⟨[.ref a],[]⟩ [.ref a] [.ref a] _ _ hr e0 (zi dS (.ref a)) (.cons rfl .nil) (AN hT hS hl)) fun r s' h=>?_;cases r with
  | error e=>exact bx h
  | ok fl =>
   cases fl with
   | next=>exact bx h
   | brk=>exact bx h
   | cont=>exact bx h
   | ret u =>
    obtain⟨v,H',os,bare,un,Mm,r',q1⟩:=h;have q':v=.bl true:=q1;subst q';obtain rfl:u=vo true:=r';have kb:∀ b o,b≠P->dS.heap.get? b=some o->s'.heap.get? b=some o:=fun b o hb e=>by
     cases z:H b with
     | none=>exact un.keep b o e z (by intro z; exact absurd (show b∈([]:List Addr) from z) (by simp)) (by simp)
     | some u =>
      have TG:=(hA b (by rw [z]; simp)).resolve_right hb;subst TG;obtain⟨ob,xs,rfl⟩:=hZ u z;have z2:=un.uI b ob _ z;obtain⟨e1,_⟩:=dA b _ z;obtain⟨e2,_⟩:=Mm b _ z2;rw [e] at e1; cases e1;exact e2
    obtain⟨ps,Rc,_⟩:=Mm P _ (un.qX P q hT);refine⟨rfl,⟨fun b o e=>?_,fun b o e=>?_⟩,os,bare⟩
    ·by_cases hb:b=P
     ·subst hb;rw [gP] at e; cases e;exact .inr (.inl ⟨(C.hd.tab gP).isCodeTable,rfl,#[],ps,rfl,by rw [Rc]; simp⟩)
     ·exact .inl (kb b o hb e)
    ·by_cases hb:b=P
     ·subst hb; exact⟨_,Rc⟩
     ·exact⟨o,kb b o hb e⟩
 have Qx:∀ H:Hp,fR Pg w H dS.heap P (.yn q):=fun H=>⟨#[],gP,trivial,fun pos cv z=>by cases z⟩;cases hk:K.lookup a with
 | some o =>
  have e:=KX a o hk;rw [ha] at e;cases e;refine core (fun b=>if b=P then some (.yn q) else none) (if_pos rfl) (.inr ⟨_,vs.toArray,_,hk,rfl,rfl,rfl,by rw [aI,Pe]; exact Kl,by simpa using rv⟩) (fun b u z=>?_) (fun b z=>?_) (fun z=>absurd (if_neg NN) z) fun u z=>by
   have z':=(if_neg NN).symm.trans z;cases z'
  ·by_cases hb:b=P
   ·have z':=(if_pos hb).symm.trans z;cases z';subst hb;exact Qx _
   ·have z':=(if_neg hb).symm.trans z;cases z'
  ·by_cases hb:b=P
   ·exact .inr hb
   ·exact absurd (if_neg hb) z
 | none =>
  have hH:∀ (b:Addr) (u:HO),(if b=P then some (HO.yn q) else if b=a then some (.lH { cls:=.type "list",data:=.seq vs.toArray } (.lst (ns.map V.int))) else none)=some u->(b=P/\u=.yn q)\/(b=a/\u=.lH { cls:=.type "list",data:=.seq vs.toArray } (.lst (ns.map V.int))):=fun b u z=>by
   split at z
   ·exact .inl ⟨‹_›,(a6 z).symm⟩
   ·split at z
    ·exact .inr ⟨‹_›,(a6 z).symm⟩
    ·cases z
  refine core (fun b=>if b=P then some (.yn q) else if b=a then some (.lH { cls:=.type "list",data:=.seq vs.toArray } (.lst (ns.map V.int))) else none) (if_pos rfl) (.inl ⟨{ cls:=.type "list",data:=.seq vs.toArray },(if_neg NN).trans (if_pos rfl)⟩) (fun b u z=>?_) (fun b z=>?_) (fun _=>hk) fun u z=>?_
  ·rcases hH b u z with ⟨rfl,rfl⟩ | ⟨rfl,rfl⟩
   ·exact Qx _
   ·exact⟨ha,by rw [af]; exact Kl,vs,_,rv,ha⟩
  ·obtain⟨u,e⟩:=Option.ne_none_iff_exists'.mp z;rcases hH b u e with ⟨h,_⟩ | ⟨h,_⟩
   ·exact .inr h
   ·exact .inl h
  ·rcases hH a u z with ⟨h,_⟩ | ⟨_,rfl⟩
   ·exact absurd h NN
   ·exact⟨_,_,rfl⟩
theorem C0{l:D5}{q:bC}{loose:List Str}{XP:(Str->Option Value)->Heap->Prop}{YP:World->Heap->Prop}{d:DefRec}{K:Params->Frag}{k:Nat}{x:Str}{y qn:Str}{c P:Addr}(hn:l.most=some 63)(PO:d.params.defaults=[])(hr:iM k D3)
  (hY:∀ (w:World) (h:Heap),YP w h->(K w.params).In h) (xG:((recsOf q).find? (fun e=>e.name == y)).isSome=true) (ht:∀ w:World,tabIn (K w.params) y=some (c,P)) (PZ:∀ w:World,(K w.params).lookup P=none)
  (F:∀ (w:World) (mg:Str->Option Value) (fa:Addr) (h:Heap),(K w.params).In h->h.Ns bG mg->mg d.name=some (.ref fa) ->
   ∃ fd:aB,(∀ (s:ak) (u:Value),BindsTo s fd ⟨[u],[]⟩ [(x,u)])/\∀ base:Heap,(K w.params).In base->base.Ns bG mg->yd mg base c P->fB l.prog w (K w.params) mg base fV k fa fd [x] (my (Tb P qn) (K w.params) v9)) :
  PySem.W.WalkO q loose XP YP l.row.toRowW d [] (fun f vs=>PySem.call f vs):=by
 refine Rx.zJ hn PO fun w kq dS mg mb fa o pm cd doc a vs ns G Y ho hd yq Mp Ki hints hlen hg=>?_;have KX:=hY w _ Y;obtain⟨fd,hb,hF⟩:=F w mg fa _ KX G.T.g Mp;obtain⟨dr,Tw⟩:=Option.isSome_iff_exists.mp xG;obtain⟨C,gP⟩:=tab_of G.T KX Tw (ht w);exact C1 KX G.T.g G.T.b G.T.builtins G.T.nolimit hg Ki hints hlen hr ⟨C,G.T.bmain⟩ gP (PZ w) hF hb
end K2
end
section
namespace K2
open PySem PySem.Spec PyProof.Rows L2
section
variable {X:Cx} {a b:Expr} {ta tb:fQ} {pos p sy p2:Pos}
theorem yS (hc:X.calm=true) (hg:Gl X "list") (hm:X.mg "list" = none) (Mx:Gl X "range") (Ia:X.mg "range" = none) (ha:gh X a ta) (hb:gh X b tb) (hs:autoParam (bA [a,b] X.env=(false,eval a X.env) :: bA [b] X.env) Ar._auto_1) (S3:autoParam (bA [b] X.env=[(false,eval b X.env)]) Ar._auto_1) (zY:autoParam ((jd sy (bA [b] X.env)).any (·.1)=false) Ar._auto_1)
  (Kd:autoParam (bA [.Call (.Name "range" p2) [a,b] [] sy] X.env=[(false,eval (.Call (.Name "range" p2) [a,b] [] sy) X.env)]) Ar._auto_1) :
  gh X (.Call (.Name "list" p) [.Call (.Name "range" p2) [a,b] [] sy] [] pos) (uW ta tb):=by
 intro E pins s σ H τ G Q hE I h;have hA:Bg X [a,b] (az ta (az tb aT)):=ao ha (ao hb aA S3) hs;refine c6 (kU I.inv hg hm ml (c8 ?_ Kd rfl));rw [Kd];show wpAny _ _ (z8 ((false,eval (.Call (.Name "range" p2) [a,b] [] sy) X.env) :: jd pos (bA [] X.env))) _ _ s;refine gJ (c6 (kU I.inv Mx Ia boot_range (c8 (w7 hA sy hE I (R:=fun ds G1=>match ds with | [x,y]=>BU x y G1 Q | _=>False) h fun vs H1 ds G1 us s1 I1 m1 r1 j4 q1=>?_) hs zY)))
 match ds,q1 with
 | [x,y],q1 =>
  unfold BU at q1;dsimp only at q1;split at q1
  ·rename_i i j;obtain⟨⟨n0,n1,n2⟩,q⟩:=q1;obtain⟨w1,w2,rfl,GZ,LI⟩:=j4.two;cases GZ; cases LI;obtain⟨u1,u2,rfl,OB,LJ⟩:=r1.two;obtain⟨t1,rfl⟩:=OB;obtain⟨t2,rfl⟩:=LJ;refine call_range_2 (jE ?_);have hsz:aX=16777216:=cf;generalize ho:({ cls:=.type "range",data:=.fields #[.int i t1,.int j t2,.int 1 s1.toks] }:Obj)=ob;have kz:Inv X pins σ H1 { s1 with heap:=s1.heap.push ob,toks:=s1.toks+1 }:=I1.inv.kept fun b o e=>ax _ e;have RZ:vp i j 1=((j - i).toNat:Int):=by rw [rangeSize_one]; split <;> lia
   refine call_list_range (n:=(j - i).toNat) (I1.inv.ok.hd hc) (by rw [<-ho]; exact IsRange.new ..) (small_one (by lia) (by lia) (by lia) (by lia)) RZ (by lia) fun h' tk acc c' hk hD zj=>?_;have hp:H1 (s1.heap.push ob).objs.size=none:=kz.dA.fresh (aG _);have rv:Vals ((bP (j - i).toNat).map fun (k:Nat)=>V.int (i+(k:Int))) acc.toList:=Bs _ acc.toList (by have:=zj.1; have e:=eW (xs:=acc); rw [af,cC]; lia) fun k h1 h2=>by
    obtain⟨t',e⟩:=zj.2 k acc.toList[k] (by rw [mL (by simpa using h2)]; simp);rw [e,cQ,fE];exact⟨t',by simp⟩
   have rs:a5 X.K H1 ((bP (j - i).toNat).map fun (k:Nat)=>V.int (i+(k:Int))) (e7 i (j - i).toNat):=by
    unfold e7;generalize bP (j - i).toNat=l;induction l with
    | nil=>exact .nil
    | cons k l ih=>exact .cons (.int _) ih
   exact oA.trans m1 ⟨.ref _,_,.ref _,_,kz.laid (o:=.lst ((bP (j - i).toNat).map fun (k:Nat)=>V.int (i+(k:Int)))) (t':=tk) (fun b o e=>hk b o e) (aG _) ⟨by rw [af,cC]; lia,acc.toList,c',rv,by simpa [jR,W.listOf] using hD⟩,.xw I1.ab hp rs,rfl,.ref _,q _ (I1.ab.free hp)⟩
  ·exact q1.elim
 | [],q1=>exact q1.elim
 | [_],q1=>exact q1.elim
 | _ :: _ :: _ :: _,q1=>exact q1.elim
end
end K2
end
section
namespace K2
namespace yt
noncomputable def ab(c:Int):Int:=if c < 0 then -c else c
variable {α:Type}
noncomputable def Qt(f:Int->Int)(r:Int->List α):Nat->Int->List Int->List α->List α×List Int
 | 0,_,Ek,ps=>(ps,Ek)
 | k+1,p,Ek,ps=>if p∈Ek then (ps,Ek) else Qt f r k (f p) (Ek++[p]) (ps++r p)
noncomputable def cls(f:Int->Int)(r:Int->List α):List Int->List (List α)->List Int->List (List α)
 | [],rows,_=>rows
 | t :: ts,rows,met=>if t∈met then cls f r ts rows met else
  let s:=Qt f r 4 t [] []
  cls f r ts (rows++[s.1]) (met++s.2)
end yt
end K2
end
section
namespace K2
open PySem (Str)
open Enc (enc)
theorem gu{α:Type} [DecidableEq α] [Enc α]{G G1:Gp}{p:Nat}{xs:List α}{Q:DK}(l:e8 G G1)(hp:G p=none)(h1:G1 p=some (.lst (xs.map enc)))(q:Q (enc xs) G):Dz G1 (.ref p) Q :=
 ph l hp h1 (zN.same _) q
theorem dP{α:Type}{f:α->D}{g:wV}{body:gW}{ok:Gp->Prop}{xs:List α}{E:ke}{K:jB}{τ:gx}{G:Gp}(I:List α->gx->Gp->Prop)
  (h0:I [] τ G) (dA:∀ pre τ G,I pre τ G->ok G)
  (step:∀ (pre:List α) (x:α) (post:List α) τ G (N:gx->Gp->Prop),xs=pre++x :: post->I pre τ G->(∀ v5 G2,I (pre++[x]) v5 G2->N v5 G2) ->
   g E (f x) τ G fun pN G1=>body E { K with nx:=N,ct:=N,bk:=K.nx } pN G1)
  (fin:∀ τ G,I xs τ G->K.nx τ G):oS g body ok (xs.map f) E K τ G:=by
 have main:∀ (post pre:List α) τ G,xs=pre++post->I pre τ G->oS g body ok (post.map f) E K τ G:=by
  intro post;induction post with
  | nil =>
   intro pre τ G e h;rw [eE] at e;subst e;exact⟨dA _ _ _ h,fin _ _ h⟩
  | cons d post ih =>
   intro pre τ G e h;refine⟨dA _ _ _ h,?_⟩;exact step pre d post τ G _ e h fun v5 G2 h2=>ih (pre++[d]) v5 G2 (by rw [e,dh]; rfl) h2
 exact main xs [] τ G rfl h0
theorem fP{α:Type}{f:α->D}{g:wV}{c:Option u5}{e:fQ}{ok:Gp->Prop}{xs:List α}{E:ke}{τ:gx}{G:Gp}{Q:List D->Gp->Prop}(I:List α->List D->gx->Gp->Prop)
  (h0:I [] [] τ G) (dA:∀ pre acc τ G,I pre acc τ G->ok G)
  (step:∀ (pre:List α) (x:α) (post:List α) (acc:List D) τ G (N:gx->List D->Gp->Prop),xs=pre++x :: post->I pre acc τ G->(∀ v5 Dv G2,I (pre++[x]) Dv v5 G2->N v5 Dv G2) ->
   g E (f x) τ G fun pN G1=>match c with
    | none=>e E pN G1 fun x G2=>N pN (acc++[x]) G2
    | some c=>c E pN G1 fun k G2=>if k=true then e E pN G2 fun x G3=>N pN (acc++[x]) G3 else N pN acc G2)
  (fin:∀ acc τ G,I xs acc τ G->Q acc G):iI g c e ok (xs.map f) E τ G [] Q:=by
 have main:∀ (post pre:List α) (acc:List D) τ G,xs=pre++post->I pre acc τ G->iI g c e ok (post.map f) E τ G acc Q:=by
  intro post;induction post with
  | nil =>
   intro pre acc τ G e h;rw [eE] at e;subst e;exact⟨dA _ _ _ _ h,fin _ _ _ h⟩
  | cons d post ih =>
   intro pre acc τ G e' h;refine⟨dA _ _ _ _ h,?_⟩;have:=step pre d post acc τ G (fun v5 Dv G2=>iI g c e ok (post.map f) E v5 G2 Dv Q) e' h fun v5 Dv G2 h2=>ih (pre++[d]) Dv v5 G2 (by rw [e',dh]; rfl) h2;cases c with
   | none=>exact this
   | some c=>exact this
 exact main xs [] [] τ G rfl h0
theorem cS{α:Type} [DecidableEq α] [Enc α]{xs:List α}{G:Gp}{R:List D->(Gp->Prop)->Gp->Prop}(h:R (xs.map enc) (fun _=>True) G):HX (enc xs) G R:=h
theorem zV{n:Nat}(h:n<=1000):n<=SZ:=by unfold SZ; lia
theorem vx{n:Nat}(h:n<=1000):n < SZ:=by unfold SZ; lia
noncomputable abbrev Rows:=List (List T3)
noncomputable def T3.s(p:T3):T2:=⟨p.a,p.b⟩
structure Dr(rows:Rows):Prop where
 nd:(rows.flatten.map T3.s).Nodup
 way:∀ p∈rows.flatten,p.b=0\/p.b=1
 hand:∀ p∈rows.flatten,p.c=1\/p.c=-1
 HM:∀ p∈rows.flatten,(⟨p.a,1 - p.b,p.c⟩:T3)∈rows.flatten
 Il:rows.flatten.length<=24
 str:rows.length<=3
namespace P
noncomputable def iA:mq:=Oy (fun rows:Rows=>rows.flatten.length<=1000) fun rows=>rows.flatten
noncomputable def nC:gW :=
 (cm (bO (fe aT) (aJ 1))
 (cm (eR (gF (au 0)) (aJ 2) (eh (oT sR ql (au 1) (az (au 2) aT))))
 (cq (dq (au 1)))))
theorem va(ds:List D)(G:Gp)(Q:DK)(h:iA ds G Q fun _ _=>False):nC (fun _ _=>False) (ends Q) (bg 3 ds) G:=by
 obtain⟨rows,rfl,hl,q⟩:=h;unfold nC;simp only [ends,bg,ay,a7,ai,av,aW,aO,aS,du,bO,fe,aT,aJ,aj,ag];refine⟨by decide,fun p hp=>?_⟩;refine fI (fun τ G'=>(∃ b,τ=[some (enc rows),some (.ref p),b])/\e8 G G'/\G' p=some (.lst (rows.flatten.map enc))) ?_ ?_
 ·intro N hN;simp only [eR,bY,au,aa];refine cS ?_;refine dP (xs:=rows) (fun pre τ G'=>(∃ b,τ=[some (enc rows),some (.ref p),b])/\e8 G G'/\G' p=some (.lst (pre.flatten.map enc))) ⟨⟨_,rfl⟩,.new hp,aC⟩ (fun _ _ _ _=>trivial) ?_ ?_
  ·rintro pre r post τ G' N2 e ⟨⟨b,rfl⟩,l,gp⟩ pE;have hlen:pre.flatten.length+r.length<=rows.flatten.length:=by
    rw [e]; simp only [eZ,bQ,aP]; lia
   simp only [aJ,eh,oT,au,aj,ag,ae,aa,ff,gp,az,aT,ig,j6 (IsL.enc r),true_and];refine⟨zV (by simp only [af]; lia),?_⟩;refine pE _ _ ⟨⟨_,rfl⟩,l.put hp,?_⟩;rw [aC]; simp
  ·rintro τ G' ⟨⟨b,rfl⟩,l,gp⟩;exact hN _ _ ⟨⟨_,rfl⟩,l,gp⟩
 ·rintro _ G' ⟨⟨b,rfl⟩,l,gp⟩;simp only [cq,dq,au,ae,aa];exact gu l hp gp q
theorem nT(p:T3):(enc p:D)=.tup [.int p.a,.int p.b,.int p.c]:=rfl
theorem Io(i:Int):(enc i:D)=.int i:=rfl
theorem Je{a:D}{r:List D}:oV (a :: r) 0=some a:=by
 rw [kL _ (by lia) (by simp)]; rfl
theorem NV{a b:D}{r:List D}:oV (a :: b :: r) 1=some b:=by
 rw [kL _ (by lia) (by simp; lia)]; rfl
theorem at2{a b c:D}{r:List D}:oV (a :: b :: c :: r) 2=some c:=by
 rw [kL _ (by lia) (by simp; lia)]; rfl
noncomputable def names(rows:Rows):List Int:=DI ((rows.flatten.filter fun p=>p.b == 0).map (·.a))
theorem MV{a b c:D}:cut [a,b,c] none (some 2)=[a,b]:=rfl
theorem wa{κ α:Type} [DecidableEq κ] [Enc κ] [oa κ] [DecidableEq α] [Enc α]{a:Nat}{l:List (κ×α)}{k:κ}{v:α}{G:Gp}{Q:Gp->Prop}(h:G a=some (.iV (cJ l)))(hl:l.length<=1000)(q:Q (cB G a (.iV (cJ (x8 l k v))))):BC (.ref a) (enc k) (enc v) G Q:=by
 unfold BC;simp only [h];refine⟨pe l k,?_,by rw [Hn]; exact q⟩;unfold cJ; rw [af]; exact vx hl
end P
end K2
end
section
namespace K2
open PySem (Str)
open Enc (enc)
class inductive Cn {α:Type} (ps:List (α×α)):α->α->Prop
 | refl (x:α):Cn ps x x
 | pair {x y:α}:(x,y)∈ps->Cn ps x y
 | symm {x y:α}:Cn ps x y->Cn ps y x
 | trans {x y z:α}:Cn ps x y->Cn ps y z->Cn ps x z
theorem BJ{α:Type} [DecidableEq α] [Enc α]{neg:Bool}{x:α}{xs:List α}{G:Gp}{Q:DK}(hd:Enc.dep α<=7)(q:Q (.bl (if neg then !decide (x∈xs) else decide (x∈xs))) G):yo neg (enc x) (enc xs) G Q:=by
 refine⟨enc x,xs.map enc,Enc.sn _ _ _ (by unfold SN; lia),nk G 7 hd xs,?_⟩;rw [Cu]; exact q
class yf (α:Type) [DecidableEq α] [Enc α] [aU α] where
 mn:∀ {x:D} {G:Gp} {xs:List α} {Q:DK},itemsOf x G=some (xs.map enc)->xs≠[]->(∀ m∈xs,(∀ y∈xs,sA m y=true)->Q (enc m) G)->Ge [x] G Q
theorem i3{α:Type} [DecidableEq α] [Enc α] [aU α]:∀ (r:List α) (a:α),r.foldl (fun m x=>if aU.lt x m=true then x else m) a∈a :: r/\∀ y∈a :: r,sA (r.foldl (fun m x=>if aU.lt x m=true then x else m) a) y=true
 | [],a=>⟨by simp,fun y hy=>by rw [List.mem_singleton.mp hy]; unfold sA; rw [List.foldl_nil,aU.AP]; rfl⟩
 | b :: r,a=>by
  rw [gY];by_cases c:aU.lt b a=true
  ·rw [if_pos c];obtain⟨h1,h2⟩:=i3 r b;refine⟨aE _ h1,fun y hy=>?_⟩;rcases List.mem_cons.mp hy with rfl | hy
   ·refine rz _ _ _ (h2 b (by simp)) ?_;unfold sA;cases q:aU.lt y b with
    | false=>rfl
    | true=>have:=aU.trans _ _ _ q c; rw [aU.AP] at this; cases this
   ·exact h2 y hy
  ·rw [if_neg c];obtain⟨h1,h2⟩:=i3 r a;refine⟨?_,fun y hy=>?_⟩
   ·rcases List.mem_cons.mp h1 with h | h
    ·rw [h]; simp
    ·exact aE _ (aE _ h)
   ·rcases List.mem_cons.mp hy with rfl | hy
    ·exact h2 y (by simp)
    ·rcases List.mem_cons.mp hy with rfl | hy
     ·refine rz _ _ _ (h2 a (by simp)) ?_;unfold sA; simpa using c
     ·exact h2 y (aE _ hy)
noncomputable instance:yf Int where
 mn:=by
  intro x G xs Q hi lG k;cases xs with
  | nil=>exact absurd rfl lG
  | cons a r =>
   obtain⟨h1,h2⟩:=i3 r a;refine .inl ⟨a :: r,_,hi,rfl,?_⟩;have:(fun (m x:Int)=>if x < m then x else m)=fun m x=>if aU.lt x m=true then x else m:=by
    funext m x;show (if x < m then x else m)=if decide (x < m)=true then x else m
    simp
   show Q (enc (r.foldl (fun m x=>if x < m then x else m) a)) G;rw [this];exact k _ h1 h2
theorem uo:∀ (x y:List Int),oF (fun a b=>decide (a < b)) x y=lexLt x y
 | [],[]=>rfl
 | [],_ :: _=>rfl
 | _ :: _,[]=>rfl
 | a :: x,b :: y=>by simp only [uq,lexLt,uo x y]
noncomputable instance:yf T3 where
 mn:=by
  intro x G xs Q hi lG k;cases xs with
  | nil=>exact absurd rfl lG
  | cons a r =>
   obtain⟨h1,h2⟩:=i3 r a;have ei:itemsOf x G=some (((a :: r).map T3.l).map tI):=by rw [hi,fD]; rfl
   refine .inr ⟨(a :: r).map T3.l,_,ei,rfl,?_⟩;have:∀ (r:List T3) (a:T3),(r.map T3.l).foldl (fun m x=>if lexLt x m=true then x else m) a.l=(r.foldl (fun m x=>if aU.lt x m=true then x else m) a).l:=by
    intro r;induction r with
    | nil=>intro a; rfl
    | cons b r ih =>
     intro a;rw [ay,gY,gY];have e:(if lexLt b.l a.l=true then b.l else a.l)=(if aU.lt b a=true then b else a).l:=by
      have:aU.lt b a=lexLt b.l a.l:=uo _ _;rw [this];split <;> rfl
     rw [e]; exact ih _
   rw [this r a];exact k _ h1 h2
namespace P
section
variable {α:Type} [DecidableEq α] [Enc α] [aU α] [oa α] [yf α]
structure GI(ms:List α)(ps:List (α×α))(l:List (α×List α)):Prop where
 len:l.length<=64
 at':∀ m∈ms,∃ g,eA l m=some g/\g.Nodup/\∀ x,x∈g↔Cn ps m x
end
end P
end K2
end
section
namespace K2
open PySem (Str)
open Enc (enc)
namespace P
theorem sf{κ β:Type} [DecidableEq κ]:∀ {l:List (κ×β)} {p:κ×β},(l.map (·.1)).Nodup->p∈l->eA l p.1=some p.2
 | q :: l,p,hn,h=>by
  unfold eA;rw [dD];rcases List.mem_cons.mp h with rfl | h
  ·simp
  ·rw [ay,fS] at hn;have:q.1≠p.1:=fun z=>hn.1 (by rw [z]; exact List.mem_map_of_mem h);simp only [this,decide_false];exact sf hn.2 h
variable {rows:Rows}
end P
end K2
end
section
namespace K2
open PySem (Str)
open Enc (enc)
namespace P
variable {rows:Rows}
end P
end K2
end
section
namespace K2
open PySem (Str)
open Enc (enc)
namespace yu
open K2.P
noncomputable def nH:gW :=
 (cm (fO (fX (aZ Np (au 1) (ky jj (az (au 0) aT)))) (cq (dq (aZ kj (au 0) (au 1)))) cW)
 (cq (dq (dC (.int 0)))))
noncomputable def ik(ns:List Int)(k:Int):Int:=ns.getD k.toNat 0
noncomputable def ck:mq:=fun ds G Q _=>∃ (ns:List Int) (k:Int),ds=[.dm (ns.map D.int),.int k]/\0<=k/\Q (.int (ik ns k)) G
theorem sk(ds:List D)(G:Gp)(Q:DK)(h:ck ds G Q fun _ _=>False):nH (fun _ _=>False) (ends Q) (bg 2 ds) G:=by
 obtain⟨ns,k,rfl,h0,q⟩:=h;unfold nH;simp only [cm,fO,bg,ay,a7,ai,av,aO,aS,cq,dq,aZ,au,aa,ae,ends,jg,cW,dC,c4,ky,az,aT,nZ,qc,bD];split
 ·rename_i h;have h1:k < (ns.map D.int).length:=by simpa using h
  rw [kL _ h0 h1];simp only [cQ];rw [af] at h1;have e:ik ns k=ns[k.toNat]:=by unfold ik; rw [aN,aq (by lia)]; rfl
  rw [<-e]; exact iG q
 ·rename_i h;have h1:¬ k < (ns.map D.int).length:=by simpa using h
  rw [af] at h1;have e:ik ns k=0:=by unfold ik; rw [aN,kg (by lia)]; rfl
  rw [<-e]; exact iG q
noncomputable def lO:gW :=
 (cq (dq (Cm (A9 "int" (au 0)) (FW (A9 "bool" (au 0))))))
noncomputable def eF:mq:=fun ds G Q _=>∃ i:Int,ds=[.int i]/\Q (.bl true) G
theorem qK(ds:List D)(G:Gp)(Q:DK)(h:eF ds G Q fun _ _=>False):lO (fun _ _=>False) (ends Q) (bg 1 ds) G:=by
 obtain⟨i,rfl,q⟩:=h;unfold lO;simp only [cq,dq,bg,ay,a7,ai,av,aO,aS,ends,nX,nW,kF,au,aa,nQ,bD];simpa using iG q
structure HR(G G':Gp)(p0:Nat)(as:List Nat)(rs:Rows):Prop where
 le:e8 G G'
 fp:G p0=none
 gp:G' p0=some (.lst (as.map D.ref))
 np:p0∉as
 nd:as.Nodup
 fr:∀ a∈as,G a=none
 len:as.length=rs.length
 at':∀ (i a:Nat) (r:List T3),as[i]?=some a->rs[i]?=some r->G' a=some (.lst (r.map enc))
theorem HR.put{G G':Gp}{p0:Nat}{as:List Nat}{rs:Rows}(h:HR G G' p0 as rs){j a:Nat}{r':List T3}(ha:as[j]?=some a):HR G (cB G' a (.lst (r'.map enc))) p0 as (rs.set j r'):=by
 have hm:a∈as:=cj ha;have hj:j < as.length:=(List.getElem?_eq_some_iff.mp ha).1;refine⟨h.le.put (h.fr a hm),h.fp,?_,h.np,h.nd,h.fr,by rw [jm]; exact h.len,fun i b r hb hr=>?_⟩
 ·rw [cw (by rintro rfl; exact h.np hm)]; exact h.gp
 ·by_cases e:i=j
  ·subst e;rw [ha] at hb; cases hb;rw [gH (by have:=h.len; lia)] at hr;cases hr;exact aC
  ·have:b≠a:=by
    rintro rfl;have h1:=List.getElem?_eq_some_iff.mp hb;have h2:=List.getElem?_eq_some_iff.mp ha;have pw:=List.pairwise_iff_getElem.mp h.nd;rcases Nat.lt_trichotomy i j with lt | eq | gt
    ·exact pw i j h1.1 h2.1 lt (h1.2.trans h2.2.symm)
    ·exact e eq
    ·exact pw j i h2.1 h1.1 gt (h2.2.trans h1.2.symm)
   rw [cw this];rw [iu (fun z=>e z.symm)] at hr;exact h.at' i b r hb hr
theorem HR.fz{G G':Gp}{p0:Nat}{as:List Nat}{rs:Rows}(h:HR G G' p0 as rs){Q:DK}(q:Q (enc rs) G):Dz G' (.ref p0) Q:=by
 refine ph h.le h.fp h.gp (ss:=rs.map enc) ?_ q;have:∀ (as:List Nat) (rs:Rows),as.length=rs.length->(∀ a∈as,G a=none)->(∀ (i a:Nat) (r:List T3),as[i]?=some a->rs[i]?=some r->G' a=some (.lst (r.map enc)))->zN G' (fun a=>(G a).isNone) (as.map D.ref) (rs.map enc):=by
  intro as;induction as with
  | nil=>intro rs hl _ _; cases rs with
   | nil=>exact .nil
   | cons _ _=>cases hl
  | cons a as ih =>
   intro rs hl hf rZ;cases rs with
   | nil=>cases hl
   | cons r rs =>
    refine .cons (.ref (rZ 0 a r rfl rfl) (by simp [hf a (by simp)]) (zN.same _)) ?_;exact ih rs (by simpa using hl) (fun b hb=>hf b (aE _ hb)) fun i b s h1 h2=>rZ (i+1) b s h1 h2
 exact this as rs h.len h.fr h.at'
theorem pR{x:T3}{r r':List T3}(hr:r'.Perm (x :: r)):∀ (rs:Rows) (j:Nat),rs[j]?=some r->(rs.set j r').flatten.Perm (x :: rs.flatten)
 | [],j,h=>by cases h
 | s :: rs,0,h=>by
  cases h;rw [ag,bQ,bQ];exact hr.append_right _
 | s :: rs,j+1,h=>by
  rw [aj,bQ,bQ];exact((pR hr rs j h).append_left s).trans List.perm_middle
structure MI(st:Int)(n:Nat)(name:Int)(L:List T3):Prop where
 off:∃ off:Int,0<=off/\off<=83 * n/\name=(st+off) % 999/\∀ p∈L,∃ o:Int,0 < o/\o<=off/\p.a=(st+o) % 999+1
 nd:(L.map T3.s).Nodup
 way:∀ p∈L,p.b=0\/p.b=1
 hand:∀ p∈L,p.c=1\/p.c=-1
 HM:∀ p∈L,(⟨p.a,1 - p.b,p.c⟩:T3)∈L
 len:L.length=2 * n
theorem qw{G G2:Gp}{d:D}{ds:List D}{R:List D->(Gp->Prop)->Gp->Prop}(h:IsL G d ds)(l:e8 G G2)(k:∀ ok:Gp->Prop,(∀ G',e8 G G'->ok G')->R ds ok G2):HX d G2 R:=by
 rcases h with rfl | ⟨a,rfl,e⟩
 ·exact k _ fun _ _=>trivial
 ·rw [HW (l a _ e)]; exact k _ fun G' l=>l a _ e
theorem nN{r:List T3}:∀ {rs:Rows},r∈rs->r.length<=rs.flatten.length
 | a :: rs,h=>by
  rw [bQ,aP];rcases List.mem_cons.mp h with rfl | h
  ·lia
  ·have:=nN h; lia
theorem En(x:T3)(r:List T3)(i:Nat):(r.take i++x :: r.drop i).Perm (x :: r):=by
 refine List.perm_middle.trans (.cons _ ?_);rw [dc]
end yu
end K2
end
section
namespace K2
open PySem (Str)
open Enc (enc)
namespace yt
open K2.P
noncomputable def Ok(n:Int)(cs:List Int):Prop:=n<=3/\cs.length<=40/\∀ c∈cs,1<=ab c/\ab c < n
end yt
end K2
end
section
namespace K2
open PySem (Str)
open Enc (enc)
namespace yt
open K2.P
noncomputable def Good(n:Int)(cs:List Int):Prop:=(1<=n/\n<=3)/\cs.length<=12/\∀ c∈cs,1<=ab c/\ab c < n
noncomputable instance (n:Int) (cs:List Int):Decidable (Good n cs):=by unfold Good; exact inferInstance
end yt
end K2
end
section
namespace K2
open PySem (Str)
open Enc (enc)
namespace yt
open K2.P
noncomputable def fN:List T3->T3
 | []=>⟨0,0,0⟩
 | a :: r=>r.foldl (fun m x=>if aU.lt x m=true then x else m) a
theorem gU{r:List T3}(h:r≠[]):fN r∈r:=by
 cases r with
 | nil=>exact absurd rfl h
 | cons a r=>exact(i3 r a).1
theorem jK{r:List T3}{y:T3}(hy:y∈r):sA (fN r) y=true:=by
 cases r with
 | nil=>cases hy
 | cons a r=>exact(i3 r a).2 y hy
noncomputable def ft(r:List T3):List T3:=r.drop (r.idxOf (fN r))++r.take (r.idxOf (fN r))
theorem zH{x:D}{G:Gp}{r:List T3}{Q:DK}(hi:itemsOf x G=some (r.map enc))(lG:r≠[])(q:Q (enc (fN r)) G):Ge [x] G Q :=
 yf.mn hi lG fun m hm hl=>by
  have:m=fN r:=uw _ _ (hl _ (gU lG)) (jK hm);rw [this]; exact q
theorem ug{x:D}{G:Gp}{r:List T3}{Q:DK}(ht:sR x G)(hi:itemsOf x G=some (r.map enc))(lG:r≠[])(q:Q (.int ((r.idxOf (fN r):Nat):Int)) G):xy x [enc (fN r)] G Q:=by
 refine⟨ht,r.map enc,enc (fN r),r.map enc,hi,Enc.sn G 8 _ (by decide),nk G 7 (by decide) r,?_⟩;have e:(r.map enc).findIdx? (gy · (enc (fN r)))=some (r.idxOf (fN r)):=by
  have hf:(fun y:T3=>gy (enc y) (enc (fN r)))=fun y=>y == fN r:=by
   funext y;rw [Enc.eqv];by_cases h:y=fN r <;> simp [h]
  rw [List.findIdx?_map];show List.findIdx? (fun y=>gy (enc y) (enc (fN r))) r=_;rw [hf];have hm:=gU lG;rw [List.idxOf];rw [List.findIdx?_eq_some_iff_findIdx_eq];exact⟨List.findIdx_lt_length.mpr ⟨_,hm,by simp⟩,rfl⟩
 rw [e]; exact q
end yt
end K2
end
section
namespace K2
open PySem (Str)
open Enc (enc)
namespace P
variable {rows:Rows}
end P
end K2
end
section
namespace K2
open PySem (Str)
open Enc (enc)
namespace K3
open K2.P K2.yu
inductive Rl (G:Gp):List D->Rows->Prop
 | nil:Rl G [] []
 | cons {x:D} {r:List T3} {xs:List D} {rs:Rows}:IsL G x (r.map enc)->Rl G xs rs->Rl G (x :: xs) (r :: rs)
noncomputable def ye(G:Gp)(d:D)(rows:Rows):Prop:=∃ ds,IsL G d ds/\Rl G ds rows
theorem Rl.enc{G:Gp}:∀ (rows:Rows),Rl G (rows.map Enc.enc) rows
 | []=>.nil
 | r :: rs=>.cons (IsL.enc r) (Rl.enc rs)
theorem ye.enc{G:Gp}(rows:Rows):ye G (Enc.enc rows) rows:=⟨_,IsL.enc rows,Rl.enc rows⟩
theorem yK{G':Gp}:∀ (as:List Nat) (rs:Rows),as.length=rs.length->(∀ (i a:Nat) (r:List T3),as[i]?=some a->rs[i]?=some r->G' a=some (.lst (r.map enc)))->Rl G' (as.map D.ref) rs
 | [],[],_,_=>.nil
 | [],_ :: _,h,_=>by cases h
 | _ :: _,[],h,_=>by cases h
 | a :: as,r :: rs,h,rZ=>.cons (IsL.ref (rZ 0 a r rfl rfl)) (yK as rs (by simpa using h) fun i b s h1 h2=>rZ (i+1) b s h1 h2)
theorem HR.rw{G G':Gp}{p0:Nat}{as:List Nat}{rs:Rows}(h:HR G G' p0 as rs):ye G' (.ref p0) rs:=⟨_,IsL.ref h.gp,yK as rs h.len h.at'⟩
theorem KA{g:wV}{body:gW}{ok:Gp->Prop}{ds:List D}{rows:Rows}{E:ke}{K:jB}{τ:gx}{G G0:Gp}(rl:Rl G0 ds rows)(I:Rows->gx->Gp->Prop)
  (h0:I [] τ G) (dA:∀ pre τ G,I pre τ G->ok G)
  (step:∀ (pre:Rows) (r:List T3) (post:Rows) (x:D) τ G (N:gx->Gp->Prop),rows=pre++r :: post->IsL G0 x (r.map enc)->I pre τ G->(∀ v5 G2,I (pre++[r]) v5 G2->N v5 G2) ->
   g E x τ G fun pN G1=>body E { K with nx:=N,ct:=N,bk:=K.nx } pN G1)
  (fin:∀ τ G,I rows τ G->K.nx τ G):oS g body ok ds E K τ G:=by
 have main:∀ (post pre:Rows) (ds:List D) τ G,Rl G0 ds post->rows=pre++post->I pre τ G->oS g body ok ds E K τ G:=by
  intro post;induction post with
  | nil =>
   intro pre ds τ G rl e h;cases rl;rw [eE] at e;subst e;exact⟨dA _ _ _ h,fin _ _ h⟩
  | cons r post ih =>
   intro pre ds τ G rl e h;cases rl with
   | cons hx rl =>
    refine⟨dA _ _ _ h,?_⟩;exact step pre r post _ τ G _ e hx h fun v5 G2 h2=>ih (pre++[r]) _ v5 G2 rl (by rw [e,dh]; rfl) h2
 exact main rows [] ds τ G rl rfl h0
noncomputable def used(u:List Int)(n:Int):List Int:=if n∈u then u else u++[n]
noncomputable def qS(u:List Int)(ns:List Int):List Int:=ns.foldl used u
theorem Ee(u:List Int)(n:Int):(used u n).length<=u.length+1:=by unfold used; split <;> simp
theorem qD:∀ (ns u:List Int),(qS u ns).length<=u.length+ns.length
 | [],u=>by simp [qS]
 | n :: ns,u=>by
  have:=qD ns (used u n);have h2:=Ee u n;show (qS (used u n) ns).length<=_;rw [ai]; lia
theorem Cf(u a b:List Int):qS u (a++b)=qS (qS u a) b:=by unfold qS; rw [oh]
theorem rJ:∀ (ns u:List Int),u.Nodup->(qS u ns).Nodup
 | [],u,h=>h
 | n :: ns,u,h=>by
  refine rJ ns (used u n) ?_;unfold used;split
  ·exact h
  ·rename_i hn;rw [eS];refine⟨h,by simp,fun a ha b hb e=>?_⟩;rw [gL] at hb;subst hb e;exact hn ha
theorem l8:∀ (ns u:List Int) (x:Int),x∈qS u ns↔x∈u\/x∈ns
 | [],u,x=>by simp [qS]
 | n :: ns,u,x=>by
  show x∈qS (used u n) ns↔_;rw [l8 ns];unfold used;split
  ·rename_i hn;constructor
   ·rintro(h | h)
    ·exact .inl h
    ·exact .inr (aE _ h)
   ·rintro(h | h)
    ·exact .inl h
    ·rcases List.mem_cons.mp h with rfl | h
     ·exact .inl hn
     ·exact .inr h
  ·rw [List.mem_append,gL,vj,or_assoc]
noncomputable def bz(rows:Rows):List Int:=DI (qS [] (rows.flatten.map (·.a)))
theorem sV{α:Type} [DecidableEq α] [Enc α]{neg:Bool}{x:α}{xs:List α}{a:Nat}{G:Gp}{Q:DK}(hd:Enc.dep α<=7)(h:G a=some (.lst (xs.map enc)))(q:Q (.bl (if neg then !decide (x∈xs) else decide (x∈xs))) G):yo neg (enc x) (.ref a) G Q:=by
 unfold yo;simp only [h];refine⟨_,_,Enc.sn G 8 x (by lia),nk G 7 hd xs,?_⟩;rw [Cu]; exact q
theorem Ka{c:u5}{a b:gW}{E:ke}{K:jB}{τ:gx}{G:Gp}:fO c a b E K τ G=c E τ G fun k G1=>if k=true then a E K τ G1 else b E K τ G1:=rfl
noncomputable def bN:mq:=fun ds G Q _=>∃ (d:D) (rows:Rows),ds=[d]/\ye G d rows/\rows.flatten.length < 64/\Q (enc (bz rows)) G
noncomputable def lQ:gW :=
 (cm (bO (fe aT) (aJ 1))
 (cm (eR (gF (au 0)) (aJ 2) (eR (gF (au 2)) (aJ 3) (fO (fX (aZ (yo true) (aZ kj (au 3) (dC (.int 0))) (au 1))) (eh (oT sR g8 (au 1) (az (aZ kj (au 3) (dC (.int 0))) aT))) cW)))
 (cq (dq (ky tG (az (au 1) aT))))))
theorem qM(ds:List D)(G:Gp)(Q:DK)(h:bN ds G Q fun _ _=>False):lQ (fun _ _=>False) (ends Q) (bg 4 ds) G:=by
 obtain⟨d,rows,rfl,⟨ds,hd,rl⟩,hl,q⟩:=h;unfold lQ;simp only [ends,bg,ay,a7,ai,av,aW,aO,aS,du,bO,fe,aT,aJ,aj,ag];refine⟨by decide,fun p hp=>?_⟩;refine fI (fun τ G'=>(∃ a b,τ=[some d,some (.ref p),a,b])/\e8 G G'/\G' p=some (.lst ((qS [] (rows.flatten.map (·.a))).map enc))) ?_ ?_
 ·intro N hN;simp only [eR,bY,au,aa];refine qw hd (e8.new hp) fun ok dA=>?_;refine KA rl (fun pre τ G'=>(∃ a b,τ=[some d,some (.ref p),a,b])/\e8 G G'/\G' p=some (.lst ((qS [] (pre.flatten.map (·.a))).map enc))) ⟨⟨_,_,rfl⟩,.new hp,aC⟩ (fun _ _ _ h=>dA _ h.2.1) ?_ ?_
  ·rintro pre r post x τ G' N2 e hx ⟨⟨a,b,rfl⟩,l,gp⟩ pE;have hlen:pre.flatten.length+r.length<=rows.flatten.length:=by
    rw [e]; simp only [eZ,bQ,aP]; lia
   simp only [aJ,eR,aj,ag,bY,au,ae,aa];refine qw hx l fun Qz PD=>?_;refine dP (xs:=r) (fun pp τ G'=>(∃ a b,τ=[some d,some (.ref p),a,b])/\e8 G G'/\G' p=some (.lst ((qS (qS [] (pre.flatten.map (·.a))) (pp.map (·.a))).map enc))) ⟨⟨_,_,rfl⟩,l,gp⟩ (fun _ _ _ h=>PD _ h.2.1) ?_ ?_
   ·rintro pp t pt τ G4 N3 e4 ⟨⟨a,b,rfl⟩,l4,MN⟩ Ca;have QS:pp.length < r.length:=by have:=congrArg dW e4; simp at this; lia
    have hz:=qD (pp.map (·.a)) (qS [] (pre.flatten.map (·.a)));have NA:=qD (pre.flatten.map (·.a)) [];rw [af] at hz NA;rw [av] at NA;simp only [aJ,nT,aj,ag,Ka,eh,oT,au,ae,aa,ff,az,aZ,dC,aT,dn,fM,Je,cW,c4];refine sV (x:=t.a) (xs:=qS (qS [] (pre.flatten.map (·.a))) (pp.map (·.a))) (by decide) MN ?_;simp only [if_true,bD];have eu:qS (qS [] (pre.flatten.map (·.a))) ((pp++[t]).map (·.a))=used (qS (qS [] (pre.flatten.map (·.a))) (pp.map (·.a))) t.a:=by
     rw [aH,Cf]; rfl
    by_cases hm:t.a∈qS (qS [] (pre.flatten.map (·.a))) (pp.map (·.a))
    ·simp only [hm,decide_true,bK,aw,if_false];refine Ca _ _ ⟨⟨_,_,rfl⟩,l4,?_⟩;rw [eu]; unfold used; rw [if_pos hm]; exact MN
    ·simp only [hm,decide_false,c3,if_true,MN];refine⟨trivial,vx (by rw [af]; lia),Ca _ _ ⟨⟨_,_,rfl⟩,l4.put hp,?_⟩⟩;rw [aC,eu]; unfold used; rw [if_neg hm,aH]; rfl
   ·rintro τ G4 ⟨⟨a,b,rfl⟩,l4,MN⟩;refine pE _ _ ⟨⟨_,_,rfl⟩,l4,?_⟩;have:(pre++[r]).flatten.map (·.a)=pre.flatten.map (·.a)++r.map (·.a):=by simp
    rw [this,Cf]; exact MN
  ·rintro τ G' ⟨⟨a,b,rfl⟩,l,gp⟩;exact hN _ _ ⟨⟨_,_,rfl⟩,l,gp⟩
 ·rintro _ G' ⟨⟨a,b,rfl⟩,l,gp⟩;simp only [cq,dq,ky,az,au,ae,aa,aT];have hz:=qD (rows.flatten.map (·.a)) [];rw [af,av] at hz;refine Bb (IsL.ref gp) (by lia) fun p2 xH=>?_;exact gu (l.trans (.new xH)) (l.free xH) aC q
end K3
end K2
end
section
namespace K2
open PySem (Str)
open Enc (enc)
namespace K3
open K2.P K2.yu
noncomputable def NR(n:Int):Int:=n % 999+1
noncomputable def fit(n:Int):Nat->Int
 | 0=>n
 | k+1=>NR (fit n k)
theorem rG{n:Int}(h1:1<=n)(h2:n<=999):∀ k:Nat,fit n k=(n - 1+k) % 999+1
 | 0=>by show n=_; lia
 | k+1=>by
  show NR (fit n k)=_;rw [rG h1 h2 k];unfold NR;lia
theorem oR:∀ (xs ys:List Int),xs.Nodup->(∀ x∈xs,x∈ys)->xs.length<=ys.length
 | [],_,_,_=>bS _
 | x :: xs,ys,hn,h=>by
  rw [fS] at hn;have:=oR xs (ys.erase x) hn.2 fun y hy=>(List.mem_erase_of_ne (show y≠x from fun z=>hn.1 (by rw [<-z]; exact hy))).mpr (h y (aE _ hy));have hx:=h x (by simp);rw [List.length_erase_of_mem hx] at this;have:=List.length_pos_of_mem hx;rw [ai]; lia
theorem uQ{n:Int}{ns:List Int}(h1:1<=n)(h2:n<=999)(hl:ns.length<=500):∃ k,k<=ns.length/\fit n k∉ns:=by
 apply wY;intro Mn;have Fy:∀ k,k<=ns.length->fit n k∈ns:=fun k hk=>wY fun z=>Mn ⟨k,hk,z⟩;have nd:((bP (ns.length+1)).map fun k=>fit n k).Nodup:=by
  refine List.pairwise_iff_getElem.mpr fun i j hi hj zg=>?_;simp only [af,cC] at hi hj;rw [cQ,cQ,fE,fE,rG h1 h2,rG h1 h2];lia
 have:=oR _ ns nd fun x hx=>by
  obtain⟨k,hk,rfl⟩:=List.mem_map.mp hx;exact Fy k (by have:=List.mem_range.mp hk; lia)
 simp at this;lia
theorem iZ(rows:Rows):(bz rows).length<=rows.flatten.length:=by
 unfold bz;rw [Bx];have:=qD (rows.flatten.map (·.a)) [];rw [af,av] at this;lia
theorem j7{rows:Rows}{n:Int}:n∈bz rows↔n∈rows.flatten.map (·.a):=by
 unfold bz;rw [(k9 _).mem_iff,l8];simp
noncomputable def ia:mq:=fun ds G Q _=>∃ (d:D) (rows:Rows) (c:Int),ds=[d,.int c]/\ye G d rows/\rows.flatten.length < 64/\∀ m:Int,m∉rows.flatten.map (·.a)->1<=m->m<=999->Q (.int m) G
noncomputable def nG:gW :=
 (cm (bO (aZ gR (dC (.int 1)) (aZ jI (aZ jI (aZ xk (au 1) (dC (.int 48271))) (dC (.int 1000003))) (dC (.int 999)))) (aJ 2))
 (cm (A8 (fX (aZ (yo false) (au 2) (br bN (az (au 0) aT)))) (bO (aZ gR (aZ jI (au 2) (dC (.int 999))) (dC (.int 1))) (aJ 2)))
 (cq (dq (au 2)))))
theorem si(ds:List D)(G:Gp)(Q:DK)(h:ia ds G Q fun _ _=>False):nG (fun _ _=>False) (ends Q) (bg 3 ds) G:=by
 obtain⟨d,rows,c,rfl,hd,hl,q⟩:=h;unfold nG;simp only [ends,bg,ay,a7,ai,av,aW,aO,aS,du,bO,aZ,dC,au,ae,aa,aJ,aj,ag,jf,cO,eB];refine⟨.inr ⟨by decide,by decide⟩,by decide,by decide,?_⟩;have b1:1<=1+c * 48271 % 1000003 % 999:=by lia
 have b2:1+c * 48271 % 1000003 % 999<=999:=by lia
 generalize 1+c * 48271 % 1000003 % 999=n at *;have Kl:=iZ rows;refine fI (fun τ G'=>G=G'/\∃ m:Int,(m∉bz rows/\1<=m/\m<=999)/\τ=[some d,some (.int c),some (.int m)]) ?_ ?_
 ·intro N hN;obtain⟨k,hk,j8⟩:=uQ (ns:=bz rows) b1 b2 (by lia);have main:∀ (j:Nat),j<=k->tR (fX (aZ (yo false) (au 2) (br bN (az (au 0) aT)))) (bO (aZ gR (aZ jI (au 2) (dC (.int 999))) (dC (.int 1))) (aJ 2)) (j+1) (fun _ _=>False) { ends Q with nx:=N } [some d,some (.int c),some (.int (fit n (k - j)))] G:=by
   intro j;induction j with
   | zero =>
    intro _;show tR _ _ (0+1) _ _ _ _;rw [tR];simp only [bO,aZ,au,ae,aa,dC,aJ,ends,aj,ag,cO,eB,c4,br,az,aT];refine⟨d,rows,rfl,hd,hl,?_⟩;refine BJ (x:=fit n (k - 0)) (by decide) ?_;simp only [aw,Nat.sub_zero,j8,decide_false,c3,if_false,bD];have:=rG b1 b2 k;exact hN _ _ ⟨rfl,_,⟨j8,by lia,by lia⟩,rfl⟩
   | succ j ih =>
    intro hj;rw [tR];simp only [bO,aZ,au,ae,aa,dC,aJ,ends,aj,ag,cO,eB,c4,br,az,aT];refine⟨d,rows,rfl,hd,hl,?_⟩;refine BJ (x:=fit n (k - (j+1))) (by decide) ?_;have hb:=rG b1 b2 (k - (j+1));by_cases hm:fit n (k - (j+1))∈bz rows
    ·simp only [aw,hm,decide_true,bK,if_false,bD,if_true];refine⟨by decide,?_⟩;have e:fit n (k - (j+1)) % 999+1=fit n (k - j):=by
      rw [show k - j=(k - (j+1))+1 by lia]; rfl
     rw [e];exact ih (by lia)
    ·simp only [aw,hm,decide_false,c3,if_false,bD];exact hN _ _ ⟨rfl,_,⟨hm,by lia,by lia⟩,rfl⟩
  have:=main k (aG _);rw [yh] at this;exact⟨k+1,this⟩
 ·rintro _ _ ⟨rfl,m,⟨m1,m2,m3⟩,rfl⟩;simp only [cq,dq,au,ae,aa];exact iG (q m (fun z=>m1 (j7.mpr z)) m2 m3)
noncomputable def ins(r:List T3)(k:Nat)(p:T3):List T3:=r.take k++p :: r.drop k
theorem uE(r:List T3)(k:Nat)(p:T3):(ins r k p).Perm (p :: r):=En p r k
theorem xE(r:List T3)(k:Nat)(p:T3):(r.map enc).take k++enc p :: (r.map enc).drop k=(ins r k p).map (enc:T3->D):=by
 unfold ins; rw [aH,ay,DC,DD]
structure DF(L:List T3):Prop where
 nd:(L.map T3.s).Nodup
 way:∀ p∈L,p.b=0\/p.b=1
 hand:∀ p∈L,p.c=1\/p.c=-1
 HM:∀ p∈L,(⟨p.a,1 - p.b,p.c⟩:T3)∈L
theorem DF.perm{L L':List T3}(h:DF L)(p:L'.Perm L):DF L' :=
 ⟨(p.map _).nodup_iff.mpr h.nd,fun x hx=>h.way x (p.mem_iff.mp hx),fun x hx=>h.hand x (p.mem_iff.mp hx),fun x hx=>p.mem_iff.mpr (h.HM x (p.mem_iff.mp hx))⟩
theorem DF.add{L:List T3}(h:DF L){m hd:Int}(hm:m∉L.map (·.a))(hh:hd=1\/hd=-1):DF (⟨m,1,hd⟩ :: ⟨m,0,hd⟩ :: L):=by
 have no:∀ w,(⟨m,w⟩:T2)∉L.map T3.s:=fun w z=>by
  obtain⟨p,hp,e⟩:=List.mem_map.mp z;exact hm (List.mem_map.mpr ⟨p,hp,by have:=congrArg T2.a e; exact this⟩)
 refine⟨?_,?_,?_,?_⟩
 ·rw [ay,ay,fS,fS];refine⟨fun z=>?_,no 0,h.nd⟩;rcases List.mem_cons.mp z with e | z
  ·have:=congrArg T2.b e;exact absurd (show (1:Int)=0 from this) (by decide)
  ·exact no 1 z
 ·intro p hp;rcases List.mem_cons.mp hp with rfl | hp
  ·exact .inr rfl
  ·rcases List.mem_cons.mp hp with rfl | hp
   ·exact .inl rfl
   ·exact h.way p hp
 ·intro p hp;rcases List.mem_cons.mp hp with rfl | hp
  ·exact hh
  ·rcases List.mem_cons.mp hp with rfl | hp
   ·exact hh
   ·exact h.hand p hp
 ·intro p hp;rcases List.mem_cons.mp hp with rfl | hp
  ·exact aE _ bb
  ·rcases List.mem_cons.mp hp with rfl | hp
   ·exact bb
   ·exact aE _ (aE _ (h.HM p hp))
theorem HR.at_{G G':Gp}{p0:Nat}{as:List Nat}{rs:Rows}(h:HR G G' p0 as rs){j:Int}(j1:0<=j)(j2:j < rs.length):∃ a r,as[j.toNat]?=some a/\rs[j.toNat]?=some r/\G' a=some (.lst (r.map enc))/\oV (as.map D.ref) j=some (.ref a):=by
 have hj:j.toNat < as.length:=by have:=h.len; lia
 refine⟨as[j.toNat],rs[j.toNat]'(by lia),aq hj,aq _,h.at' _ _ _ (aq hj) (aq _),?_⟩;rw [kL _ j1 (by rw [af]; have:=h.len; lia),cQ]
end K3
end K2
end
section
namespace K2
open PySem (Str)
open Enc (enc)
namespace tK
open K2.P
open K2.yt (ft fN)
theorem Er{n:Nat}(h:n<=100000):n<=SZ:=by unfold SZ; lia
noncomputable abbrev Cs:=List Rows
noncomputable def DO(a:Rows)(x:List T3):Rows:=a++[x]
noncomputable def AB(m:List (List T3))(a:Rows):Cs:=m.map (DO a)
noncomputable def pick(ls:List (List (List T3))):Cs:=ls.foldl (fun acc m=>acc.flatMap (AB m)) [[]]
theorem wg(ls:List (List (List T3)))(m:List (List T3)):pick (ls++[m])=(pick ls).flatMap (AB m):=by unfold pick; rw [oh]; rfl
theorem qg{m:List (List T3)}:∀ l:Cs,(l.flatMap (AB m)).length=m.length * l.length
 | []=>by simp
 | a :: l=>by
  rw [List.flatMap_cons,aP,qg l,ai,Nat.mul_succ];unfold AB;rw [af]; lia
theorem qh{k:Nat}(ls:List (List (List T3)))(h:∀ m∈ls,m.length<=k):(pick ls).length<=k ^ ls.length:=by
 have:∀ (ls:List (List (List T3))) (acc:Cs),(∀ m∈ls,m.length<=k)->(ls.foldl (fun acc m=>acc.flatMap (AB m)) acc).length<=k ^ ls.length * acc.length:=by
  intro ls;induction ls with
  | nil=>intro acc _; simp
  | cons m ls ih =>
   intro acc h;have:=ih (acc.flatMap (AB m)) fun x hx=>h x (aE _ hx);rw [qg] at this;refine bw this ?_;rw [ai,Nat.pow_succ,Nat.mul_assoc];exact sM (aG _) (sM (h m bb) (aG _))
 have:=this ls [[]] h;rw [dg,Nat.mul_one] at this;exact this
theorem yR{P:List (List (List T3))->Rows->Prop}(h0:P [] [])(h1:∀ ls m a x,P ls a->x∈m->P (ls++[m]) (a++[x]))(ls:List (List (List T3))):∀ c∈pick ls,P ls c:=by
 have:∀ (post pre:List (List (List T3))) (acc:Cs),(∀ c∈acc,P pre c)->∀ c∈post.foldl (fun acc m=>acc.flatMap (AB m)) acc,P (pre++post) c:=by
  intro post;induction post with
  | nil=>intro pre acc h c hc; rw [eE]; exact h c hc
  | cons m post ih =>
   intro pre acc h c hc;rw [List.append_cons];refine ih (pre++[m]) _ (fun c hc=>?_) c hc;obtain⟨a,ha,hc⟩:=List.mem_flatMap.mp hc;obtain⟨x,hx,rfl⟩:=List.mem_map.mp hc;exact h1 pre m a x (h a ha) hx
 exact this ls [] [[]] fun c hc=>by obtain rfl:=List.mem_singleton.mp hc; exact h0
theorem wj(ls:List (List (List T3)))(c:Rows)(h:c∈pick ls):c.length=ls.length :=
 yR (P:=fun ls c=>c.length=ls.length) rfl (fun ls m a x e _=>by rw [aP,aP,e]; rfl) ls c h
theorem Qw{k:Nat}(h:k<=3):24 ^ k<=13824:=bw (su (by decide) h) (by decide)
noncomputable def jZ:gW :=
 (cm (bO (dq (fe (az (fe aT) aT))) (aJ 1))
 (cm (eR (gF (au 0)) (aJ 2) (cm (bO (fe aT) (aJ 3))
 (cm (eR (gF (au 1)) (aJ 4) (eh (oT sR ql (au 3) (az (et 1 [4] (gF (au 2)) (aJ 0) none (dq (aZ gR (au 1) (fe (az (au 0) aT))))) aT))))
 (bO (dq (au 3)) (aJ 1)))))
 (cq (dq (au 1)))))
noncomputable def fk:mq:=fun ds G Q _=>∃ ls:List (List (List T3)),ds=[enc ls]/\(ls.length<=3/\∀ m∈ls,m.length<=24)/\Q (enc (pick ls)) G
theorem n6(ds:List D)(G:Gp)(Q:DK)(h:fk ds G Q fun _ _=>False):jZ (fun _ _=>False) (ends Q) (bg 5 ds) G:=by
 obtain⟨ls,rfl,⟨h3,hm⟩,q⟩:=h;unfold jZ;simp only [ends,bg,ay,a7,ai,av,aW,aO,aS,du,bO,dq,fe,az,aT,aJ,aj,ag];refine⟨by decide,fun pa fa=>⟨by decide,fun pb fb=>?_⟩⟩;have la:e8 G (cB (cB G pa (.lst [])) pb (.lst [.ref pa])):=(e8.new fa).trans (.new fb);have T6:G pb=none:=by
  cases e:G pb with
  | none=>rfl
  | some o=>have:=(e8.new (o:=.lst []) fa) _ _ e; rw [this] at fb; cases fb
 refine ph la T6 aC (.cons (.ref ((e8.new fb) _ _ aC) (by simp [fa]) .nil) .nil) ?_;refine fI (fun τ G'=>G=G'/\∃ a b c,τ=[some (enc ls),some (enc (pick ls)),a,b,c]) ?_ ?_
 ·intro N hN;simp only [eR,bY,au,aa];refine cS ?_;refine dP (xs:=ls) (fun pre τ G'=>G=G'/\∃ a b c,τ=[some (enc ls),some (enc (pick pre)),a,b,c]) ⟨rfl,_,_,_,rfl⟩ (fun _ _ _ _=>trivial) ?_ ?_
  ·rintro pre m post τ G' N2 e ⟨rfl,a,b,c,rfl⟩ pE;have vD:pre.length<=2:=by have:=congrArg dW e; simp at this; lia
   have hz:(pick pre).length<=13824:=bw (qh pre fun x hx=>hm x (by rw [e]; exact fK _ hx)) (Qw (by lia));have NA:(pick pre).length<=576:=bw (qh pre fun x hx=>hm x (by rw [e]; exact fK _ hx)) (bw (su (by decide) vD) (by decide));have QW:m.length<=24:=hm m (by rw [e]; simp);simp only [aJ,aj,ag,fL,bO,fe,aT,av];refine⟨by decide,fun p3 f3=>?_⟩;simp only [eR];simp only [bY,au,ae,aa];refine cS ?_;refine dP (xs:=pick pre) (fun sx τ G2=>e8 G G2/\G2 p3=some (.lst ((sx.flatMap (AB m)).map enc))/\∃ c,τ=[some (enc ls),some (enc (pick pre)),some (enc m),some (.ref p3),c]) ⟨.new f3,aC,_,rfl⟩ (fun _ _ _ _=>trivial) ?_ ?_
   ·rintro sx a2 IL τ G2 N3 e2 ⟨l2,g2,c,rfl⟩ Ca;have Te:sx.length<=(pick pre).length:=by rw [e2]; simp
    have Ku:a2.length=pre.length:=wj pre a2 (by rw [e2]; simp);simp only [aJ,eh,oT,au,aj,ag,ae,aa,ff,g2,az,et,aT,ig,bY,true_and];refine cS ⟨Er (by rw [af]; lia),?_⟩;refine fP (xs:=m) (fun pr acc τ G3=>G2=G3/\(∃ a,τ=[a,some (enc a2)])/\acc=(pr.map (DO a2)).map enc) ⟨rfl,⟨_,rfl⟩,rfl⟩ (fun _ _ _ _ _=>trivial) ?_ ?_
    ·rintro pr w po acc τ G3 N4 e3 ⟨rfl,⟨a,rfl⟩,rfl⟩ PY;simp only [aJ,dq,aZ,au,ag,ae,aa,fe,az,aT,ai,av];refine⟨by decide,fun pc fc=>?_⟩;refine tJ (IsL.enc a2) (IsL.ref aC) (Er (by rw [af,Ku]; show _+1<=100000; lia)) fun pd fd=>?_;refine gu (xs:=DO a2 w) ((e8.new fc).trans (.new fd)) ((e8.new fc).free fd) (by rw [aC]; unfold DO; rw [aH]; rfl) ?_;refine PY _ _ _ ⟨rfl,⟨_,rfl⟩,?_⟩;rw [aH,aH]; rfl
    ·rintro acc τ G3 ⟨rfl,⟨a,rfl⟩,rfl⟩ pc fc;have n3:p3≠pc:=fun z=>by rw [<-z,g2] at fc; cases fc
     have g3:(cB G2 pc (.lst ((m.map (DO a2)).map enc))) p3=some (.lst ((sx.flatMap (AB m)).map enc)):=by rw [cw n3]; exact g2
     have lo:mF (.ref pc) (cB G2 pc (.lst ((m.map (DO a2)).map enc)))=some ((m.map (DO a2)).map enc):=by unfold mF; simp only [aC]
     simp only [g3,lo];refine⟨Er ?_,?_⟩
     ·rw [af,af,af,qg];have:m.length * sx.length<=24 * 576:=sM QW (by lia);lia
     ·refine Ca _ _ ⟨(l2.trans (.new fc)).put f3,?_,_,rfl⟩;rw [aC,List.flatMap_append,D7,aH]; rfl
   ·rintro τ G2 ⟨l2,g2,c,rfl⟩;simp only [bO,dq,au,ae,aa,aJ,aj,ag];refine gu (xs:=(pick pre).flatMap (AB m)) l2 f3 g2 ?_;refine pE _ _ ⟨rfl,some (enc m),some (.ref p3),c,?_⟩;rw [wg]
  ·rintro τ G' ⟨rfl,a,b,c,rfl⟩;exact hN _ _ ⟨rfl,_,_,_,rfl⟩
 ·rintro _ _ ⟨rfl,a,b,c,rfl⟩;simp only [cq,dq,au,ae,aa];exact iG q
end tK
end K2
end
section
namespace K2
open PySem (Str)
open Enc (enc)
namespace tK
open K2.P
open K2.yt (ft fN)
theorem IT{κ α:Type} [DecidableEq κ] [Enc κ] [oa κ] [DecidableEq α] [Enc α]{l:List (κ×α)}{k:κ}{v:α}{G:Gp}{Q:DK}(hv:eA l k=some v)(q:Q (enc v) G):kj (.mR (cJ l)) (enc k) G Q:=by
 rw [xl,za,hv]; exact⟨pe l k,q⟩
noncomputable abbrev M:=List (Int×Int)
noncomputable def EF(m:M)(t:T3):T3:=⟨(eA m t.a).getD 0,t.b,t.c⟩
noncomputable def qR(m:M)(r:List T3):List T3:=r.map (EF m)
noncomputable def Kn(m:M)(r:List T3):Prop:=∀ t∈r,(eA m t.a).isSome=true
noncomputable def jY:gW :=
 (cq (dq (et 3 [1] (gF (au 0)) (Ie (r0 (aJ 0) (r0 (aJ 1) (r0 (aJ 2) FF)))) none (lC (az (aZ kj (au 3) (au 0)) (az (au 1) (az (au 2) aT)))))))
noncomputable def gk:mq:=fun ds G Q _=>∃ (r:List T3) (m:M),ds=[enc r,.mR (cJ m)]/\(r.length<=1000/\Kn m r)/\Q (enc (qR m r)) G
theorem n5(ds:List D)(G:Gp)(Q:DK)(h:gk ds G Q fun _ _=>False):jY (fun _ _=>False) (ends Q) (bg 2 ds) G:=by
 obtain⟨r,m,rfl,⟨hl,hk⟩,q⟩:=h;unfold jY;simp only [cq,dq,et,bg,ay,a7,ai,av,aO,aS,ends,bY,au,aa];refine cS ⟨zV (by rw [af]; exact hl),?_⟩;refine fP (xs:=r) (fun pre acc τ G'=>G=G'/\(∃ a b c,τ=[a,b,c,some (.mR (cJ m))])/\acc=(pre.map (EF m)).map enc) ⟨rfl,⟨_,_,_,rfl⟩,rfl⟩ (fun _ _ _ _ _=>trivial) ?_ ?_
 ·rintro pre t post acc τ G' N e ⟨rfl,⟨a,b,c,rfl⟩,rfl⟩ hN;obtain⟨v,hv⟩:=Option.isSome_iff_exists.mp (hk t (by rw [e]; simp));simp only [Ie,nT,r0,aJ,FF,lC,az,aZ,au,ag,aj,ae,aa,aT,ai,av];refine IT (k:=t.a) hv ?_;refine⟨by decide,hN _ _ _ ⟨rfl,⟨_,_,_,rfl⟩,?_⟩⟩;rw [aH,aH];unfold EF;rw [gM,gM,hv]; rfl
 ·rintro acc τ G' ⟨rfl,⟨a,b,c,rfl⟩,rfl⟩ p hp;exact gu (xs:=qR m r) (.new hp) hp aC q
noncomputable def ju:gW :=
 (cq (dq (et 1 [1] (gF (au 0)) (aJ 0) none (br gk (az (au 0) (az (au 1) aT))))))
noncomputable def eT:mq:=fun ds G Q _=>∃ (rows:Rows) (m:M),ds=[enc rows,.mR (cJ m)]/\(rows.length<=1000/\∀ r∈rows,r.length<=1000/\Kn m r)/\Q (enc (rows.map (qR m))) G
theorem mJ(ds:List D)(G:Gp)(Q:DK)(h:eT ds G Q fun _ _=>False):ju (fun _ _=>False) (ends Q) (bg 2 ds) G:=by
 obtain⟨rows,m,rfl,⟨hl,hk⟩,q⟩:=h;unfold ju;simp only [cq,dq,et,bg,ay,a7,ai,av,aO,aS,ends,bY,au,aa];refine cS ⟨zV (by rw [af]; exact hl),?_⟩;refine fP (xs:=rows) (fun pre acc τ G'=>G=G'/\(∃ a,τ=[a,some (.mR (cJ m))])/\acc=(pre.map (qR m)).map enc) ⟨rfl,⟨_,rfl⟩,rfl⟩ (fun _ _ _ _ _=>trivial) ?_ ?_
 ·rintro pre r post acc τ G' N e ⟨rfl,⟨a,rfl⟩,rfl⟩ hN;simp only [aJ,br,az,au,ag,aa,ae,aT];refine⟨r,m,rfl,hk r (by rw [e]; simp),hN _ _ _ ⟨rfl,⟨_,rfl⟩,?_⟩⟩;rw [aH,aH]; rfl
 ·rintro acc τ G' ⟨rfl,⟨a,rfl⟩,rfl⟩ p hp;exact gu (xs:=rows.map (qR m)) (.new hp) hp aC q
noncomputable def mM(r:List T3)(k:Nat):List T3:=r.drop k++r.take k
noncomputable def jN(r:List T3):List (List T3):=(bP (max 1 r.length)).map (mM r)
theorem lD(r:List T3):(jN r).length=max 1 r.length:=by unfold jN; rw [af,cC]
theorem xh{r:List T3}{k:Nat}{G:Gp}{Q:DK}{d:D}(hd:IsL G d (r.map enc))(hk:k<=r.length)(hl:r.length<=1000)(q:Q (enc (mM r k)) G) :
  CL d (some (k:Int)) none G fun x G1=>CL d none (some (k:Int)) G1 fun y G2=>gR x y G2 fun z G3=>Dz G3 z Q:=by
 refine q0 hd ?_;rw [mf,qF r k hk];intro p hp;refine q0 (hd.mono (.new hp)) ?_;rw [mf,Ba r k hk];intro p2 xH;have AR:p≠p2:=fun z=>by rw [<-z,aC] at xH; cases xH
 have g1:cB (cB G p (.lst ((r.drop k).map enc))) p2 (.lst ((r.take k).map enc)) p=some (.lst ((r.drop k).map enc)):=by rw [cw AR,aC]
 have gl:e8 G (cB (cB G p (.lst ((r.drop k).map enc))) p2 (.lst ((r.take k).map enc))):=(e8.new hp).trans (.new xH);show uZ _ _ _ _;unfold uZ;rw [j6 (IsL.ref (ds:=(r.drop k).map enc) g1),j6 (IsL.ref (ds:=(r.take k).map enc) aC)];refine⟨zV (by simp; lia),fun p3 B9=>?_⟩;refine gu (xs:=mM r k) (gl.trans (.new B9)) (gl.free B9) ?_ q;rw [aC];unfold mM;rw [aH]
noncomputable def kS:gW :=
 (cm (fO (me (fX (au 0))) (cq (dq (fe (az (fe aT) aT)))) cW)
 (cq (dq (et 1 [0] (uF (ky jj (az (au 0) aT))) (aJ 0) none (dq (aZ gR (pF (au 1) (iH (au 0)) cE) (pF (au 1) cE (iH (au 0)))))))))
noncomputable def fT:mq:=fun ds G Q _=>∃ r:List T3,ds=[enc r]/\r.length<=1000/\Q (enc (jN r)) G
theorem oX(ds:List D)(G:Gp)(Q:DK)(h:fT ds G Q fun _ _=>False):kS (fun _ _=>False) (ends Q) (bg 1 ds) G:=by
 obtain⟨r,rfl,hl,q⟩:=h;unfold kS;refine fI (fun τ G'=>G=G'/\r≠[]/\τ=[some (enc r)]) ?_ ?_
 ·intro N hN;simp only [fO,me,bg,ay,a7,ai,av,aO,aS,cq,dq,fe,az,aT,ends,cW,c4,au,aa];cases r with
  | nil =>
   refine⟨by decide,fun pa fa=>⟨by decide,fun pb fb=>?_⟩⟩;have la:e8 G (cB (cB G pa (.lst [])) pb (.lst [.ref pa])):=(e8.new fa).trans (.new fb);exact ph la ((e8.new fa).free fb) aC (.cons (.ref ((e8.new fb) _ _ aC) (by simp [fa]) .nil) .nil) q
  | cons a t=>exact hN _ _ ⟨rfl,by simp,rfl⟩
 ·rintro _ _ ⟨rfl,lG,rfl⟩;simp only [cq,dq,et,ends,iF,ky,az,au,aa,aT];refine iL (IsL.enc r) ?_;simp only [af,gC];have Mo:max 1 r.length=r.length:=by
   cases r with
   | nil=>exact absurd rfl lG
   | cons a t=>simp
  refine⟨by lia,by lia,zV (by unfold e7; rw [af,cC]; lia),?_⟩;unfold e7;refine fP (xs:=bP (r.length:Int).toNat) (f:=fun i:Nat=>D.int (0+(i:Int))) (fun pre acc τ G'=>G=G'/\(∃ a,τ=[a,some (enc r)])/\acc=(pre.map (mM r)).map enc) ⟨rfl,⟨_,rfl⟩,rfl⟩ (fun _ _ _ _ _=>trivial) ?_ ?_
  ·rintro pre k post acc τ G' N e ⟨rfl,⟨a,rfl⟩,rfl⟩ hN;have hk:k < r.length:=by
    have:k∈bP (r.length:Int).toNat:=by rw [e]; simp
    have:=List.mem_range.mp this; lia
   simp only [aJ,dq,aZ,pF,au,qW,ag,ae,aa,cE,fy,ez];refine xh (IsL.enc r) (by lia) hl (hN _ _ _ ⟨rfl,⟨_,rfl⟩,?_⟩);rw [aH,aH]; rfl
  ·rintro acc τ G' ⟨rfl,⟨a,rfl⟩,rfl⟩ p hp;refine gu (xs:=jN r) (.new hp) hp ?_ q;rw [aC];unfold jN;rw [Mo,jU]
noncomputable def jJ(m:M)(n:Int):M:=if (eA m n).isSome=true then m else x8 m n ((m.length:Int)+1)
noncomputable def met(L:List T3):M:=L.foldl (fun m t=>jJ m t.a) []
theorem E6(L:List T3)(t:T3):met (L++[t])=jJ (met L) t.a:=by unfold met; rw [oh]; rfl
theorem E8(m:M)(n:Int):(jJ m n).length<=m.length+1:=by
 unfold jJ;split
 ·lia
 ·exact Gs _ _ _
theorem HJ(L:List T3):(met L).length<=L.length:=by
 have:∀ (L:List T3) (m:M),(L.foldl (fun m t=>jJ m t.a) m).length<=m.length+L.length:=by
  intro L;induction L with
  | nil=>intro m; simp
  | cons t L ih =>
   intro m;have h1:=ih (jJ m t.a);have h2:=E8 m t.a;rw [gY,ai]; lia
 have:=this L [];simpa [met] using this
theorem Hl{neg:Bool}{n:Int}{a:Nat}{m:M}{G:Gp}{Q:DK}(h:G a=some (.iV (cJ m)))(q:Q (.bl (if neg then !(eA m n).isSome else (eA m n).isSome)) G):yo neg (.int n) (.ref a) G Q:=by
 unfold yo;simp only [h];refine⟨pe m n,?_⟩;rw [show (D.int n)=enc n from rfl,za,jx]; exact q
theorem Gi{a:Nat}{m:M}{G:Gp}{Q:DK}(h:G a=some (.iV (cJ m)))(q:Q (.int (m.length:Int)) G):jj [.ref a] G Q:=by
 rw [Gg];simp only [h];refine⟨?_,by unfold cJ; rw [af]; exact q⟩;unfold cJ;rw [qP];exact List.all_eq_true.mpr fun _ _=>rfl
theorem yZ{a:Nat}{L:List T3}{t:T3}{G:Gp}{τ:gx}{E:ke}{K:jB}(i j:Nat)(hi:τ[i]?=some (some (enc t)))(hj:τ[j]?=some (some (.ref a)))(h:G a=some (.iV (cJ (met L))))(hl:L.length<=900)
  (hN:∀ G2,(G2=G\/∃ o,G2=cB G a o)->G2 a=some (.iV (cJ (met (L++[t]))))->K.nx τ G2) :
  fO (fX (aZ (yo true) (aZ kj (au i) (dC (.int 0))) (au j))) (bO (aZ gR (ky jj (az (au j) aT)) (dC (.int 1))) (AV (au j) (aZ kj (au i) (dC (.int 0))))) cW E K τ G:=by
 have QW:=HJ L;simp only [fO,bO,aZ,ky,az,au,hj,aT,dC,cW,c4,hi,nT,fM,Je];refine Hl h ?_;simp only [if_true,bD];rw [E6] at hN;cases hs:(eA (met L) t.a).isSome with
 | true =>
  simp only [bK,aw,if_false];refine hN G (.inl rfl) ?_;unfold jJ; rw [if_pos hs]; exact h
 | false =>
  simp only [c3,if_true];refine Gi h ?_;simp only [AV,au,hj,aZ,hi,dC,eB];refine P.wa (k:=t.a) (v:=((met L).length:Int)+1) h (by lia) ?_;refine hN _ (.inr ⟨_,rfl⟩) ?_;rw [aC]; unfold jJ; rw [if_neg (by rw [hs]; exact eK)]
noncomputable def jv:gW :=
 (cm (bO uX (aJ 1))
 (cm (eR (gF (br iA (az (au 0) aT))) (aJ 2) (fO (fX (aZ (yo true) (aZ kj (au 2) (dC (.int 0))) (au 1))) (bO (aZ gR (ky jj (az (au 1) aT)) (dC (.int 1))) (AV (au 1) (aZ kj (au 2) (dC (.int 0))))) cW))
 (cq (dq (au 1)))))
noncomputable def eU:mq:=fun ds G Q _=>∃ rows:Rows,ds=[enc rows]/\rows.flatten.length<=100/\Q (.mR (cJ (met rows.flatten))) G
theorem mK(ds:List D)(G:Gp)(Q:DK)(h:eU ds G Q fun _ _=>False):jv (fun _ _=>False) (ends Q) (bg 3 ds) G:=by
 obtain⟨rows,rfl,hl,q⟩:=h;unfold jv;simp only [ends,bg,ay,a7,ai,av,aW,aO,aS,du,bO,uX,aJ,aj,ag];intro d hd;refine fI (fun τ G'=>(∃ b,τ=[some (enc rows),some (.ref d),b])/\e8 G G'/\G' d=some (.iV (cJ (met rows.flatten)))) ?_ ?_
 ·intro N hN;simp only [eR,bY,br,az,au,aa,aT];refine⟨rows,rfl,(show rows.flatten.length<=1000 by lia),cS ?_⟩;refine dP (xs:=rows.flatten) (fun pre τ G'=>(∃ b,τ=[some (enc rows),some (.ref d),b])/\e8 G G'/\G' d=some (.iV (cJ (met pre)))) ⟨⟨_,rfl⟩,.new hd,aC⟩ (fun _ _ _ _=>trivial) ?_ ?_
  ·rintro pre t post τ G' N2 e ⟨⟨b,rfl⟩,l,gd⟩ pE;have hp:pre.length<=rows.flatten.length:=by rw [e]; simp
   simp only [aJ,ag,aj];refine yZ 2 1 rfl rfl gd (by lia) fun G2 h2 g2=>pE _ _ ⟨⟨_,rfl⟩,?_,g2⟩;rcases h2 with rfl | ⟨o,rfl⟩
   ·exact l
   ·exact l.put hd
  ·rintro τ G' ⟨⟨b,rfl⟩,l,gd⟩;exact hN _ _ ⟨⟨_,rfl⟩,l,gd⟩
 ·rintro _ G' ⟨⟨b,rfl⟩,l,gd⟩;simp only [cq,dq,au,ae,aa];exact AW l hd gd q
end tK
end K2
end
section
namespace K2
open PySem (Str)
open Enc (enc)
namespace tK
open K2.P
open K2.yt (ft fN gU jK)
structure Gd(m:M):Prop where
 nd:(m.map (·.1)).Nodup
 vs:m.map (·.2)=(bP m.length).map fun i:Nat=>(i:Int)+1
theorem kc{m:M}{n:Int}:(eA m n).isSome=m.any fun p=>p.1=n:=by
 unfold eA;rw [jx,Bool.eq_iff_iff,List.find?_isSome,List.any_eq_true]
theorem qj{m:M}{n:Int}(h:(eA m n).isSome=false):jJ m n=m++[(n,(m.length:Int)+1)]:=by
 unfold jJ;rw [if_neg (by rw [h]; exact eK)];unfold x8;rw [kc] at h;rw [if_neg (by rw [h]; exact eK)]
theorem HL{m:M}(h:Gd m)(n:Int):Gd (jJ m n):=by
 cases hs:(eA m n).isSome with
 | true=>unfold jJ; rw [if_pos hs]; exact h
 | false =>
  rw [qj hs];refine⟨?_,?_⟩
  ·rw [aH,eS];refine⟨h.nd,by simp,fun a ha b hb e=>?_⟩;obtain⟨p,hp,rfl⟩:=List.mem_map.mp ha;have hb:b=n:=by simpa using hb
   rw [kc] at hs;have:=List.any_eq_false.mp hs p hp;simp [e,hb] at this
  ·rw [aH,h.vs,aP,dg,List.range_succ,aH]; rfl
theorem HK{P:M->Prop}(h0:P [])(h1:∀ m n,P m->P (jJ m n))(L:List T3):P (met L):=by
 have:∀ (L:List T3) (m:M),P m->P (L.foldl (fun m t=>jJ m t.a) m):=by
  intro L;induction L with
  | nil=>intro m h; exact h
  | cons t L ih=>intro m h; exact ih _ (h1 m t.a h)
 exact this L [] h0
theorem ue(L:List T3):Gd (met L):=HK (P:=Gd) ⟨bZ,rfl⟩ (fun m n h=>HL h n) L
theorem wu(m:M)(n:Int):(jJ m n).map (·.1)=K3.used (m.map (·.1)) n:=by
 unfold K3.used;cases hs:(eA m n).isSome with
 | true =>
  unfold jJ;rw [if_pos hs,if_pos];rw [kc] at hs;obtain⟨p,hp,e⟩:=List.any_eq_true.mp hs;exact List.mem_map.mpr ⟨p,hp,by simpa using e⟩
 | false =>
  rw [qj hs,if_neg,aH]; rfl;intro z;obtain⟨p,hp,e⟩:=List.mem_map.mp z;rw [kc] at hs;have:=List.any_eq_false.mp hs p hp;simp [e] at this
theorem ud(L:List T3):(met L).map (·.1)=K3.qS [] (L.map (·.a)):=by
 have:∀ (L:List T3) (m:M),(L.foldl (fun m t=>jJ m t.a) m).map (·.1)=K3.qS (m.map (·.1)) (L.map (·.a)):=by
  intro L;induction L with
  | nil=>intro m; rfl
  | cons t L ih =>
   intro m;rw [gY,ih,wu]; rfl
 exact this L []
theorem rq(L:List T3):Kn (met L) L:=by
 intro t ht;have h:t.a∈(met L).map (·.1):=by
  rw [ud,K3.l8];exact .inr (List.mem_map.mpr ⟨t,ht,rfl⟩)
 rw [kc];obtain⟨p,hp,e⟩:=List.mem_map.mp h;exact List.any_eq_true.mpr ⟨p,hp,by simp [e]⟩
theorem lE{m:M}{n v:Int}(h:eA m n=some v):(n,v)∈m:=by
 unfold eA at h;obtain⟨p,hp,rfl⟩:=Option.map_eq_some_iff.mp h;have h1:=List.mem_of_find?_eq_some hp;have h2:p.1=n:=by simpa using List.find?_some hp
 rw [<-h2]; exact h1
theorem Gd.inj{m:M}(h:Gd m){a b v:Int}(ha:eA m a=some v)(hb:eA m b=some v):a=b:=by
 obtain⟨i,hi,e1⟩:=c9 (lE ha);obtain⟨j,hj,e2⟩:=c9 (lE hb);have f:∀ (k:Nat) (hk:k < m.length),(m[k]).2=(k:Int)+1:=fun k hk=>by
  have:=congrArg (fun l=>l[k]?) h.vs;simp only [cT,List.getElem?_range hk,aq hk,yg] at this;exact a6 this
 have f1:=f i hi;have f2:=f j hj;rw [e1] at f1;rw [e2] at f2;have:i=j:=by lia
 subst this;rw [e1] at e2;exact congrArg Prod.fst e2
theorem LK{m:M}(h:Gd m){x y:T3}(hx:(eA m x.a).isSome=true)(hy:(eA m y.a).isSome=true)(e:(EF m x).s=(EF m y).s):x.s=y.s:=by
 obtain⟨v,hv⟩:=Option.isSome_iff_exists.mp hx;obtain⟨u,hu⟩:=Option.isSome_iff_exists.mp hy;have e1:(eA m x.a).getD 0=(eA m y.a).getD 0:=congrArg T2.a e;have e2:x.b=y.b:=congrArg T2.b e;rw [hv,hu] at e1;have e1:v=u:=e1;subst e1;have:=h.inj hv hu;unfold T3.s;rw [this,e2]
theorem JF{m:M}(h:Gd m):∀ {r:List T3},Kn m r->(r.map T3.s).Nodup->((qR m r).map T3.s).Nodup:=by
 intro r;induction r with
 | nil=>intro _ _; exact bZ
 | cons t r ih =>
  intro hk hn;rw [ay,fS] at hn;unfold qR;rw [ay,ay,fS];refine⟨fun z=>hn.1 ?_,ih (fun x hx=>hk x (aE _ hx)) hn.2⟩;obtain⟨y,hy,e⟩:=List.mem_map.mp z;obtain⟨x,hx,rfl⟩:=List.mem_map.mp hy;exact List.mem_map.mpr ⟨x,hx,LK h (hk x (aE _ hx)) (hk t bb) e⟩
theorem yI(r:List T3)(k:Nat):(mM r k).Perm r:=by
 unfold mM;exact List.perm_append_comm.trans (by rw [dc])
theorem GY{r a b:List T3}{x:T3}(hx:x=fN r)(e:r=a++x :: b)(hn:x∉a):ft r=x :: b++a:=by
 have hi:r.idxOf (fN r)=a.length:=by
  rw [<-hx,e,List.idxOf_append,if_neg hn,List.idxOf_cons_self]; simp
 unfold ft;rw [hi,e,List.drop_left,List.take_left]
inductive Ro:Rows->Rows->Prop
 | nil:Ro [] []
 | cons {r x:List T3} {rs xs:Rows}:(∃ k,k<=r.length/\x=mM r k)->Ro rs xs->Ro (r :: rs) (x :: xs)
theorem Ro.snoc{rs xs:Rows}{r x:List T3}(h:Ro rs xs)(k:∃ k,k<=r.length/\x=mM r k):Ro (rs++[r]) (xs++[x]):=by
 induction h with
 | nil=>exact .cons k .nil
 | cons q _ ih=>exact .cons q ih
noncomputable def i5(rows:Rows):Cs:=pick (rows.map jN)
theorem mI{rows:Rows}{c:Rows}(h:c∈i5 rows):Ro rows c:=by
 have:∀ c∈pick (rows.map jN),∀ rs:Rows,rows.map jN=rs.map jN->Ro rs c :=
  yR (P:=fun ls c=>∀ rs:Rows,ls=rs.map jN->Ro rs c) (fun rs e=>by
   have:rs=[]:=by simpa using e.symm
   subst this; exact .nil) (fun ls m a x ih hx rs e=>by
   obtain⟨l1,l2,rfl,e1,e2⟩:=List.map_eq_append_iff.mp e.symm;obtain⟨r,rfl,e3⟩:∃ r,l2=[r]/\jN r=m:=by
    cases l2 with
    | nil=>simp at e2
    | cons r l2 =>
     simp at e2;exact⟨r,by rw [e2.2],e2.1⟩
   refine(ih l1 e1.symm).snoc ?_;rw [<-e3] at hx;obtain⟨k,hk,rfl⟩:=List.mem_map.mp hx;have:=List.mem_range.mp hk;by_cases h0:r.length=0
   ·refine⟨0,bS _,?_⟩;have:r=[]:=by simpa using h0
    subst this; unfold mM; simp
   ·exact⟨k,by lia,rfl⟩) _
 exact this c h rows rfl
theorem Ro.len{rs xs:Rows}(h:Ro rs xs):xs.length=rs.length:=by
 induction h with
 | nil=>rfl
 | cons _ _ ih=>rw [ai,ai,ih]
theorem Ro.perm{rs xs:Rows}(h:Ro rs xs):xs.flatten.Perm rs.flatten:=by
 induction h with
 | nil=>exact .refl _
 | cons q _ ih =>
  obtain⟨k,_,rfl⟩:=q;rw [bQ,bQ];exact(yI _ k).append ih
theorem tF(rows:Rows):0 < (i5 rows).length:=by
 have:∀ (ls:List (List (List T3))) (acc:Cs),(∀ m∈ls,m≠[])->acc≠[]->(ls.foldl (fun acc m=>acc.flatMap (AB m)) acc)≠[]:=by
  intro ls;induction ls with
  | nil=>intro acc _ h; exact h
  | cons m ls ih =>
   intro acc h ha;refine ih _ (fun x hx=>h x (aE _ hx)) fun z=>?_;have:=congrArg dW z;rw [qg,av,Nat.mul_eq_zero] at this;rcases this with z | z
   ·exact h m bb (List.length_eq_zero_iff.mp z)
   ·exact ha (List.length_eq_zero_iff.mp z)
 refine List.length_pos_iff.mpr (this (rows.map jN) [[]] (fun m hm=>?_) (by simp));obtain⟨r,_,rfl⟩:=List.mem_map.mp hm;intro z;have:=lD r;rw [z] at this;simp at this;lia
noncomputable def sm(rows:Rows):Rows:=(rows.map (qR (met rows.flatten))).map ft
noncomputable def bi(rows:Rows):Nat:=vn (fun i j=>aU.lt (sm ((i5 rows).getD i [])) (sm ((i5 rows).getD j []))) ((i5 rows).length - 1)
noncomputable def bc(rows:Rows):Rows:=(i5 rows).getD (bi rows) []
theorem M3(rows:Rows):bi rows < (i5 rows).length:=by
 have h1:=Gm (fun i j=>aU.lt (sm ((i5 rows).getD i [])) (sm ((i5 rows).getD j []))) ((i5 rows).length - 1);have h2:=tF rows;unfold bi; lia
theorem n4(rows:Rows):bc rows∈i5 rows:=by
 unfold bc;rw [aN,aq (M3 rows)];exact cP _
theorem Iw{α:Type} [DecidableEq α] [Enc α] [aU α](f:Nat->α):∀ (n j:Nat),j<=n->aU.lt (f j) (f (vn (fun i j=>aU.lt (f i) (f j)) n))=false:=by
 intro n;induction n with
 | zero =>
  intro j hj;obtain rfl:j=0:=by lia
  exact aU.AP _
 | succ n ih =>
  intro j hj;show aU.lt (f j) (f (if _ then _ else _))=false;split
  ·rename_i h;by_cases e:j=n+1
   ·subst e; exact aU.AP _
   ·cases hz:aU.lt (f j) (f (n+1)) with
    | false=>rfl
    | true =>
     have:=aU.trans _ _ _ hz h;rw [ih j (by lia)] at this; cases this
  ·rename_i h;by_cases e:j=n+1
   ·subst e; simpa using h
   ·exact ih j (by lia)
theorem x5{rows c:Rows}(h:c∈i5 rows):aU.lt (sm c) (sm (bc rows))=false:=by
 obtain⟨j,hj,rfl⟩:=c9 h;have:=Iw (fun i=>sm ((i5 rows).getD i [])) ((i5 rows).length - 1) j (by lia);have e:(i5 rows).getD j []=(i5 rows)[j]:=by rw [aN,aq hj]; rfl
 rw [e] at this;exact this
end tK
end K2
end
section
namespace K2
open PySem (Str)
open Enc (enc)
namespace tK
open K2.P
open K2.yt (ft fN gU jK)
noncomputable def tp(c:Rows):D:=.tup [enc (sm c),.mR (cJ (met c.flatten))]
structure Sz(rows:Rows):Prop where
 n:rows.length<=3
 f:rows.flatten.length<=24
theorem Sz.row{rows:Rows}(h:Sz rows){r:List T3}(hr:r∈rows):r.length<=24:=bw (yu.nN hr) h.f
theorem Sz.ro{rows c:Rows}(h:Sz rows)(r:Ro rows c):Sz c:=⟨by rw [r.len]; exact h.n,by rw [r.perm.length_eq]; exact h.f⟩
theorem sT(m:M)(r:List T3):(qR m r).length=r.length:=af _
theorem uA{rows:Rows}{r:List T3}(hr:r∈rows):Kn (met rows.flatten) r:=fun t ht=>rq _ t (List.mem_flatten.mpr ⟨r,hr,ht⟩)
theorem Cq{rows:Rows}(hz:Sz rows):(i5 rows).length<=13824:=by
 refine bw (qh (k:=24) _ fun m hm=>?_) (Qw (by rw [af]; exact hz.n));obtain⟨r,hr,rfl⟩:=List.mem_map.mp hm;rw [lD];have:=hz.row hr;lia
end tK
end K2
end
section
namespace K2
open PySem (Str)
open Enc (enc)
namespace yu
open K2.P
variable {rows:Rows}
end yu
end K2
end
section
namespace K2
open PySem (Str)
open Enc (enc)
namespace yu
open K2.P
variable {rows:Rows}
noncomputable def z3:T3:=⟨0,0,0⟩
theorem Gq{r:List T3}{k:Nat}(h:k < r.length):oV (r.map (enc:T3->D)) (0+(k:Int))=some (enc (r.getD k z3)):=by
 rw [kL _ (by lia) (by rw [af]; lia),cQ];congr 2;rw [aN,aq h];show r[(0+(k:Int)).toNat]=r[k];congr 1; lia
end yu
end K2
end
section
namespace K2
open PySem (Str)
open Enc (enc)
namespace tK
open K2.P
open K2.yt (ft fN gU jK)
open K2.yu (eF ck z3 Gq)
noncomputable def fu:gW :=
 (cm (fO (me (fX (A9 "list" (au 0)))) (cq (dq (dC (.bl false)))) cW)
 (cm (eR (gF (au 0)) (aJ 1) (cm (fO (me (fX (A9 "list" (au 1)))) (cq (dq (dC (.bl false)))) cW)
 (eR (gF (au 1)) (aJ 2) (cm (fO (Ck (me (fX (A9 "tuple" (au 2)))) (fX (aZ (IK true) (ky jj (az (au 2) aT)) (dC (.int 3))))) (cq (dq (dC (.bl false)))) cW)
 (fO (me (fX (ky KJ (az (et 1 [] (gF (au 2)) (aJ 0) none (br eF (az (au 0) aT))) aT)))) (cq (dq (dC (.bl false)))) cW)))))
 (cq (dq (dC (.bl true))))))
noncomputable def cb:mq:=fun ds G Q _=>∃ rows:Rows,ds=[enc rows]/\Q (.bl true) G
theorem ip(ds:List D)(G:Gp)(Q:DK)(h:cb ds G Q fun _ _=>False):fu (fun _ _=>False) (ends Q) (bg 3 ds) G:=by
 obtain⟨rows,rfl,q⟩:=h;unfold fu;simp only [cm,fO,me,bg,ay,a7,ai,av,aW,aO,aS,cq,dq,dC,ends,cW,eR,bY,au,aa,c4,kF];refine B4 (IsL.enc rows) ?_;simp only [beq_self_eq_true,bD,bK,aw,if_false];refine cS ?_;refine dP (xs:=rows) (fun pre τ G'=>e8 G G'/\∃ b c,τ=[some (enc rows),b,c]) ⟨.refl G,_,_,rfl⟩ (fun _ _ _ _=>trivial) ?_ ?_
 ·rintro pre r post τ G1 N e ⟨l1,b,c,rfl⟩ hN;simp only [aJ,cm,fO,me,aj,ag,cq,dq,dC,cW,eR,bY,au,ae,aa,c4,kF];refine B4 (IsL.enc r) ?_;simp only [beq_self_eq_true,bD,bK,aw,if_false];refine cS ?_;refine dP (xs:=r) (fun pre τ G'=>e8 G G'/\∃ b c,τ=[some (enc rows),b,c]) ⟨l1,_,_,rfl⟩ (fun _ _ _ _=>trivial) ?_ ?_
  ·rintro sx t IL τ G2 N2 e2 ⟨l2,b,c,rfl⟩ pE;simp only [aJ,cm,fO,Ck,me,nT,aj,ag,cq,dq,dC,cW,c4,ky,az,et,aT,bY,au,ae,aa,qv,ai,av,if_true,aZ,nY,kF,nO,beq_self_eq_true,bD,bK,aw,if_false];refine⟨_,_,.int _,.int _,?_⟩;simp only [pq,if_true,bD];refine⟨by decide,?_⟩;refine fP (xs:=[t.a,t.b,t.c]) (fun pre acc τ G'=>G2=G'/\acc=aW pre.length (D.bl true)/\∃ a,τ=[a]) ⟨rfl,rfl,_,rfl⟩ (fun _ _ _ _ _=>trivial) ?_ ?_
   ·rintro Se i LS acc τ G3 N3 e3 ⟨rfl,rfl,a,rfl⟩ Ca;simp only [aJ,br,az,au,ag,aa,aT];refine⟨i,rfl,Ca _ _ _ ⟨rfl,?_,_,rfl⟩⟩;simp [List.replicate_succ']
   ·rintro acc τ G3 ⟨rfl,rfl,a,rfl⟩ p hp;refine⟨aW 3 true,?_,?_⟩
    ·unfold itemsOf; simp only [aC]; rfl
    ·simp only [aW,ai,av,bD];exact pE _ _ ⟨l2.trans (.new hp),_,_,rfl⟩
  ·rintro τ G2 ⟨l2,b,c,rfl⟩;exact hN _ _ ⟨l2,_,_,rfl⟩
 ·rintro τ G1 ⟨l1,b,c,rfl⟩;simp only [cq,dq,dC];exact Ig l1 q
noncomputable def HQ(x y:T3):Bool:=lexLt [x.a,x.b] [y.a,y.b]
theorem qo{x y:T3}:HQ x y=true↔x.a < y.a\/(x.a=y.a/\x.b < y.b):=by
 unfold HQ;simp only [lexLt];by_cases h:x.a=y.a
 ·rw [if_pos h];by_cases h2:x.b=y.b
  ·rw [if_pos h2]; simp; lia
  ·rw [if_neg h2]; simp; lia
 ·rw [if_neg h]; simp; lia
theorem HP{x y:T3}:aU.lt x y=true↔x.a < y.a\/(x.a=y.a/\(x.b < y.b\/(x.b=y.b/\x.c < y.c))):=by
 show oF (fun a b:Int=>decide (a < b)) [x.a,x.b,x.c] [y.a,y.b,y.c]=true↔_;simp only [oF];by_cases h:x.a=y.a
 ·by_cases h2:x.b=y.b
  ·by_cases h3:x.c=y.c
   ·simp [h,h2,h3]
   ·simp [h,h2,h3]
  ·simp [h,h2]
 ·simp [h]
theorem KQ{r:List T3}{k:Nat}(h:k < r.length):oV (r.map (enc:T3->D)) (k:Int)=some (enc (r.getD k z3)):=by
 have:=Gq h;rw [qW] at this; exact this
theorem getD_mem{r:List T3}{k:Nat}(h:k < r.length):r.getD k z3∈r:=by
 rw [aN,aq h]; exact cP h
theorem CG{r:List T3}(nd:(r.map T3.s).Nodup){b:Nat}(hb:b < r.length)(h:∀ k,k < r.length->HQ (r.getD k z3) (r.getD b z3)=false):mM r b=ft r:=by
 have lG:r≠[]:=fun z=>by rw [z] at hb; exact absurd hb (lL _)
 have hx:r.getD b z3=fN r:=by
  refine uw _ _ ?_ (jK (getD_mem hb));unfold sA;cases hz:aU.lt (fN r) (r.getD b z3) with
  | false=>rfl
  | true =>
   exfalso;obtain⟨j,hj,ej⟩:=c9 (gU lG);have h1:=h j hj;have e1:r.getD j z3=fN r:=by rw [aN,aq hj]; exact ej
   rw [e1] at h1;have h2:=HP.mp hz;have h3:¬ ((fN r).a < (r.getD b z3).a\/((fN r).a=(r.getD b z3).a/\(fN r).b < (r.getD b z3).b)):=fun z=>by rw [qo.mpr z] at h1; cases h1
   have es:(fN r).s=(r.getD b z3).s:=by
    unfold T3.s;have h4:(fN r).a=(r.getD b z3).a:=by lia
    have h5:(fN r).b=(r.getD b z3).b:=by lia
    rw [h4,h5]
   have Us:j=b:=by
    by_cases QZ:j=b
    ·exact QZ
    ·exfalso;have pw:=List.pairwise_iff_getElem.mp nd;have g:∀ k (hk:k < r.length),(r.map T3.s)[k]'(by rw [af]; exact hk)=(r.getD k z3).s:=fun k hk=>by
      rw [cQ,aN,aq hk]; rfl
     rcases Nat.lt_or_gt_of_ne QZ with q | q
     ·refine pw j b (by rw [af]; exact hj) (by rw [af]; exact hb) q ?_;rw [g j hj,g b hb,e1]; exact es
     ·refine pw b j (by rw [af]; exact hb) (by rw [af]; exact hj) q ?_;rw [g j hj,g b hb,e1]; exact es.symm
   subst Us;rw [e1,aU.AP] at hz;cases hz
 have Su:r.Nodup:=by
  refine List.Pairwise.imp ?_ (List.pairwise_map.mp nd);intro a b h e;exact h (congrArg _ e)
 have e:r=r.take b++r.getD b z3 :: r.drop (b+1):=by
  conv=>lhs; rw [<-dc b r]
  rw [cZ hb,aN,aq hb]; rfl
 have hn:r.getD b z3∉r.take b:=fun z=>by
  have NI:=Su;rw [e,eS] at NI;exact NI.2.2 _ z _ bb rfl
 rw [GY hx e hn];unfold mM;rw [cZ hb];congr 1;rw [aN,aq hb]; rfl
noncomputable def nF:gW :=
 (cm (bO (dC (.int 0)) (aJ 1))
 (cm (eR (uF (ky jj (az (au 0) aT))) (aJ 2) (fO (fX (aZ Np (pF (aZ kj (au 0) (au 2)) cE (iH (dC (.int 2)))) (pF (aZ kj (au 0) (au 1)) cE (iH (dC (.int 2)))))) (bO (au 2) (aJ 1)) cW))
 (cq (dq (aZ gR (pF (au 0) (iH (au 1)) cE) (pF (au 0) cE (iH (au 1))))))))
noncomputable def je:mq:=fun ds G Q _=>∃ r:List T3,ds=[enc r]/\(r.length<=1000/\(r.map T3.s).Nodup)/\Q (enc (ft r)) G
theorem sg(ds:List D)(G:Gp)(Q:DK)(h:je ds G Q fun _ _=>False):nF (fun _ _=>False) (ends Q) (bg 3 ds) G:=by
 obtain⟨r,rfl,⟨hl,nd⟩,q⟩:=h;unfold nF;simp only [ends,bg,ay,a7,ai,av,aW,aO,aS,du,bO,dC,aJ,aj,ag];refine fI (fun τ G'=>G=G'/\∃ (b:Nat) (x:Option D),τ=[some (enc r),some (.int b),x]/\b<=r.length/\mM r b=ft r) ?_ ?_
 ·intro N hN;simp only [eR,iF,ky,az,au,aa,aT];refine iL (IsL.enc r) ?_;simp only [af,gC];refine⟨by lia,by lia,?_⟩;unfold e7;refine dP (xs:=bP (r.length:Int).toNat) (f:=fun i:Nat=>D.int (0+(i:Int))) (fun ks τ G'=>G=G'/\∃ (b:Nat) (x:Option D),τ=[some (enc r),some (.int b),x]/\(b < r.length\/(r=[]/\b=0))/\∀ k∈ks,HQ (r.getD k z3) (r.getD b z3)=false) ⟨rfl,0,_,rfl,by cases r <;> simp,by simp⟩ (fun _ _ _ _=>trivial) ?_ ?_
  ·rintro ks k post τ G' N2 e ⟨rfl,b,x,rfl,hb,GH⟩ pE;have hk:k < r.length:=by
    have:k∈bP (r.length:Int).toNat:=by rw [e]; simp
    have:=List.mem_range.mp this; lia
   have hb:b < r.length:=hb.resolve_right fun z=>by rw [z.1] at hk; exact absurd hk (lL _)
   simp only [aJ,fO,qW,aj,ag,bO,au,ae,aa,cW,c4,aZ,pF,cE,fy,dC,ez];refine o8 (IsL.enc r) (KQ hk) ?_;simp only [nT,oj,ai,av,MV];refine⟨by decide,?_⟩;refine o8 (IsL.enc r) (KQ hb) ?_;simp only [nT,oj,ai,av,MV];refine⟨by decide,?_⟩;refine⟨[(r.getD k z3).a,(r.getD k z3).b],[(r.getD b z3).a,(r.getD b z3).b],rfl,rfl,?_⟩;simp only [bD];show if HQ (r.getD k z3) (r.getD b z3)=true then _ else _
   cases hc:HQ (r.getD k z3) (r.getD b z3) with
   | true =>
    simp only [if_true];refine pE _ _ ⟨rfl,k,_,rfl,.inl hk,fun j hj=>?_⟩;rcases List.mem_append.mp hj with hj | hj
    ·cases hz:HQ (r.getD j z3) (r.getD k z3) with
     | false=>rfl
     | true =>
      have h1:=qo.mp hz;have h2:=qo.mp hc;have h3:HQ (r.getD j z3) (r.getD b z3)=true:=qo.mpr (by lia);rw [GH j hj] at h3; cases h3
    ·obtain rfl:=List.mem_singleton.mp hj;cases hz:HQ (r.getD j z3) (r.getD j z3) with
     | false=>rfl
     | true=>have:=qo.mp hz; lia
   | false =>
    simp only [aw,if_false];refine pE _ _ ⟨rfl,b,_,rfl,.inl hb,fun j hj=>?_⟩;rcases List.mem_append.mp hj with hj | hj
    ·exact GH j hj
    ·obtain rfl:=List.mem_singleton.mp hj;exact hc
  ·rintro τ G' ⟨rfl,b,x,rfl,hb,GH⟩;refine hN _ _ ⟨rfl,b,x,rfl,?_⟩;rcases hb with hb | ⟨rfl,rfl⟩
   ·exact⟨by lia,CG nd hb fun k hk=>GH k (List.mem_range.mpr (by lia))⟩
   ·exact⟨aG _,rfl⟩
 ·rintro _ _ ⟨rfl,b,x,rfl,hb,e⟩;simp only [cq,dq,aZ,pF,au,aa,cE,fy,ae,ez];refine xh (IsL.enc r) hb hl ?_;rw [e]; exact q
noncomputable def lP:gW :=
 (cq (dq (et 1 [] (gF (au 0)) (aJ 0) none (br je (az (au 0) aT)))))
noncomputable def gB:mq:=fun ds G Q _=>∃ rows:Rows,ds=[enc rows]/\(rows.length<=1000/\∀ r∈rows,r.length<=1000/\(r.map T3.s).Nodup)/\Q (enc (rows.map ft)) G
theorem qL(ds:List D)(G:Gp)(Q:DK)(h:gB ds G Q fun _ _=>False):lP (fun _ _=>False) (ends Q) (bg 1 ds) G:=by
 obtain⟨rows,rfl,⟨hl,hr⟩,q⟩:=h;unfold lP;simp only [cq,dq,et,bg,ay,a7,ai,av,aO,aS,ends,bY,au,aa];refine cS ⟨zV (by rw [af]; exact hl),?_⟩;refine fP (xs:=rows) (fun pre acc τ G'=>G=G'/\acc=(pre.map ft).map enc/\∃ x,τ=[x]) ⟨rfl,rfl,_,rfl⟩ (fun _ _ _ _ _=>trivial) ?_ ?_
 ·rintro pre r post acc τ G' N e ⟨rfl,rfl,x,rfl⟩ hN;simp only [aJ,br,az,au,ag,aa,aT];refine⟨r,rfl,hr r (by rw [e]; simp),hN _ _ _ ⟨rfl,by simp,_,rfl⟩⟩
 ·rintro acc τ G' ⟨rfl,rfl,x,rfl⟩ p hp;exact gu (xs:=rows.map ft) (.new hp) hp aC q
end tK
end K2
end
section
namespace K2
open PySem (Str)
open Enc (enc)
namespace tK
open K2.P
open K2.yt (ft fN gU jK)
open K2.yu (eF ck z3 ik HR HR.fz)
open K2.K3 (DF)
noncomputable def kR:gW :=
 (cm (bO (fe aT) (aJ 2))
 (cm (eR (gF (au 0)) (aJ 3) (eh (oT sR g8 (au 2) (az (dq (et 1 [1] (gF (au 3)) (aJ 0) none (lC (az (aZ kj (au 1) (aZ kj (au 0) (dC (.int 0)))) (az (aZ kj (au 0) (dC (.int 1))) (az (aZ kj (au 0) (dC (.int 2))) aT)))))) aT))))
 (cq (dq (au 2)))))
noncomputable def dJ:mq:=fun ds G Q _=>∃ (rows:Rows) (m:M),ds=[enc rows,.mR (cJ m)]/\(rows.length<=1000/\∀ r∈rows,r.length<=1000/\Kn m r)/\Q (enc (rows.map (qR m))) G
theorem oW(ds:List D)(G:Gp)(Q:DK)(h:dJ ds G Q fun _ _=>False):kR (fun _ _=>False) (ends Q) (bg 4 ds) G:=by
 obtain⟨rows,m,rfl,⟨hl,hk⟩,q⟩:=h;unfold kR;simp only [ends,bg,ay,a7,ai,av,aW,aO,aS,du,bO,fe,aT,aJ,aj,ag];refine⟨by decide,fun p hp=>?_⟩;refine fI (fun τ G'=>(∃ b,τ=[some (enc rows),some (.mR (cJ m)),some (.ref p),b])/\e8 G G'/\G' p=some (.lst ((rows.map (qR m)).map enc))) ?_ ?_
 ·intro N hN;simp only [eR,bY,au,aa];refine cS ?_;refine dP (xs:=rows) (fun pre τ G'=>(∃ b,τ=[some (enc rows),some (.mR (cJ m)),some (.ref p),b])/\e8 G G'/\G' p=some (.lst ((pre.map (qR m)).map enc))) ⟨⟨_,rfl⟩,.new hp,aC⟩ (fun _ _ _ _=>trivial) ?_ ?_
  ·rintro pre r post τ G' N2 e ⟨⟨b,rfl⟩,l,gp⟩ pE;have vD:pre.length < rows.length:=by rw [e]; simp
   obtain⟨hr,Tj⟩:=hk r (by rw [e]; simp);simp only [aJ,eh,oT,au,aj,ag,ae,aa,ff,az,dq,et,aT,dn,bY];refine⟨by rw [gp]; exact trivial,cS ⟨zV (by rw [af]; exact hr),?_⟩⟩;refine fP (xs:=r) (fun pr acc τ G2=>G'=G2/\(∃ a,τ=[a,some (.mR (cJ m))])/\acc=(pr.map (EF m)).map enc) ⟨rfl,⟨_,rfl⟩,rfl⟩ (fun _ _ _ _ _=>trivial) ?_ ?_
   ·rintro pr t po acc τ G2 N3 e3 ⟨rfl,⟨a,rfl⟩,rfl⟩ Ca;obtain⟨v,hv⟩:=Option.isSome_iff_exists.mp (Tj t (by rw [e3]; simp));simp only [aJ,lC,az,aZ,au,nT,ag,ae,aa,dC,aT,ai,av,fM,Je];refine IT (k:=t.a) hv ?_;simp only [NV,at2];refine⟨by decide,Ca _ _ _ ⟨rfl,⟨_,rfl⟩,?_⟩⟩;rw [aH,aH];unfold EF;rw [gM,gM,hv]; rfl
   ·rintro acc τ G2 ⟨rfl,⟨a,rfl⟩,rfl⟩ p2 xH;refine gu (xs:=qR m r) (.new xH) xH aC ?_;simp only [gp];refine⟨vx (by rw [af,af]; lia),pE _ _ ⟨⟨_,rfl⟩,l.put hp,?_⟩⟩;rw [aC,aH,aH]; rfl
  ·rintro τ G' ⟨⟨b,rfl⟩,l,gp⟩;exact hN _ _ ⟨⟨_,rfl⟩,l,gp⟩
 ·rintro _ G' ⟨⟨b,rfl⟩,l,gp⟩;simp only [cq,dq,au,ae,aa];exact gu (xs:=rows.map (qR m)) l hp gp q
noncomputable def o7:gW :=
 (cm (bO uX (aJ 1))
 (cm (eR (gF (au 0)) (aJ 2) (eR (gF (au 2)) (aJ 3) (fO (fX (aZ (yo true) (aZ kj (au 3) (dC (.int 0))) (au 1))) (bO (aZ gR (ky jj (az (au 1) aT)) (dC (.int 1))) (AV (au 1) (aZ kj (au 3) (dC (.int 0))))) cW)))
 (cq (dq (au 1)))))
noncomputable def iX:mq:=fun ds G Q _=>∃ rows:Rows,ds=[enc rows]/\rows.flatten.length<=100/\Q (.mR (cJ (met rows.flatten))) G
theorem vd(ds:List D)(G:Gp)(Q:DK)(h:iX ds G Q fun _ _=>False):o7 (fun _ _=>False) (ends Q) (bg 4 ds) G:=by
 obtain⟨rows,rfl,hl,q⟩:=h;unfold o7;simp only [ends,bg,ay,a7,ai,av,aW,aO,aS,du,bO,uX,aJ,aj,ag];intro d hd;refine fI (fun τ G'=>(∃ b c,τ=[some (enc rows),some (.ref d),b,c])/\e8 G G'/\G' d=some (.iV (cJ (met rows.flatten)))) ?_ ?_
 ·intro N hN;simp only [eR,bY,au,aa];refine cS ?_;refine dP (xs:=rows) (fun pre τ G'=>(∃ b c,τ=[some (enc rows),some (.ref d),b,c])/\e8 G G'/\G' d=some (.iV (cJ (met pre.flatten)))) ⟨⟨_,_,rfl⟩,.new hd,aC⟩ (fun _ _ _ _=>trivial) ?_ ?_
  ·rintro pre r post τ G' N2 e ⟨⟨b,c,rfl⟩,l,gd⟩ pE;have hlen:pre.flatten.length+r.length<=rows.flatten.length:=by
    rw [e]; simp only [eZ,bQ,aP]; lia
   simp only [aJ,eR,aj,ag,bY,au,ae,aa];refine cS ?_;refine dP (xs:=r) (fun pp τ G'=>(∃ c,τ=[some (enc rows),some (.ref d),some (enc r),c])/\e8 G G'/\G' d=some (.iV (cJ (met (pre.flatten++pp))))) ⟨⟨_,rfl⟩,l,by rw [eE]; exact gd⟩ (fun _ _ _ _=>trivial) ?_ ?_
   ·rintro pp t pt τ G4 N3 e4 ⟨⟨c,rfl⟩,l4,P2⟩ Ca;have QS:pp.length < r.length:=by have:=congrArg dW e4; simp at this; lia
    simp only [aJ,ag,aj];refine yZ 3 1 rfl rfl P2 (by rw [aP]; lia) fun G2 h2 g2=>Ca _ _ ⟨⟨_,rfl⟩,?_,by rw [<-dh]; exact g2⟩;rcases h2 with rfl | ⟨o,rfl⟩
    ·exact l4
    ·exact l4.put hd
   ·rintro τ G4 ⟨⟨c,rfl⟩,l4,P2⟩;exact pE _ _ ⟨⟨_,_,rfl⟩,l4,by rw [eZ,List.flatten_singleton]; exact P2⟩
  ·rintro τ G' ⟨⟨b,c,rfl⟩,l,gd⟩;exact hN _ _ ⟨⟨_,_,rfl⟩,l,gd⟩
 ·rintro _ G' ⟨⟨b,c,rfl⟩,l,gd⟩;simp only [cq,dq,au,ae,aa];exact AW l hd gd q
theorem BE{r:List T3}{k:Nat}{G:Gp}{Q:DK}{d:D}(hd:IsL G d (r.map enc))(hk:k<=r.length)(hl:r.length<=1000)(q:∀ p G1,e8 G G1->G p=none->G1 p=some (.lst ((mM r k).map enc))->Q (.ref p) G1) :
  CL d (some (k:Int)) none G fun x G1=>CL d none (some (k:Int)) G1 fun y G2=>gR x y G2 Q:=by
 refine q0 hd ?_;rw [mf,qF r k hk];intro p hp;refine q0 (hd.mono (.new hp)) ?_;rw [mf,Ba r k hk];intro p2 xH;have AR:p≠p2:=fun z=>by rw [<-z,aC] at xH; cases xH
 have g1:cB (cB G p (.lst ((r.drop k).map enc))) p2 (.lst ((r.take k).map enc)) p=some (.lst ((r.drop k).map enc)):=by rw [cw AR,aC]
 have gl:e8 G (cB (cB G p (.lst ((r.drop k).map enc))) p2 (.lst ((r.take k).map enc))):=(e8.new hp).trans (.new xH);show uZ _ _ _ _;unfold uZ;rw [j6 (IsL.ref (ds:=(r.drop k).map enc) g1),j6 (IsL.ref (ds:=(r.take k).map enc) aC)];refine⟨zV (by simp; lia),fun p3 B9=>?_⟩;refine q _ _ (gl.trans (.new B9)) (gl.free B9) ?_;rw [aC];unfold mM;rw [aH]
theorem FG{G:Gp}{R:Nat->Bool}{d t:D}(h:Fz G R d t):∀ (ds:List D),zN G R (ds++[d]) (ds++[t]):=by
 intro ds;induction ds with
 | nil=>exact .cons h .nil
 | cons x ds ih=>exact .cons (.same x) ih
noncomputable def j3:gW :=
 (cm (bO (dq (fe (az (fe aT) aT))) (aJ 1))
 (cm (eR (gF (au 0)) (aJ 2) (cm (bO (fe aT) (aJ 3))
 (cm (eR (gF (au 1)) (aJ 4) (eR (uF (ky Ds (az (dC (.int 1)) (az (ky jj (az (au 2) aT)) aT)))) (aJ 5) (eh (oT sR g8 (au 3) (az (dq (aZ gR (au 4) (fe (az (aZ gR (pF (au 2) (iH (au 5)) cE) (pF (au 2) cE (iH (au 5)))) aT)))) aT)))))
 (bO (dq (au 3)) (aJ 1)))))
 (cq (dq (au 1)))))
noncomputable def fm:mq:=fun ds G Q _=>∃ rows:Rows,ds=[enc rows]/\Sz rows/\Q (enc (i5 rows)) G
theorem n8(ds:List D)(G:Gp)(Q:DK)(h:fm ds G Q fun _ _=>False):j3 (fun _ _=>False) (ends Q) (bg 6 ds) G:=by
 obtain⟨rows,rfl,hz,q⟩:=h;have hn:=hz.n;have hm:∀ m∈rows.map jN,m.length<=24:=fun m hm=>by
  obtain⟨r,hr,rfl⟩:=List.mem_map.mp hm;rw [lD];have:=hz.row hr;lia
 unfold j3;simp only [ends,bg,ay,a7,ai,av,aW,aO,aS,du,bO,dq,fe,az,aT,aJ,aj,ag];refine⟨by decide,fun pa fa=>⟨by decide,fun pb fb=>?_⟩⟩;refine ph ((e8.new fa).trans (.new fb)) ((e8.new fa).free fb) aC (.cons (.ref ((e8.new fb) _ _ aC) (by simp [fa]) .nil) .nil) ?_;refine fI (fun τ G'=>G=G'/\∃ a b c d,τ=[some (enc rows),some (enc (i5 rows)),a,b,c,d]) ?_ ?_
 ·intro N hN;simp only [eR,bY,au,aa];refine cS ?_;refine dP (xs:=rows) (fun pre τ G'=>G=G'/\∃ a b c d,τ=[some (enc rows),some (enc (i5 pre)),a,b,c,d]) ⟨rfl,_,_,_,_,rfl⟩ (fun _ _ _ _=>trivial) ?_ ?_
  ·rintro pre r post τ G' N2 e ⟨rfl,a,b,c,d,rfl⟩ pE;have vD:pre.length<=2:=by have:=congrArg dW e; simp at this; lia
   have hr:r.length<=24:=hz.row (by rw [e]; simp);have NA:(i5 pre).length<=576:=by
    refine bw (qh (k:=24) _ fun x hx=>hm x ?_) (bw (su (by decide) (by rw [af]; exact vD)) (by decide));rw [e,aH]; exact fK _ hx
   simp only [aJ,aj,ag,fL,bO,fe,aT,av];refine⟨by decide,fun p3 f3=>?_⟩;simp only [eR];simp only [bY,au,ae,aa];refine cS ?_;refine dP (xs:=i5 pre) (fun sx τ G2=>e8 G G2/\G2 p3=some (.lst ((sx.flatMap (AB (jN r))).map enc))/\∃ c d,τ=[some (enc rows),some (enc (i5 pre)),some (enc r),some (.ref p3),c,d]) ⟨.new f3,aC,_,_,rfl⟩ (fun _ _ _ _=>trivial) ?_ ?_
   ·rintro sx a2 IL τ G2 N3 e2 ⟨l2,g2,c,d,rfl⟩ Ca;have Te:sx.length < (i5 pre).length:=by rw [e2]; simp
    have Ku:a2.length=pre.length:=by have:=wj _ a2 (show a2∈pick (pre.map jN) from by rw [show pick (pre.map jN)=i5 pre from rfl,e2]; simp); rw [this,af]
    simp only [aJ,eR,aj,ag,iF,ky,az,dC,au,ae,aa,aT];refine iL (IsL.enc r) ?_;simp only [Ds,af,gC];have Mo:(if (1:Int) < (r.length:Int) then (r.length:Int) else 1)=((max 1 r.length:Nat):Int):=by split <;> lia
    rw [Mo];refine⟨by lia,by lia,?_⟩;unfold e7;refine dP (xs:=bP ((max 1 r.length:Nat):Int).toNat) (f:=fun i:Nat=>D.int (0+(i:Int))) (fun ks τ G3=>e8 G G3/\G3 p3=some (.lst ((sx.flatMap (AB (jN r))++(ks.map (mM r)).map (DO a2)).map enc))/\∃ d,τ=[some (enc rows),some (enc (i5 pre)),some (enc r),some (.ref p3),some (enc a2),d]) ⟨l2,by rw [g2]; simp,_,rfl⟩ (fun _ _ _ _=>trivial) ?_ ?_
    ·rintro ks k LS τ G3 N4 e3 ⟨l3,g3,d,rfl⟩ PY;have Vu:k < max 1 r.length:=by
      have:k∈bP ((max 1 r.length:Nat):Int).toNat:=by rw [e3]; simp
      have:=List.mem_range.mp this; lia
     have GH:ks.length<=24:=by
      have:=congrArg dW e3;rw [cC,aP,ai] at this; lia
     simp only [aJ,eh,oT,au,qW,aj,ag,ae,aa,ff,az,dq,aZ,fe,pF,cE,aT,ai,av,dn,fy,ez];refine⟨by rw [g3]; exact trivial,BE (IsL.enc r) (by lia) (by lia) fun p4 G4 l4 f4 g4=>⟨by decide,fun p5 f5=>?_⟩⟩;refine tJ (IsL.enc a2) (IsL.ref aC) (Er (by rw [af,Ku]; show _+1<=100000; lia)) fun p6 f6=>?_;have l6:e8 G4 (cB (cB G4 p5 (.lst [.ref p4])) p6 (.lst (a2.map enc++[.ref p4]))):=(e8.new f5).trans (.new f6);refine ph (ss:=(DO a2 (mM r k)).map enc) (l4.trans l6) (l4.free ((e8.new f5).free f6)) aC ?_ ?_
     ·unfold DO;rw [aH];exact FG (.ref (l6 _ _ g4) (by simp [f4]) (zN.same _)) _
     ·simp only [g3];refine⟨Er ?_,?_⟩
      ·rw [af,aP,qg,lD,af,af];have:max 1 r.length * sx.length<=24 * 576:=sM (by lia) (by lia);lia
      ·refine PY _ _ ⟨l3.put f3,?_,_,rfl⟩;rw [aC];have:∀ (a b:Cs) (x:Rows),(a++(b++[x])).map (enc:Rows->D)=(a++b).map enc++[enc x]:=fun a b x=>by simp
       rw [aH (f:=mM r),aH (f:=DO a2)];exact congrArg (fun l=>some (GO.lst l)) (this _ _ (DO a2 (mM r k))).symm
    ·rintro τ G3 ⟨l3,g3,d,rfl⟩;refine Ca _ _ ⟨l3,?_,_,_,rfl⟩;rw [g3,List.flatMap_append,D7]; rfl
   ·rintro τ G2 ⟨l2,g2,c,d,rfl⟩;simp only [bO,dq,au,ae,aa,aJ,aj,ag];refine gu (xs:=(i5 pre).flatMap (AB (jN r))) l2 f3 g2 ?_;refine pE _ _ ⟨rfl,some (enc r),some (.ref p3),c,d,?_⟩;unfold i5;rw [aH,gM,wg]
  ·rintro τ G' ⟨rfl,a,b,c,d,rfl⟩;exact hN _ _ ⟨rfl,_,_,_,_,rfl⟩
 ·rintro _ _ ⟨rfl,a,b,c,d,rfl⟩;simp only [cq,dq,au,ae,aa];exact iG q
end tK
end K2
end
section
namespace K2
open PySem (Str)
open Enc (enc)
namespace tK
open K2.P
open K2.yt (ft fN gU jK)
open K2.yu (eF ck z3 ik HR HR.fz)
open K2.K3 (DF bz bN)
theorem FE{G G1:Gp}{p:Nat}{o:GO}(l:e8 G G1):e8 (cB G p o) (cB G1 p o):=fun a ob e=>by
 by_cases ha:a=p
 ·subst ha; rw [aC] at e ⊢; exact e
 ·rw [cw ha] at e ⊢; exact l a ob e
theorem B6{G G1:Gp}{p0 p1:Nat}{as:List Nat}{rs:Rows}{o:GO}(h:HR G G1 p0 as rs)(f:G1 p1=none):HR (cB G p1 o) (cB G1 p1 o) p0 as rs:=by
 have n0:p0≠p1:=by rintro rfl; rw [h.gp] at f; cases f
 have na:∀ a∈as,a≠p1:=fun a ha=>by
  rintro rfl;obtain⟨i,hi⟩:=kP ha;have h1:i < rs.length:=by rw [<-h.len]; exact(List.getElem?_eq_some_iff.mp hi).1
  rw [h.at' i a rs[i] hi (aq h1)] at f; cases f
 exact⟨FE h.le,by rw [cw n0]; exact h.fp,by rw [cw n0]; exact h.gp,h.np,h.nd,fun a ha=>by rw [cw (na a ha)]; exact h.fr a ha,h.len,fun i a r h1 h2=>by
  rw [cw (na a (cj h1))]; exact h.at' i a r h1 h2⟩
theorem B8{G B G1:Gp}{p0:Nat}{as:List Nat}{rs:Rows}(l:e8 G B)(h:HR B G1 p0 as rs):HR G G1 p0 as rs :=
 ⟨l.trans h.le,l.free h.fp,h.gp,h.np,h.nd,fun a ha=>l.free (h.fr a ha),h.len,h.at'⟩
theorem FU(n:Nat):DF (aW n ([]:List T3)).flatten:=by
 have:(aW n ([]:List T3)).flatten=[]:=by simp
 rw [this];exact⟨bZ,(fun p h=>by cases h),(fun p h=>by cases h),(fun p h=>by cases h)⟩
end tK
end K2
end
section
namespace K2
open PySem (Str)
open Enc (enc)
namespace tK
open K2.P
open K2.yt (ft fN gU jK)
open K2.yu (eF)
open K2.K3 (DF bz bN)
variable {rows c:Rows}
theorem Lm{α:Type} [DecidableEq α] [Enc α]{neg:Bool}{x y:α}{G:Gp}{Q:DK}(hd:Enc.dep α<=8)(q:Q (.bl (if neg then !decide (x=y) else decide (x=y))) G):lR neg (enc x) (enc y) G Q :=
 .inl ⟨_,_,Enc.sn G 8 x hd,Enc.sn G 8 y hd,by rw [Enc.eqv]; exact q⟩
theorem JB{r:List T3}(h:(c.flatten.map T3.s).Nodup)(hr:r∈c):(r.map T3.s).Nodup:=by
 refine List.Sublist.nodup (List.Sublist.map _ ?_) h;obtain⟨a,b,rfl⟩:=List.append_of_mem hr;rw [eZ,bQ];exact(List.sublist_append_left _ _).trans (List.sublist_append_right _ _)
theorem keys_eq(ro:Ro rows c):DI ((met c.flatten).map (·.1))=bz rows:=by
 unfold bz;refine Jw ?_;rw [ud];refine(Ah (K3.rJ _ _ bZ) (K3.rJ _ _ bZ)).mpr fun x=>?_;rw [K3.l8,K3.l8,(ro.perm.map _).mem_iff]
theorem ou(sz:Sz c)(m:M)(kn:∀ r∈c,Kn m r):c.length<=1000/\∀ r∈c,r.length<=1000/\Kn m r:=⟨by have:=sz.n; lia,fun r hr=>⟨by have:=sz.row hr; lia,kn r hr⟩⟩
theorem yF(sz:Sz c){m:M}(gd:Gd m)(kn:∀ r∈c,Kn m r)(nd:(c.flatten.map T3.s).Nodup):(c.map (qR m)).length<=1000/\∀ r∈c.map (qR m),r.length<=1000/\(r.map T3.s).Nodup:=by
 refine⟨by rw [af]; have:=sz.n; lia,fun r hr=>?_⟩;obtain⟨r',Ke,rfl⟩:=List.mem_map.mp hr;exact⟨by rw [sT]; have:=sz.row Ke; lia,JF gd (kn r' Ke) (JB nd Ke)⟩
end tK
end K2
end
section
namespace K2
open Enc (enc)
namespace DR
open K2.P K2.tK
open K2.yt (ft fN gU jK)
open K2.K3 (DF bz)
theorem lN(a b:List T3):mM (a++b) a.length=b++a:=by unfold mM; rw [List.drop_left,List.take_left]
theorem Hb{r:List T3}{k j:Nat}(hk:k<=r.length)(hj:j<=r.length):∃ i,i<=r.length/\mM (mM r k) j=mM r i:=by
 obtain⟨a,b,rfl,rfl⟩:∃ a b,r=a++b/\k=a.length:=⟨r.take k,r.drop k,(dc k r).symm,by rw [fh]; lia⟩;rw [lN];rw [aP] at hj;by_cases h:j<=b.length
 ·obtain⟨b1,b2,rfl,rfl⟩:∃ b1 b2,b=b1++b2/\j=b1.length:=⟨b.take j,b.drop j,(dc j b).symm,by rw [fh]; lia⟩;refine⟨(a++b1).length,by simp,?_⟩;rw [dh,lN,<-dh a b1 b2,lN,dh]
 ·obtain⟨i,rfl⟩:∃ i,j=b.length+i:=⟨j - b.length,by lia⟩;obtain⟨a1,a2,rfl,rfl⟩:∃ a1 a2,a=a1++a2/\i=a1.length:=⟨a.take i,a.drop i,(dc i a).symm,by rw [fh]; lia⟩;refine⟨a1.length,by simp,?_⟩;rw [<-dh,show b.length+a1.length=(b++a1).length by simp,lN,dh a1 a2 b,lN,dh]
theorem EE{r:List T3}{k:Nat}(hk:k<=r.length):∃ i,i<=(mM r k).length/\r=mM (mM r k) i:=by
 obtain⟨a,b,rfl,rfl⟩:∃ a b,r=a++b/\k=a.length:=⟨r.take k,r.drop k,(dc k r).symm,by rw [fh]; lia⟩;rw [lN];exact⟨b.length,by simp,(lN b a).symm⟩
theorem Hd(r:List T3)(k:Nat):(mM r k).length=r.length:=(yI r k).length_eq
theorem yJ{r1 r2 r3:Rows}(h1:Ro r1 r2):Ro r2 r3->Ro r1 r3:=by
 induction h1 generalizing r3 with
 | nil=>intro h; exact h
 | cons q _ ih =>
  intro h;cases h with
  | cons q2 h2 =>
   obtain⟨k,hk,rfl⟩:=q;obtain⟨j,hj,rfl⟩:=q2;rw [Hd] at hj;exact .cons (Hb hk hj) (ih h2)
theorem Hf{r1 r2:Rows}(h:Ro r1 r2):Ro r2 r1:=by
 induction h with
 | nil=>exact .nil
 | cons q _ ih =>
  obtain⟨k,hk,rfl⟩:=q;exact .cons (EE hk) ih
theorem BH{rows c:Rows}(h:Ro rows c):c∈i5 rows:=by
 have:∀ (rows c:Rows),Ro rows c->∀ (acc:Cs) (a:Rows),a∈acc->a++c∈(rows.map jN).foldl (fun acc m=>acc.flatMap (AB m)) acc:=by
  intro rows c h;induction h with
  | nil=>intro acc a ha; rw [eE]; exact ha
  | cons q _ ih =>
   rename_i r x rs xs _;intro acc a ha;rw [List.append_cons];refine ih _ _ (List.mem_flatMap.mpr ⟨a,ha,List.mem_map.mpr ⟨x,?_,rfl⟩⟩);obtain⟨k,hk,rfl⟩:=q;by_cases PI:k < max 1 r.length
   ·exact List.mem_map.mpr ⟨k,List.mem_range.mpr PI,rfl⟩
   ·refine List.mem_map.mpr ⟨0,List.mem_range.mpr (by lia),?_⟩;have:k=r.length:=by lia
    subst this;unfold mM; simp
 exact this rows c h [[]] [] bb
noncomputable abbrev eQ(rows:Rows):Rows:=sm (bc rows)
theorem BR{r1 r2:Rows}(h:∀ c∈i5 r1,∃ c'∈i5 r2,sm c=sm c'):aU.lt (eQ r1) (eQ r2)=false:=by
 obtain⟨c',hc,e⟩:=h _ (n4 r1);show aU.lt (sm (bc r1)) (sm (bc r2))=false;rw [e]; exact x5 hc
theorem BS{r1 r2:Rows}(h1:∀ c∈i5 r1,∃ c'∈i5 r2,sm c=sm c')(h2:∀ c∈i5 r2,∃ c'∈i5 r1,sm c=sm c'):eQ r1=eQ r2:=aU.Ej _ _ (BR h1) (BR h2)
theorem xx{r1 r2:Rows}(h:Ro r1 r2):eQ r1=eQ r2 :=
 BS (fun c hc=>⟨c,BH (yJ (Hf h) (mI hc)),rfl⟩) fun c hc=>⟨c,BH (yJ h (mI hc)),rfl⟩
noncomputable def rg(g:Int->Int)(t:T3):T3:=⟨g t.a,t.b,t.c⟩
noncomputable abbrev fi(g:Int->Int)(p:Int×Int):Int×Int:=(g p.1,p.2)
noncomputable def Ij(g:Int->Int)(S:List Int):Prop:=∀ a∈S,∀ b∈S,g a=g b->a=b
theorem Cv{g:Int->Int}{S:List Int}(h:Ij g S){n:Int}(hn:n∈S):∀ (m:M),(∀ p∈m,p.1∈S)->eA (m.map (fi g)) (g n)=eA m n:=by
 intro m;induction m with
 | nil=>intro _; rfl
 | cons p m ih =>
  intro hs;have ih:=ih fun q hq=>hs q (aE _ hq);unfold eA at ih ⊢;rw [ay,dD,dD];by_cases e:p.1=n
  ·have e2:(fi g p).1=g n:=by show g p.1=g n; rw [e]
   simp only [e,e2,decide_true,yg]
  ·have e2:¬ (fi g p).1=g n:=fun z=>e (h _ (hs p bb) _ hn z);simp only [e,e2,decide_false];exact ih
theorem JX{g:Int->Int}{S:List Int}(h:Ij g S):∀ (L:List T3) (m:M),(∀ p∈m,p.1∈S)->(∀ t∈L,t.a∈S) ->
  (L.map (rg g)).foldl (fun m t=>jJ m t.a) (m.map (fi g))=(L.foldl (fun m t=>jJ m t.a) m).map (fi g):=by
 intro L;induction L with
 | nil=>intro m _ _; rfl
 | cons t L ih =>
  intro m hm hL;have ht:=hL t bb;have e:jJ (m.map (fi g)) (rg g t).a=(jJ m t.a).map (fi g):=by
   show jJ (m.map (fi g)) (g t.a)=_;have ea:=Cv h ht m hm;cases hs:(eA m t.a).isSome with
   | true =>
    unfold jJ;rw [ea,hs]; rfl
   | false =>
    rw [qj hs,qj (by rw [ea]; exact hs),aH,af]; rfl
  rw [ay,gY,gY,e];refine ih _ (fun p hp=>?_) fun x hx=>hL x (aE _ hx);have:p.1∈(jJ m t.a).map (·.1):=List.mem_map.mpr ⟨p,hp,rfl⟩;rw [wu] at this;unfold K3.used at this;split at this
  ·obtain⟨q,hq,e⟩:=List.mem_map.mp this;rw [<-e]; exact hm q hq
  ·rcases List.mem_append.mp this with z | z
   ·obtain⟨q,hq,e⟩:=List.mem_map.mp z;rw [<-e]; exact hm q hq
   ·rw [List.mem_singleton.mp z]; exact ht
theorem E7{L:List T3}{p:Int×Int}(h:p∈met L):p.1∈L.map (·.a):=by
 have:p.1∈(met L).map (·.1):=List.mem_map.mpr ⟨p,h,rfl⟩;rw [ud,K3.l8] at this;exact this.resolve_left (by simp)
theorem lA{g:T3->T3}(rows:Rows):(rows.map (gc g)).flatten=rows.flatten.map g:=by
 induction rows with
 | nil=>rfl
 | cons r rows ih=>rw [ay,bQ,ih,bQ,aH]
theorem IF{g:Int->Int}{c:Rows}(h:Ij g (c.flatten.map (·.a))):sm (c.map (gc (rg g)))=sm c:=by
 unfold sm;rw [lA];have em:met (c.flatten.map (rg g))=(met c.flatten).map (fi g):=JX h c.flatten [] (by simp) fun t ht=>List.mem_map.mpr ⟨t,ht,rfl⟩;rw [em,fD,fD,fD];refine iU fun r hr=>?_;show ft (qR _ (r.map (rg g)))=ft (qR _ r);congr 1;unfold qR;rw [fD];refine iU fun t ht=>?_;have hs:t.a∈c.flatten.map (·.a):=List.mem_map.mpr ⟨t,List.mem_flatten.mpr ⟨r,hr,ht⟩,rfl⟩;show (⟨(eA ((met c.flatten).map (fi g)) (g t.a)).getD 0,t.b,t.c⟩:T3)=⟨(eA (met c.flatten) t.a).getD 0,t.b,t.c⟩;rw [Cv h hs _ fun p hp=>E7 hp]
theorem BF(g:T3->T3)(r:List T3)(k:Nat):mM (r.map g) k=(mM r k).map g:=by unfold mM; rw [aH,DD,DC]
theorem JC{g:T3->T3}{rows c:Rows}(h:Ro rows c):Ro (rows.map (gc g)) (c.map (gc g)):=by
 induction h with
 | nil=>exact .nil
 | cons q _ ih =>
  obtain⟨k,hk,rfl⟩:=q;exact .cons ⟨k,by rw [af]; exact hk,(BF g _ k).symm⟩ ih
theorem BG{g:T3->T3}:∀ {rows c:Rows},Ro (rows.map (gc g)) c->∃ c',Ro rows c'/\c=c'.map (gc g)
 | [],c,h=>by cases h; exact⟨[],.nil,rfl⟩
 | r :: rows,c,h=>by
  cases h with
  | cons q h =>
   obtain⟨k,hk,rfl⟩:=q;obtain⟨c',h',rfl⟩:=BG h;rw [af] at hk;exact⟨mM r k :: c',.cons ⟨k,hk,rfl⟩ h',by rw [ay,BF]⟩
theorem Ij.perm{g:Int->Int}{S S':List Int}(h:Ij g S)(p:S'.Perm S):Ij g S':=fun a ha b hb e=>h a (p.mem_iff.mp ha) b (p.mem_iff.mp hb) e
theorem BQ{g:Int->Int}{rows:Rows}(h:Ij g (rows.flatten.map (·.a))):eQ (rows.map (gc (rg g)))=eQ rows:=by
 refine BS (fun c hc=>?_) fun c hc=>?_
 ·obtain⟨c',h',rfl⟩:=BG (mI hc);exact⟨c',BH h',IF (h.perm (h'.perm.map _))⟩
 ·have h':=mI hc;exact⟨_,BH (JC h'),(IF (h.perm (h'.perm.map _))).symm⟩
theorem EG(m:M):qR m=gc (rg fun a=>(eA m a).getD 0):=rfl
theorem JW(L:List T3):Ij (fun a=>(eA (met L) a).getD 0) (L.map (·.a)):=by
 intro a ha b hb e;obtain⟨t,ht,rfl⟩:=List.mem_map.mp ha;obtain⟨u,hu,rfl⟩:=List.mem_map.mp hb;obtain⟨v,hv⟩:=Option.isSome_iff_exists.mp (rq L t ht);obtain⟨w,hw⟩:=Option.isSome_iff_exists.mp (rq L u hu);dsimp only at e;rw [hv,hw] at e;have e:v=w:=e;subst e;exact(ue L).inj hv hw
theorem yE(rows:Rows):Ro rows (rows.map ft):=by
 induction rows with
 | nil=>exact .nil
 | cons r rows ih=>exact .cons ⟨_,GP,rfl⟩ ih
theorem wt(rows:Rows):eQ (eQ rows)=eQ rows:=by
 have h1:eQ (sm (bc rows))=eQ ((bc rows).map (qR (met (bc rows).flatten))):=(xx (yE _)).symm;show eQ (sm (bc rows))=_;rw [h1,EG,BQ (JW _)];exact(xx (mI (n4 rows))).symm
theorem wo(rows:Rows):(eQ rows).flatten.Perm ((bc rows).flatten.map (EF (met (bc rows).flatten))):=by
 have h:=(yE ((bc rows).map (qR (met (bc rows).flatten)))).perm;rw [show qR (met (bc rows).flatten)=gc (EF (met (bc rows).flatten)) from rfl,lA] at h;exact h
theorem AH(rows:Rows):bz (eQ rows)=(bP (bz rows).length).map fun i:Nat=>(i:Int)+1:=by
 have ro:=mI (n4 rows);have gd:=ue (bc rows).flatten;have hlen:(bz rows).length=(met (bc rows).flatten).length:=by
  rw [<-keys_eq ro,Bx,af]
 rw [hlen,<-gd.vs];have NI:((met (bc rows).flatten).map (·.2)).Nodup:=by
  rw [gd.vs];refine List.pairwise_iff_getElem.mpr fun i j hi hj zg=>?_;simp only [cQ,fE];lia
 have Md:((met (bc rows).flatten).map (·.2)).Pairwise fun a b=>sA a b=true:=by
  rw [gd.vs];refine List.pairwise_iff_getElem.mpr fun i j hi hj zg=>?_;simp only [cQ,fE];show (!decide (((j:Int)+1) < ((i:Int)+1)))=true;simp; lia
 unfold bz;refine Jv ((Ah (K3.rJ _ _ bZ) NI).mpr fun x=>?_) Md;rw [K3.l8,((wo rows).map _).mem_iff,fD];constructor
 ·rintro(z | z)
  ·cases z
  ·obtain⟨t,ht,rfl⟩:=List.mem_map.mp z;obtain⟨v,hv⟩:=Option.isSome_iff_exists.mp (rq _ t ht);show (eA (met (bc rows).flatten) t.a).getD 0∈_;rw [hv];exact List.mem_map.mpr ⟨_,lE hv,rfl⟩
 ·intro z;obtain⟨p,hp,rfl⟩:=List.mem_map.mp z;obtain⟨t,ht,e⟩:=List.mem_map.mp (E7 hp);refine .inr (List.mem_map.mpr ⟨t,ht,?_⟩);show (eA (met (bc rows).flatten) t.a).getD 0=p.2;rw [e,sf gd.nd hp]; rfl
end DR
end K2
end
section
namespace K2
open PySem (Str)
open Enc (enc)
namespace DR
open K2.P
open K2.tK (M met rq ue Kn qR EF mM jN i5 sm bc bi n4 x5 Sz Ro mI uA sT eU eT fT fk Cq tF lD Er)
open K2.yt (ft fN zH ug)
open K2.yu (HR HR.fz)
open K2.K3 (Rl yK)
theorem B7{G G1 G2:Gp}{p:Nat}{as:List Nat}{rs:Rows}(h:HR G G1 p as rs)(l:e8 G1 G2):HR G G2 p as rs :=
 ⟨h.le.trans l,h.fp,l _ _ h.gp,h.np,h.nd,h.fr,h.len,fun i a r h1 h2=>l _ _ (h.at' i a r h1 h2)⟩
theorem LF{G:Gp}:∀ {ds:List D} {rs:Rows},Rl G ds rs->Sn G 8 (.dm ds) (.dm (rs.map enc)):=by
 intro ds rs h;induction h with
 | nil=>exact .CK
 | cons hx _ ih =>
  refine .wd ?_ ih;rcases hx with rfl | ⟨a,rfl,e⟩
  ·exact nk G 6 (by decide) _
  ·exact .ref e (nk G 6 (by decide) _)
theorem IE{G G1:Gp}{p:Nat}{as:List Nat}{rs:Rows}(h:HR G G1 p as rs):Sn G1 8 (.ref p) (enc rs):=.ref h.gp (LF (yK as rs h.len h.at'))
noncomputable def wc:gW :=
 (cm (fO (me (fX (au 0))) (cq (dq (fe aT))) cW)
 (cm (bO (oT sR xy (au 0) (az (ky Ge (az (au 0) aT)) aT)) (aJ 1))
 (cq (dq (aZ gR (pF (au 0) (iH (au 1)) cE) (pF (au 0) cE (iH (au 1))))))))
noncomputable def oi:mq:=fun ds G Q _=>∃ r:List T3,ds=[enc r]/\r.length<=1000/\∀ p,G p=none->Q (.ref p) (cB G p (.lst ((ft r).map enc)))
theorem Dx(ds:List D)(G:Gp)(Q:DK)(h:oi ds G Q fun _ _=>False):wc (fun _ _=>False) (ends Q) (bg 2 ds) G:=by
 obtain⟨r,rfl,hl,q⟩:=h;unfold wc;refine fI (fun τ G'=>G=G'/\r≠[]/\τ=[some (enc r),none]) ?_ ?_
 ·intro N hN;simp only [fO,me,bg,ay,a7,ai,av,aW,aO,aS,cq,dq,fe,aT,ends,cW,c4,au,aa];cases r with
  | nil=>exact⟨by decide,fun p hp=>FI (.new hp) hp aC (q p hp)⟩
  | cons a t=>exact hN _ _ ⟨rfl,by simp,rfl⟩
 ·rintro _ _ ⟨rfl,lG,rfl⟩;simp only [ends,du,bO,oT,au,aa,az,ky,aT,aJ,cq,dq,aZ,pF,aj,ag,cE,fy,ae];refine⟨trivial,zH rfl lG (ug trivial rfl lG ?_)⟩;have PI:r.idxOf (fN r)<=r.length:=GP;refine tK.BE (IsL.enc r) PI hl fun p G1 l f g=>?_;exact FI l f g (q p f)
noncomputable def nB:gW :=
 (cq (dq (et 1 [] (gF (au 0)) (aJ 0) none (br oi (az (au 0) aT)))))
noncomputable def iz:mq:=fun ds G Q _=>∃ rows:Rows,ds=[enc rows]/\(rows.length<=1000/\∀ r∈rows,r.length<=1000)/\∀ p as G',HR G G' p as (rows.map ft)->Q (.ref p) G'
theorem u7(ds:List D)(G:Gp)(Q:DK)(h:iz ds G Q fun _ _=>False):nB (fun _ _=>False) (ends Q) (bg 1 ds) G:=by
 obtain⟨rows,rfl,⟨hl,hr⟩,q⟩:=h;unfold nB;simp only [cq,dq,et,bg,ay,a7,ai,av,aO,aS,ends,bY,au,aa];refine cS ⟨zV (by rw [af]; exact hl),?_⟩;refine fP (xs:=rows) (fun pre acc τ G'=>(∃ a,τ=[a])/\∃ bs:List Nat,acc=bs.map D.ref/\bs.length=pre.length/\bs.Nodup/\(∀ a∈bs,G a=none)/\e8 G G'/\∀ (i a:Nat) (r:List T3),bs[i]?=some a->pre[i]?=some r->G' a=some (.lst ((ft r).map enc))) ⟨⟨_,rfl⟩,[],rfl,rfl,bZ,(fun a h=>by cases h),.refl _,fun i a r h=>by simp at h⟩ (fun _ _ _ _ _=>trivial) ?_ ?_
 ·rintro pre r post acc τ G' N e ⟨⟨a,rfl⟩,bs,rfl,hl,nd,fr,le,rZ⟩ hN;simp only [aJ,br,az,au,ag,aa,aT];refine⟨r,rfl,hr r (by rw [e]; simp),fun p hp=>?_⟩;have QV:p∉bs:=fun z=>by
   obtain⟨i,hi⟩:=kP z;have h1:i < pre.length:=by rw [<-hl]; exact(List.getElem?_eq_some_iff.mp hi).1
   rw [rZ i p pre[i] hi (aq h1)] at hp; cases hp
  refine hN _ _ _ ⟨⟨_,rfl⟩,bs++[p],by simp,by simp [hl],?_,?_,le.trans (.new hp),?_⟩
  ·rw [eS];refine⟨nd,by simp,fun a h b hb e=>?_⟩;rw [gL] at hb;subst hb e;exact QV h
  ·intro a h0;rcases List.mem_append.mp h0 with h | h
   ·exact fr a h
   ·rw [gL] at h; subst h; exact le.free hp
  ·intro i b s h1 h2;by_cases hi:i < bs.length
   ·rw [bF hi] at h1;rw [bF (by lia)] at h2;have:b≠p:=by rintro rfl; exact QV (cj h1)
    rw [cw this];exact rZ i b s h1 h2
   ·rw [bL (by lia)] at h1 h2;have i0:i - bs.length=0:=by have:=(List.getElem?_eq_some_iff.mp h1).1; simp at this; lia
    rw [i0] at h1;rw [<-hl,i0] at h2;simp at h1 h2;subst h1 h2;exact aC
 ·rintro acc τ G5 ⟨⟨a',rfl⟩,bs,rfl,hl,nd,fr,le,rZ⟩ p3 B9;refine iG (q p3 bs _ ⟨le.trans (.new B9),le.free B9,aC,fun z=>?_,nd,fr,by rw [af]; exact hl,fun i b r h1 h2=>?_⟩)
  ·obtain⟨i,hi⟩:=kP z;have h1:i < rows.length:=by rw [<-hl]; exact(List.getElem?_eq_some_iff.mp hi).1
   rw [rZ i p3 rows[i] hi (aq h1)] at B9; cases B9
  ·rw [cT] at h2;obtain⟨r',Ke,rfl⟩:=Option.map_eq_some_iff.mp h2;exact(e8.new B9) _ _ (rZ i b r' h1 Ke)
noncomputable def tq(p:Nat)(c:Rows):D:=.tup [.ref p,.mR (cJ (met c.flatten))]
noncomputable def lg:gW :=
 (cm (bO (br eU (az (au 0) aT)) (aJ 1))
 (cq (dq (lC (az (br iz (az (br eT (az (au 0) (az (au 1) aT))) aT)) (az (au 1) aT))))))
noncomputable def gz:mq:=fun ds G Q _=>∃ rows:Rows,ds=[enc rows]/\Sz rows/\∀ p as G',HR G G' p as (sm rows)->Q (tq p rows) G'
theorem rO(ds:List D)(G:Gp)(Q:DK)(h:gz ds G Q fun _ _=>False):lg (fun _ _=>False) (ends Q) (bg 2 ds) G:=by
 obtain⟨rows,rfl,hz,q⟩:=h;have h1:=hz.n;have h2:=hz.f;unfold lg;simp only [ends,bg,ay,a7,ai,av,aW,aO,aS,du,bO,br,az,au,aa,aT,aJ,cq,dq,lC,aj,ag,ae];refine⟨rows,rfl,by lia,?_⟩;simp only [dq,bg,ends,c4,aZ,Dm,au,ky,oT,az,aT,cq,Cj,eh,bO,aJ,dC,cW,lC,fe,uX,kF,xY,Ck,me,nX,tD,nW,pF,fy,cE,bY,iF,br,et,eB,qe,lj,nJ,nI,jf,cO,jQ,lh,qc,sU,sW,sX,fM,jg,oj,om,qb,nZ,nY,oy,dn,ig,ie,g7,ff,sS,sQ,sP,true_and,and_true,tu,qv,ez,bD,gC,nQ,tm,nO,ay,a7,aO,aS,aa,ae,ag,aj,ai,av,aW,if_true,if_false,bK,c3,aw,du,nq];refine⟨rows,met rows.flatten,rfl,⟨by lia,fun r hr=>⟨by have:=hz.row hr; lia,uA hr⟩⟩,?_⟩;refine⟨rows.map (qR (met rows.flatten)),rfl,⟨by rw [af]; lia,fun r hr=>?_⟩,fun p as G' hr=>⟨by decide,iG (q p as G' hr)⟩⟩;obtain⟨r',Ke,rfl⟩:=List.mem_map.mp hr;rw [sT];have:=hz.row Ke;lia
noncomputable def rV:gW :=
 (cm (xX 1 (bO (et 1 [] (gF (br fk (az (dq (et 1 [] (gF (au 0)) (aJ 0) none (br fT (az (au 0) aT)))) aT))) (aJ 0) none (br gz (az (au 0) aT))) (aJ 1)))
 (cq (dq (FX (au 1)))))
noncomputable def kB:mq:=fun ds G Q _=>∃ rows:Rows,ds=[enc rows]/\Sz rows/\∀ p as G',HR G G' p as (eQ rows)->Q (tq p (bc rows)) G'
theorem zM(ds:List D)(G:Gp)(Q:DK)(h:kB ds G Q fun _ _=>False):rV (fun _ _=>False) (ends Q) (bg 2 ds) G:=by
 obtain⟨rows,rfl,hz,q⟩:=h;have h1:=hz.n;have h2:=hz.f;unfold rV;refine fI (fun τ G'=>∃ (pm:Nat) (ps:List Nat),τ=[some (enc rows),some (.ref pm)]/\ps.length=(i5 rows).length/\G' pm=some (.lst (wW tq ps (i5 rows)))/\∀ (i p:Nat) (c:Rows),ps[i]?=some p->(i5 rows)[i]?=some c->∃ as,HR G G' p as (sm c)) ?_ ?_
 ·intro N hN;simp only [xX,bO,et,bg,ay,a7,ai,av,aW,aO,aS,aJ,aj,ag,ae,aa,bY,br,az,dq,aT,au];refine cS ⟨zV (by rw [af]; lia),?_⟩;refine fP (xs:=rows) (fun pre acc τ G'=>G=G'/\(∃ a,τ=[a])/\acc=(pre.map jN).map enc) ⟨rfl,⟨_,rfl⟩,rfl⟩ (fun _ _ _ _ _=>trivial) ?_ ?_
  ·rintro pre r post acc τ G' N e ⟨rfl,⟨a,rfl⟩,rfl⟩ hN;simp only [aJ,br,az,au,ag,aa,aT];refine⟨r,rfl,by have:=hz.row (r:=r) (by rw [e]; simp); lia,hN _ _ _ ⟨rfl,⟨_,rfl⟩,?_⟩⟩;rw [aH,aH]; rfl
  ·rintro acc τ G' ⟨rfl,⟨a,rfl⟩,rfl⟩ p hp;refine gu (xs:=rows.map jN) (.new hp) hp aC ?_;refine⟨rows.map jN,rfl,⟨by rw [af]; exact h1,fun m hm=>?_⟩,?_⟩
   ·obtain⟨r,hr,rfl⟩:=List.mem_map.mp hm;rw [lD];have:=hz.row hr;lia
   ·refine cS ⟨Er (by rw [af]; have:=Cq hz; unfold i5 at this; lia),?_⟩;refine fP (xs:=i5 rows) (fun pre acc τ G'=>(∃ a,τ=[a])/\e8 G G'/\∃ ps:List Nat,ps.length=pre.length/\acc=wW tq ps pre/\∀ (i p:Nat) (c:Rows),ps[i]?=some p->pre[i]?=some c->∃ as,HR G G' p as (sm c)) ⟨⟨_,rfl⟩,.refl G,[],rfl,rfl,fun i p c h=>by simp at h⟩ (fun _ _ _ _ _=>trivial) ?_ ?_
    ·rintro pre c post acc τ G' N e ⟨⟨a,rfl⟩,l,ps,Kf,rfl,rZ⟩ hN;simp only [aJ,br,az,au,ag,aa,aT];refine⟨c,rfl,hz.ro (mI (by rw [e]; simp)),fun p as G2 hr=>hN _ _ _ ⟨⟨_,rfl⟩,l.trans hr.le,ps++[p],by simp [Kf],?_,fun i p' c' e1 e2=>?_⟩⟩
     ·rw [List.zipWith_append Kf]; rfl
     ·by_cases hi:i < ps.length
      ·rw [bF hi] at e1;rw [bF (by lia)] at e2;obtain⟨bs,hb⟩:=rZ i p' c' e1 e2;exact⟨bs,B7 hb hr.le⟩
      ·rw [bL (by lia)] at e1 e2;have i0:i - ps.length=0:=by have:=(List.getElem?_eq_some_iff.mp e1).1; simp at this; lia
       rw [i0] at e1;rw [<-Kf,i0] at e2;simp at e1 e2;subst e1 e2;exact⟨as,l.trans hr.le,l.free hr.fp,hr.gp,hr.np,hr.nd,fun a ha=>l.free (hr.fr a ha),hr.len,hr.at'⟩
    ·rintro acc τ G' ⟨⟨a,rfl⟩,l,ps,Kf,rfl,rZ⟩ p hp;exact iG (hN _ _ ⟨p,ps,rfl,Kf,aC,fun i p' c' e1 e2=>by
      obtain⟨bs,hb⟩:=rZ i p' c' e1 e2;exact⟨bs,B7 hb (.new hp)⟩⟩)
 ·rintro _ G1 ⟨pm,ps,rfl,Kf,gm,rZ⟩;simp only [cq,dq,FX,au,ae,aa,ends];have QL:(wW tq ps (i5 rows)).length=(i5 rows).length:=by rw [List.length_zipWith,Kf]; lia
  refine⟨wW tq ps (i5 rows),aU.w9 Rows,fun i=>enc (sm ((i5 rows).getD i [])),.ref gm,by rw [QL]; exact tF rows,fun i d hd=>?_,fun d hd=>?_⟩
  ·obtain⟨p,c,e1,e2,rfl⟩:=List.getElem?_zipWith_eq_some.mp hd;obtain⟨as,hr⟩:=rZ i p c e1 e2;refine⟨_,_,rfl,?_,aU.xJ _⟩;show Sn _ _ _ (enc (sm ((i5 rows).getD i [])));rw [aN,e2];exact IE hr
  ·have:(fun i j=>ku (enc (sm ((i5 rows).getD i []))) (enc (sm ((i5 rows).getD j []))))=fun i j=>aU.lt (sm ((i5 rows).getD i [])) (sm ((i5 rows).getD j [])):=by
    funext i j;exact aU.IQ _ _
   rw [this,QL] at hd;obtain⟨p,c,e1,e2,rfl⟩:=List.getElem?_zipWith_eq_some.mp hd;obtain⟨as,hr⟩:=rZ _ p c e1 e2;have e:bc rows=c:=by
    unfold bc bi;rw [aN,e2]; rfl
   rw [<-e] at hr ⊢;exact iG (q p as G1 hr)
noncomputable def tZ:gW :=
 (cq (dq (aZ kj (br kB (az (au 0) aT)) (dC (.int 0)))))
noncomputable def hX:mq:=fun ds G Q _=>∃ rows:Rows,ds=[enc rows]/\Sz rows/\∀ p as G',HR G G' p as (eQ rows)->Q (.ref p) G'
theorem Bh(ds:List D)(G:Gp)(Q:DK)(h:hX ds G Q fun _ _=>False):tZ (fun _ _=>False) (ends Q) (bg 1 ds) G:=by
 obtain⟨rows,rfl,hz,q⟩:=h;unfold tZ;simp only [cq,dq,aZ,br,az,au,bg,ay,a7,ai,av,aO,aS,aa,aT,dC,ends];refine⟨rows,rfl,hz,fun p as G' hr=>?_⟩;unfold tq;simp only [fM,Je];exact iG (q p as G' hr)
end DR
end K2
end
section
namespace K2
open PySem (Str)
open Enc (enc)
namespace DR
open K2.P
open K2.tK (M met rq ue Kn qR EF mM jN i5 sm bc bi n4 x5 Sz Ro mI uA sT Er KQ ou yF fm gB dJ iX xh)
open K2.yt (ft fN)
open K2.yu (HR HR.fz ck ik z3)
open K2.K3 (Rl yK bz bN)
theorem eq_int(a b:Int):gy (.int a) (.int b)=decide (a=b):=rfl
theorem HI{rows c:Rows}(h:c∈i5 rows)(hm:∀ c'∈i5 rows,aU.lt (sm c') (sm c)=false):sm c=eQ rows:=aU.Ej _ _ (x5 h) (hm _ (n4 rows))
noncomputable def nE:gW :=
 (cm (bO (dC .cR) (aJ 1))
 (cm (eR (gF (br fm (az (au 0) aT))) (aJ 2) (cm (bO (br gB (az (br dJ (az (au 2) (az (br iX (az (au 2) aT)) aT))) aT)) (aJ 3))
 (fO (Ck (fX (Dm (CM false) (au 1))) (fX (aZ JH (au 3) (au 1)))) (bO (au 3) (aJ 1)) cW)))
 (cq (dq (au 1)))))
noncomputable def eN:mq:=fun ds G Q _=>∃ rows:Rows,ds=[enc rows]/\(Sz rows/\(rows.flatten.map T3.s).Nodup)/\Q (enc (eQ rows)) G
theorem vc(ds:List D)(G:Gp)(Q:DK)(h:eN ds G Q fun _ _=>False):nE (fun _ _=>False) (ends Q) (bg 4 ds) G:=by
 obtain⟨rows,rfl,⟨sz,nd⟩,q⟩:=h;unfold nE;simp only [ends,bg,ay,a7,ai,av,aW,aO,aS,du,bO,dC,aJ,aj,ag];refine fI (fun τ G'=>G=G'/\∃ a b,τ=[some (enc rows),some (enc (eQ rows)),a,b]) ?_ ?_
 ·intro N hN;simp only [eR,bY,br,az,au,aa,aT];refine⟨rows,rfl,sz,cS ?_⟩;refine dP (xs:=i5 rows) (fun pre τ G'=>G=G'/\∃ (x:D) (a b:Option D),τ=[some (enc rows),some x,a,b]/\((pre=[]/\x=.cR)\/∃ c∈pre,x=enc (sm c)/\∀ c'∈pre,aU.lt (sm c') (sm c)=false)) ⟨rfl,_,_,_,rfl,.inl ⟨rfl,rfl⟩⟩ (fun _ _ _ _=>trivial) ?_ ?_
  ·rintro pre c post τ G' N2 e ⟨rfl,x,a,b,rfl,hx⟩ pE;have hc:c∈i5 rows:=by rw [e]; simp
   have Qs:=mI hc;have K6:=sz.ro Qs;have hf:=K6.f;have Sv:(c.flatten.map T3.s).Nodup:=(Qs.perm.map _).nodup_iff.mpr nd;simp only [aJ,aj,ag,fL,bO,br,az,au,ae,aa,aT,fO,Ck,cW,if_true,c4,aZ,Dm];refine⟨c,rfl,by lia,?_⟩;refine⟨c,_,rfl,ou K6 _ fun r hr=>uA hr,?_⟩;refine⟨_,rfl,yF K6 (ue _) (fun r hr=>uA hr) Sv,?_⟩;rw [show (c.map (qR (met c.flatten))).map ft=sm c from rfl];simp only [dq,bg,ends,c4,aZ,Dm,au,ky,oT,az,aT,cq,Cj,eh,bO,aJ,dC,cW,lC,fe,uX,kF,xY,Ck,me,nX,tD,nW,pF,fy,cE,bY,iF,br,et,eB,qe,lj,nJ,nI,jf,cO,jQ,lh,qc,sU,sW,sX,fM,jg,oj,om,qb,nZ,nY,oy,dn,ig,ie,g7,ff,sS,sQ,sP,true_and,and_true,tu,qv,ez,bD,gC,nQ,tm,nO,ay,a7,aO,aS,aa,ae,ag,aj,ai,av,aW,if_true,if_false,bK,c3,aw,du,nq];rcases hx with ⟨rfl,rfl⟩ | ⟨c0,h0,rfl,hm⟩
   ·simp only [CM,c3,bD,if_true];exact pE _ _ ⟨rfl,_,_,_,rfl,.inr ⟨c,by simp,rfl,fun c' h'=>by
     have e:c'=c:=by simpa using h'
     rw [e]; exact aU.AP _⟩⟩
   ·simp only [CM,c3,bD,if_true,aw,if_false];refine EM (x:=sm c) (y:=sm c0) (by decide) ?_;simp only [bD];cases hl:aU.lt (sm c) (sm c0) with
    | true =>
     simp only [if_true];refine pE _ _ ⟨rfl,_,_,_,rfl,.inr ⟨c,by simp,rfl,fun c' h'=>?_⟩⟩;rcases List.mem_append.mp h' with h' | h'
     ·cases hz:aU.lt (sm c') (sm c) with
      | false=>rfl
      | true =>
       have:=aU.trans _ _ _ hz hl;rw [hm c' h'] at this; cases this
     ·rw [List.mem_singleton.mp h']; exact aU.AP _
    | false =>
     simp only [aw,if_false];refine pE _ _ ⟨rfl,_,_,_,rfl,.inr ⟨c0,fK _ h0,rfl,fun c' h'=>?_⟩⟩;rcases List.mem_append.mp h' with h' | h'
     ·exact hm c' h'
     ·rw [List.mem_singleton.mp h']; exact hl
  ·rintro τ G' ⟨rfl,x,a,b,rfl,hx⟩;rcases hx with ⟨z,rfl⟩ | ⟨c0,h0,rfl,hm⟩
   ·exact absurd z (List.ne_nil_of_length_pos (tK.tF rows))
   ·rw [HI h0 hm];exact hN _ _ ⟨rfl,_,_,rfl⟩
 ·rintro _ _ ⟨rfl,a,b,rfl⟩;simp only [cq,dq,au,ae,aa];exact iG q
noncomputable def qa:gW :=
 (cm (bO (fe aT) (aJ 2))
 (cm (eR (uF (ky jj (az (au 0) aT))) (aJ 3) (cm (bO (aZ jI (br ck (az (au 1) (az (aZ gR (dC (.int 2)) (au 3)) aT))) (ky Ds (az (dC (.int 1)) (az (ky jj (az (aZ kj (au 0) (au 3)) aT)) aT)))) (aJ 4))
 (eh (oT sR g8 (au 2) (az (dq (aZ gR (pF (aZ kj (au 0) (au 3)) (iH (au 4)) cE) (pF (aZ kj (au 0) (au 3)) cE (iH (au 4))))) aT)))))
 (cq (dq (au 2)))))
noncomputable def jH:mq:=fun ds G Q _=>∃ (rows:Rows) (ns:List Int),ds=[enc rows,.dm (ns.map D.int)]/\Sz rows/\∀ iB:Rows,Ro rows iB->Q (enc iB) G
theorem He{rows:Rows}{k:Nat}{xs:Rows}{x:List T3}{r:List T3}(h:Ro (rows.take k) xs)(hr:rows[k]?=some r)(hx:∃ j,j<=r.length/\x=mM r j):Ro (rows.take (k+1)) (xs++[x]):=by
 rw [List.take_add_one,hr];exact h.snoc hx
theorem yc(ds:List D)(G:Gp)(Q:DK)(h:jH ds G Q fun _ _=>False):qa (fun _ _=>False) (ends Q) (bg 5 ds) G:=by
 obtain⟨rows,ns,rfl,sz,q⟩:=h;have hn:=sz.n;unfold qa;simp only [ends,bg,ay,a7,ai,av,aW,aO,aS,du,bO,fe,aT,aJ,aj,ag];refine⟨by decide,fun p hp=>?_⟩;refine fI (fun τ G'=>(∃ a b,τ=[some (enc rows),some (.dm (ns.map D.int)),some (.ref p),a,b])/\e8 G G'/\∃ xs:Rows,G' p=some (.lst (xs.map enc))/\Ro rows xs) ?_ ?_
 ·intro N hN;simp only [eR,iF,ky,az,au,aa,aT];refine iL (IsL.enc rows) ?_;simp only [af,gC];refine⟨by lia,by lia,?_⟩;unfold e7;refine dP (xs:=bP (rows.length:Int).toNat) (f:=fun i:Nat=>D.int (0+(i:Int))) (fun ks τ G'=>(∃ a b,τ=[some (enc rows),some (.dm (ns.map D.int)),some (.ref p),a,b])/\e8 G G'/\∃ xs:Rows,G' p=some (.lst (xs.map enc))/\xs.length=ks.length/\Ro (rows.take ks.length) xs) ⟨⟨_,_,rfl⟩,.new hp,[],aC,rfl,.nil⟩ (fun _ _ _ _=>trivial) ?_ ?_
  ·rintro ks k post τ G' N2 e ⟨⟨a,b,rfl⟩,l,xs,gp,Lc,ro⟩ pE;have GH:ks.length < rows.length/\k=ks.length:=by
    have h1:=congrArg dW e;rw [cC,aP,ai] at h1;have h2:=congrArg (fun l=>l[ks.length]?) e;simp only [bL (aG _),yh,aa] at h2;rw [List.getElem?_range (by lia)] at h2;exact⟨by lia,(a6 h2).symm⟩
   obtain⟨hk,rfl⟩:=GH;obtain⟨r,hr⟩:∃ r,rows[ks.length]?=some r:=⟨_,aq hk⟩;have PB:r.length<=24:=sz.row (cj hr);have M4:oV (rows.map (enc:List T3->D)) ((ks.length:Nat):Int)=some (enc r):=by
    rw [kL _ (by lia) (by rw [af]; lia),cQ];have:=(List.getElem?_eq_some_iff.mp hr).2;simp only [jU];rw [this]
   simp only [aJ,qW,aj,ag,fL,bO,aZ,br,az,au,ae,aa,dC,aT,ky,eh,oT,ff,dq,pF,cE,dn,fy,eB];refine⟨ns,2+(ks.length:Int),rfl,by lia,?_⟩;refine o8 (IsL.enc rows) M4 ?_;refine iL (IsL.enc r) ?_;simp only [Ds,af,cO,ez];have Mo:(if (1:Int) < (r.length:Int) then (r.length:Int) else 1)=((max 1 r.length:Nat):Int):=by split <;> lia
   rw [Mo];refine⟨by lia,?_⟩;have k1:0<=ik ns (2+(ks.length:Int)) % ((max 1 r.length:Nat):Int):=jr _ (by lia);have k2:ik ns (2+(ks.length:Int)) % ((max 1 r.length:Nat):Int) < ((max 1 r.length:Nat):Int):=gQ _ (by lia);obtain⟨j,hj⟩:=Int.eq_ofNat_of_zero_le k1;rw [hj] at k2 ⊢;have Tq:∀ (G1:Gp) (Q1:DK),kj (enc rows) (D.int (ks.length:Int)) G1 Q1=Q1 (enc r) G1:=fun G1 Q1=>by
    rw [show (enc rows:D)=.dm (rows.map enc) from rfl,jg,M4]
   simp only [Tq];refine⟨by rw [gp]; exact trivial,?_⟩;refine xh (IsL.enc r) (by lia) (by lia) ?_;simp only [gp];refine⟨vx (by rw [af]; lia),pE _ _ ⟨⟨_,_,rfl⟩,l.put hp,xs++[mM r j],?_,by simp [Lc],?_⟩⟩
   ·rw [aC,aH]; rfl
   ·rw [aP,dg];exact He ro hr ⟨j,by lia,rfl⟩
  ·rintro τ G' ⟨⟨a,b,rfl⟩,l,xs,gp,Lc,ro⟩;rw [cC,jU,List.take_length] at ro;exact hN _ _ ⟨⟨_,_,rfl⟩,l,xs,gp,ro⟩
 ·rintro _ G' ⟨⟨a,b,rfl⟩,l,xs,gp,ro⟩;simp only [cq,dq,au,ae,aa];exact gu (xs:=xs) l hp gp (q xs ro)
end DR
end K2
end
section
namespace K2
open PySem (Str)
open Enc (enc)
namespace DR
open K2.P
open K2.tK (Sz Ro Er)
open K2.yu (HR HR.fz HR.put)
open K2.K3 (bz bN)
theorem HY{G G1:Gp}{p a:Nat}{as:List Nat}{rs:Rows}(h:HR G G1 p as rs)(f:G1 a=none):HR G (cB (cB G1 a (.lst [])) p (.lst ((as++[a]).map D.ref))) p (as++[a]) (rs++[[]]):=by
 have np:a≠p:=fun z=>by rw [z,h.gp] at f; cases f
 have na:a∉as:=fun z=>by
  obtain⟨i,hi⟩:=kP z;have h1:i < rs.length:=by rw [<-h.len]; exact(List.getElem?_eq_some_iff.mp hi).1
  rw [h.at' i a rs[i] hi (aq h1)] at f; cases f
 refine⟨((h.le.trans (.new f)).put h.fp),h.fp,aC,?_,?_,?_,by simp [h.len],fun i b r h1 h2=>?_⟩
 ·intro z;rcases List.mem_append.mp z with z | z
  ·exact h.np z
  ·exact np (List.mem_singleton.mp z).symm
 ·rw [eS];exact⟨h.nd,by simp,fun x hx y hy e=>na (by rw [<-List.mem_singleton.mp hy,<-e]; exact hx)⟩
 ·intro x hx;rcases List.mem_append.mp hx with hx | hx
  ·exact h.fr x hx
  ·rw [List.mem_singleton.mp hx]; exact h.le.free f
 ·have hl:=h.len;by_cases hi:i < as.length
  ·rw [bF hi] at h1;rw [bF (by lia)] at h2;have hb:=cj h1;rw [cw (by rintro rfl; exact h.np hb),cw (by rintro rfl; exact na hb)];exact h.at' i b r h1 h2
  ·rw [bL (by lia)] at h1 h2;have i0:i - as.length=0:=by have:=(List.getElem?_eq_some_iff.mp h1).1; simp at this; lia
   rw [i0] at h1;rw [<-hl,i0] at h2;simp at h1 h2;subst h1 h2;rw [cw np,aC]; rfl
theorem Iy(as:List Nat)(a:Nat):oV ((as++[a]).map D.ref) (-1)=some (D.ref a):=by
 have e:B3 ((as++[a]).map D.ref).length (-1)=some as.length:=by
  unfold B3;rw [af,aP,dg,if_neg (by decide),if_pos (by lia)];congr 1;lia
 unfold oV;rw [e];show ((as++[a]).map D.ref)[as.length]?=_;simp
theorem Ey(rs:Rows)(x y:List T3){n:Nat}(h:n=rs.length):(rs++[x]).set n y=rs++[y]:=by
 subst h;rw [List.set_append_right _ _ (aG _),yh]; rfl
noncomputable def fl(c nm:Int)(t:T3):T3:=⟨t.a,t.b,if c % 9=7/\t.a=nm then -t.c else t.c⟩
theorem MR{c nm:Int}(h:c % 9≠7)(t:T3):fl c nm t=t:=by unfold fl; rw [if_neg (fun z=>h z.1)]
noncomputable def Tn(rows:Rows)(c:Int)(iB:Rows):Prop:=Sz iB/\(iB.flatten.map T3.s).Nodup/\(c % 3≠1->iB=rows)
theorem Lz{rows:Rows}{c nm:Int}(sz:Sz rows)(nd:(rows.flatten.map T3.s).Nodup)(h1:c % 9≠1)(h4:c % 9≠4):Tn rows c (rows.map (gc (fl c nm))):=by
 refine⟨⟨by rw [af]; exact sz.n,by rw [lA,af]; exact sz.f⟩,?_,fun h=>?_⟩
 ·rw [lA,fD]; exact nd
 ·have h7:c % 9≠7:=by lia
  have:gc (fl c nm)=id:=by
   funext r
   conv=>rhs; rw [<-List.map_id r]
   exact iU fun t _=>MR h7 t
  rw [this]; simp
theorem LG{α:Type} [DecidableEq α] [Enc α]{xs:List α}{k:Nat}{G:Gp}{Q:DK}{d:D}(hd:IsL G d (xs.map enc))(hk:k<=xs.length)(hl:xs.length<=1000)(q:Q (enc (xs.drop k++xs.take k)) G) :
  CL d (some (k:Int)) none G fun x G1=>CL d none (some (k:Int)) G1 fun y G2=>gR x y G2 fun z G3=>Dz G3 z Q:=by
 refine q0 hd ?_;rw [mf,qF xs k hk];intro p hp;refine q0 (hd.mono (.new hp)) ?_;rw [mf,Ba xs k hk];intro p2 xH;have AR:p≠p2:=fun z=>by rw [<-z,aC] at xH; cases xH
 have g1:cB (cB G p (.lst ((xs.drop k).map enc))) p2 (.lst ((xs.take k).map enc)) p=some (.lst ((xs.drop k).map enc)):=by rw [cw AR,aC]
 have gl:e8 G (cB (cB G p (.lst ((xs.drop k).map enc))) p2 (.lst ((xs.take k).map enc))):=(e8.new hp).trans (.new xH);refine tJ (IsL.ref g1) (IsL.ref aC) (zV (by simp; lia)) fun p3 B9=>?_;refine gu (xs:=xs.drop k++xs.take k) (gl.trans (.new B9)) (gl.free B9) ?_ q;rw [aC,aH]
theorem Bv{rows iB:Rows}{c:Int}(sz:Sz rows)(nd:(rows.flatten.map T3.s).Nodup)(hl:iB.length=rows.length)(p:iB.flatten.Perm rows.flatten)(h:c % 3=1):Tn rows c iB :=
 ⟨⟨by rw [hl]; exact sz.n,by rw [p.length_eq]; exact sz.f⟩,(p.map _).nodup_iff.mpr nd,fun z=>absurd h z⟩
noncomputable def oQ:gW :=
 (cm (fO (fX (aZ (IK false) (aZ jI (au 1) (dC (.int 9))) (dC (.int 1)))) (cq (dq (aZ gR (pF (au 0) (iH (dC (.int 1))) cE) (pF (au 0) cE (iH (dC (.int 1))))))) cW)
 (cm (fO (fX (aZ (IK false) (aZ jI (au 1) (dC (.int 9))) (dC (.int 4)))) (cq (dq (aZ gR (fe (az (FY (aZ kj (au 0) (dC (.int 0)))) aT)) (pF (au 0) (iH (dC (.int 1))) cE)))) cW)
 (cm (bO (br bN (az (au 0) aT)) (aJ 2))
 (cm (bO (fe aT) (aJ 3))
 (cm (eR (gF (au 0)) (aJ 4) (cm (eh (oT sR g8 (au 3) (az (fe aT) aT)))
 (eR (gF (au 4)) (aJ 5) (cm (bO (aZ kj (au 5) (dC (.int 2))) (aJ 6))
 (cm (fO (xY (fX (aZ (IK false) (aZ jI (au 1) (dC (.int 9))) (dC (.int 7)))) (fX (aZ (IK false) (aZ kj (au 5) (dC (.int 0))) (aZ kj (au 2) (aZ jI (aZ yO (au 1) (dC (.int 9))) (ky jj (az (au 2) aT))))))) (bO (Dm EL (au 6)) (aJ 6)) cW)
 (eh (oT sR g8 (aZ kj (au 3) (Dm EL (dC (.int 1)))) (az (lC (az (aZ kj (au 5) (dC (.int 0))) (az (aZ kj (au 5) (dC (.int 1))) (az (au 6) aT)))) aT))))))))
 (cq (dq (au 3))))))))
noncomputable def i6:mq:=fun ds G Q _=>∃ (rows:Rows) (c:Int),ds=[enc rows,.int c]/\(Sz rows/\rows≠[]/\(rows.flatten.map T3.s).Nodup)/\∀ iB:Rows,Tn rows c iB->Q (enc iB) G
theorem vZ(ds:List D)(G:Gp)(Q:DK)(h:i6 ds G Q fun _ _=>False):oQ (fun _ _=>False) (ends Q) (bg 7 ds) G:=by
 obtain⟨rows,c,rfl,⟨sz,lG,nd⟩,q⟩:=h;have z1:=sz.n;have z2:=sz.f;unfold oQ;refine fI (fun τ G'=>G=G'/\τ=[some (enc rows),some (.int c),none,none,none,none,none]/\c % 9≠1) ?_ ?_
 ·intro N hN;simp only [fO,bg,ay,a7,ai,av,aW,aO,aS,cq,dq,aZ,pF,au,aa,cE,ends,fy,dC,ez,cW,c4,ae,cO];refine⟨by decide,_,_,.int _,.int 1,?_⟩;rw [eq_int];simp only [aw,if_false,bD];by_cases hc:c % 9=1
  ·simp only [hc,decide_true,if_true];have hlen:1<=rows.length:=by cases rows with
    | nil=>exact absurd rfl lG
    | cons r t=>simp
   refine LG (k:=1) (IsL.enc rows) hlen (by lia) (q _ (Bv sz nd (by simp; lia) ?_ (by lia)));rw [eZ];exact List.perm_append_comm.trans (by rw [<-eZ,dc])
  ·simp only [hc,decide_false,aw,if_false];exact hN _ _ ⟨rfl,rfl,hc⟩
 ·rintro _ _ ⟨rfl,rfl,h1⟩;refine fI (fun τ G'=>G=G'/\τ=[some (enc rows),some (.int c),none,none,none,none,none]/\c % 9≠4) ?_ ?_
  ·intro N hN;simp only [fO,cq,dq,aZ,fe,az,aT,ai,av,pF,au,aa,cE,ends,lj,fy,dC,ez,cW,c4,ae,cO];refine⟨by decide,_,_,.int _,.int 4,?_⟩;rw [eq_int];simp only [aw,if_false,bD];by_cases hc:c % 9=4
   ·simp only [hc,decide_true,FY,aZ,au,aa,dC,if_true];cases rows with
    | nil=>exact absurd rfl lG
    | cons r rs =>
     have hr:r.length<=24:=sz.row bb;rw [show (enc (r :: rs):D)=.dm (enc r :: rs.map enc) from rfl];simp only [om,jg,Je];refine⟨r.map enc,rfl,fun p1 f1=>⟨by decide,fun p2 f2=>?_⟩⟩;have ec:cut ((enc r:D) :: rs.map enc) (some 1) none=rs.map enc:=by
      have:=qF ((enc r:D) :: rs.map enc) 1 (by simp);exact this
     rw [ec];intro p3 f3;have Vl:p2≠p3:=fun z=>by rw [<-z,aC] at f3; cases f3
     have g1:=(e8.new (o:=.lst [D.ref p1]) f2) p1 _ aC;have MP:=(e8.new (o:=.lst (rs.map (enc:List T3->D))) f3) p1 _ g1;have g2:=(e8.new (o:=.lst (rs.map (enc:List T3->D))) f3) p2 _ aC;refine tJ (IsL.ref g2) (IsL.ref aC) (zV (by simp at z1 ⊢; lia)) fun p4 f4=>?_;have l4:=((e8.new f1).trans (e8.new f2)).trans (e8.new (o:=.lst (rs.map (enc:List T3->D))) f3);refine ph (ss:=(r.reverse :: rs).map enc) (l4.trans (.new f4)) (l4.free f4) aC ?_ ?_
     ·refine .cons (.ref ((e8.new f4) _ _ MP) (by simp [f1]) ?_) (zN.same _);rw [<-List.map_reverse];exact zN.same _
     ·refine q (r.reverse :: rs) (Bv sz nd rfl ?_ (by lia));rw [bQ,bQ];exact(List.reverse_perm r).append (.refl _)
   ·simp only [hc,decide_false,aw,if_false];exact hN _ _ ⟨rfl,rfl,hc⟩
  ·rintro _ _ ⟨rfl,rfl,h4⟩;simp only [ends,du,bO,br,az,au,aa,aT,aJ,aj,ag,fe,av];refine⟨_,rows,rfl,K3.ye.enc rows,by lia,?_⟩;simp only [dq,bg,ends,c4,aZ,Dm,au,ky,oT,az,aT,cq,Cj,eh,bO,aJ,dC,cW,lC,fe,uX,kF,xY,Ck,me,nX,tD,nW,pF,fy,cE,bY,iF,br,et,eB,qe,lj,nJ,nI,jf,cO,jQ,lh,qc,sU,sW,sX,fM,jg,oj,om,qb,nZ,nY,oy,dn,ig,ie,g7,ff,sS,sQ,sP,true_and,and_true,tu,qv,ez,bD,gC,nQ,tm,nO,ay,a7,aO,aS,aa,ae,ag,aj,ai,av,aW,if_true,if_false,bK,c3,aw,du,nq];refine⟨by decide,fun p hp=>?_⟩;have QU:(bz rows).length<=24:=bw (K3.iZ rows) z2
   let nm:=((bz rows)[(c / 9 % ((bz rows).length:Int)).toNat]?).getD 0
   refine fI (fun τ G'=>∃ (a b e:Option D) (as:List Nat),τ=[some (enc rows),some (.int c),some (enc (bz rows)),some (.ref p),a,b,e]/\HR G G' p as (rows.map (gc (fl c nm)))) ?_ ?_
   ·intro N hN;simp only [eR,bY,au,aa];refine cS ?_;refine dP (xs:=rows) (fun pre τ G'=>∃ (a b e:Option D) (as:List Nat),τ=[some (enc rows),some (.int c),some (enc (bz rows)),some (.ref p),a,b,e]/\HR G G' p as (pre.map (gc (fl c nm)))) ⟨_,_,_,[],rfl,.new hp,hp,aC,by simp,bZ,(fun a h=>by cases h),rfl,fun i a r h=>by simp at h⟩ (fun _ _ _ _=>trivial) ?_ ?_
    ·rintro pre r post τ G' N2 e ⟨a,b,e',as,rfl,hr⟩ pE;have zY:pre.length < rows.length:=by rw [e]; simp
     have Ku:=hr.len;rw [af] at Ku;have PB:r.length<=24:=sz.row (by rw [e]; simp);simp only [aJ,aj,ag,fL,eh,oT,au,ae,aa,ff,hr.gp,az,fe,aT,av,dn,true_and];refine⟨by decide,fun a1 f1=>?_⟩;have PW:p≠a1:=fun z=>by rw [<-z,hr.gp] at f1; cases f1
     have g1:cB G' a1 (.lst []) p=some (.lst (as.map D.ref)):=by rw [cw PW]; exact hr.gp
     simp only [g1];refine⟨vx (by rw [af]; lia),?_⟩;have Mi:=HY hr f1;rw [aH,show [a1].map D.ref=[D.ref a1] from rfl] at Mi;generalize cB (cB G' a1 (.lst [])) p (.lst (as.map D.ref++[D.ref a1]))=G1 at *;simp only [eR];simp only [bY,au,ae,aa];refine cS ?_;refine dP (xs:=r) (fun pp τ G'=>∃ (b e:Option D),τ=[some (enc rows),some (.int c),some (enc (bz rows)),some (.ref p),some (enc r),b,e]/\HR G G' p (as++[a1]) (pre.map (gc (fl c nm))++[pp.map (fl c nm)])) ⟨_,_,rfl,Mi⟩ (fun _ _ _ _=>trivial) ?_ ?_
     ·rintro pp t pt τ G4 N3 e4 ⟨b,e2,rfl,Mh⟩ Ca;have SY:t∈rows.flatten:=List.mem_flatten.mpr ⟨r,by rw [e]; simp,by rw [e4]; simp⟩;have QS:pp.length<=24:=bw (show pp.length<=r.length by rw [e4]; simp) PB;have ga:G4 a1=some (.lst ((pp.map (fl c nm)).map enc)):=Mh.at' as.length a1 _ (by simp) (by rw [bL (by rw [af]; lia)]; simp [Ku]);simp only [aJ,nT,aj,ag,fL,bO,aZ,au,ae,aa,dC,fM,at2];have fin:∀ hd:Int,(⟨t.a,t.b,hd⟩:T3)=fl c nm t->eh (oT sR g8 (aZ kj (au 3) (Dm EL (dC (.int 1)))) (az (lC (az (aZ kj (au 5) (dC (.int 0))) (az (aZ kj (au 5) (dC (.int 1))) (az (au 6) aT)))) aT)) (fun _ _=>False) { nx:=N3,rt:=Q,bk:=N2,ct:=N3 } [some (enc rows),some (.int c),some (enc (bz rows)),some (.ref p),some (enc r),some (.tup [.int t.a,.int t.b,.int t.c]),some (.int hd)] G4:=by
       intro hd ef;simp only [eh,oT,aZ,au,ae,aa,Dm,dC,az,lC,aT,ai,av,fM,lh];refine o8 (IsL.ref Mh.gp) (Iy as a1) ?_;simp only [ff,ga,Je,NV,dn,true_and];refine⟨by decide,vx (by rw [af,af]; lia),Ca _ _ ⟨_,_,rfl,?_⟩⟩;have h5:=HR.put (r':=(pp++[t]).map (fl c nm)) Mh (j:=as.length) (a:=a1) (by simp);rw [Ey _ _ _ (by rw [af]; exact Ku)] at h5;have eM:((pp++[t]).map (fl c nm)).map (enc:T3->D)=(pp.map (fl c nm)).map enc++[D.tup [.int t.a,.int t.b,.int hd]]:=by
        rw [aH,gM,<-ef,aH]; rfl
       rw [eM] at h5;exact h5
      simp only [fO,xY,c4,aZ,au,dC,ky,az,aT,aa,ae,cO,jQ,Je];refine⟨by decide,_,_,.int _,.int 7,?_⟩;rw [eq_int];simp only [aw,if_false,bO,Dm,au,ae,aa,aJ,eh,oT,aZ,aj,ag,dC,az,lC,aT,ai,av,fM,lh,cW,bD];by_cases h7:c % 9=7
      ·simp only [h7,decide_true,Je,if_true];have AR:bz rows≠[]:=fun z=>by
        have:=K3.j7.mpr (List.mem_map.mpr ⟨t,SY,rfl⟩);rw [z] at this; cases this
       have HZ:0 < (bz rows).length:=List.length_pos_iff.mpr AR;refine⟨by decide,by decide,iL (IsL.enc (bz rows)) ?_⟩;rw [af];simp only [cO];refine⟨by lia,?_⟩;have i1:0<=c / 9 % ((bz rows).length:Int):=jr _ (by lia);have i2:c / 9 % ((bz rows).length:Int) < (bz rows).length:=gQ _ (by lia);have hi:(c / 9 % ((bz rows).length:Int)).toNat < (bz rows).length:=by lia
       have en:nm=(bz rows)[(c / 9 % ((bz rows).length:Int)).toNat]:=by show ((bz rows)[(c / 9 % ((bz rows).length:Int)).toNat]?).getD 0=_; rw [aq hi]; rfl
       refine o8 (IsL.enc (bz rows)) (x:=.int nm) ?_ ?_
       ·rw [kL _ i1 (by rw [af]; exact i2),cQ,en]; rfl
       refine⟨_,_,.int _,.int _,?_⟩;rw [eq_int];by_cases hn:t.a=nm
       ·rw [hn];simp only [if_false,decide_true,bD,if_true,aw];rw [<-hn];exact fin (-t.c) (by unfold fl; rw [if_pos ⟨h7,hn⟩])
       ·simp only [if_false,hn,decide_false,bD,aw];exact fin t.c (by unfold fl; rw [if_neg (fun z=>hn z.2)])
      ·simp only [h7,decide_false,aw,if_false];exact fin t.c (by unfold fl; rw [if_neg (fun z=>h7 z.1)])
     ·rintro τ G4 ⟨b,e2,rfl,Mh⟩;exact pE _ _ ⟨_,_,_,_,rfl,by rw [aH]; exact Mh⟩
    ·rintro τ G' ⟨a,b,e',as,rfl,hr⟩;exact hN _ _ ⟨_,_,_,_,rfl,hr⟩
   ·rintro _ G' ⟨a,b,e',as,rfl,hr⟩;simp only [cq,dq,au,ae,aa];exact hr.fz (q _ (Lz sz nd h1 h4))
end DR
end K2
end
section
namespace K2
open PySem (Str)
open Enc (enc)
namespace DR
open K2.P
open K2.tK (M Sz Ro Er Kn qR kc lE dJ ou)
open K2.yu (HR HR.put nN pR ck ik qw)
open K2.K3 (DF HR.rw HR.at_ ins uE xE bz iZ j7 qS rJ bN ia fit NR rG uQ sV)
noncomputable def jG:mq:=fun ds G Q _=>∃ (G0:Gp) (p0:Nat) (as:List Nat) (rows:Rows) (c:Int),ds=[.ref p0,.int c]/\HR G0 G p0 as rows/\(1<=rows.length/\rows.length<=3/\rows.flatten.length<=22) /\
 ∀ (iB:Rows) (m hd:Int) (G':Gp),iB.length=rows.length->iB.flatten.Perm (⟨m,1,hd⟩ :: ⟨m,0,hd⟩ :: rows.flatten)->m∉rows.flatten.map (·.a)->(hd=1\/hd=-1)->1<=m/\m<=999->HR G0 G' p0 as iB->Q .cR G'
noncomputable def pZ:gW :=
 (cm (bO (br ia (az (au 0) (az (au 1) aT))) (aJ 2))
 (cm (bO (aZ JG (aZ xk (dC (.int 2)) (aZ jI (au 1) (dC (.int 2)))) (dC (.int 1))) (aJ 3))
 (cm (bO (aZ kj (au 0) (aZ jI (aZ yO (au 1) (dC (.int 2))) (ky jj (az (au 0) aT)))) (aJ 4))
 (cm (eh (oT sR qk (au 4) (az (aZ jI (aZ jI (aZ xk (au 1) (dC (.int 69621))) (dC (.int 999983))) (aZ gR (ky jj (az (au 4) aT)) (dC (.int 1)))) (az (lC (az (au 2) (az (dC (.int 0)) (az (au 3) aT)))) aT))))
 (cm (bO (aZ kj (au 0) (aZ jI (aZ yO (au 1) (dC (.int 6))) (ky jj (az (au 0) aT)))) (aJ 5))
 (eh (oT sR qk (au 5) (az (aZ jI (aZ jI (aZ xk (au 1) (dC (.int 40692))) (dC (.int 999979))) (aZ gR (ky jj (az (au 5) aT)) (dC (.int 1)))) (az (lC (az (au 2) (az (dC (.int 1)) (az (au 3) aT)))) aT)))))))))
theorem yb(ds:List D)(G:Gp)(Q:DK)(h:jG ds G Q fun _ _=>False):pZ (fun _ _=>False) (ends Q) (bg 6 ds) G:=by
 obtain⟨G0,p0,as,rows,c,rfl,hr,⟨n1,n3,hf⟩,q⟩:=h;unfold pZ;simp only [ends,bg,ay,a7,ai,av,aW,aO,aS,du,bO,br,az,au,aa,ae,aT,aJ,aj,ag,aZ,dC,ky,nq,eh,oT,lC,jf,cO,jQ,nI];refine⟨_,rows,c,rfl,HR.rw hr,by lia,fun m hm m1 m2=>?_⟩;simp only [dq,bg,ends,c4,aZ,Dm,au,ky,oT,az,aT,cq,Cj,eh,bO,aJ,dC,cW,lC,fe,uX,kF,xY,Ck,me,nX,tD,nW,pF,fy,cE,bY,iF,br,et,eB,qe,lj,nJ,nI,jf,cO,jQ,lh,qc,sU,sW,sX,fM,jg,oj,om,qb,nZ,nY,oy,dn,ig,ie,g7,ff,sS,sQ,sP,true_and,and_true,tu,qv,ez,bD,gC,nQ,tm,nO,ay,a7,aO,aS,aa,ae,ag,aj,ai,av,aW,if_true,if_false,bK,c3,aw,du,nq];refine⟨by decide,.inl ⟨by decide,by decide⟩,by decide,by decide,?_⟩;have hh:2 * (c % 2) - 1=1\/2 * (c % 2) - 1=-1:=by lia
 generalize 2 * (c % 2) - 1=hd at *;refine iL (IsL.ref hr.gp) ?_;rw [af,hr.len];simp only [cO];refine⟨by lia,?_⟩;have i1:0<=c / 2 % (rows.length:Int):=jr _ (by lia);have i2:c / 2 % (rows.length:Int) < rows.length:=gQ _ (by lia);generalize c / 2 % (rows.length:Int)=i at *;obtain⟨a,r,ea,er,ga,xa⟩:=HR.at_ hr i1 i2;refine o8 (IsL.ref hr.gp) xa ?_;have rl:r.length<=22:=bw (nN (cj er)) hf;simp only [ff,ga,true_and];refine⟨.inr ⟨by decide,by decide⟩,by decide,?_⟩;refine iL (IsL.ref ga) ?_;rw [af];simp only [eB,cO,ie];refine⟨by lia,by decide,?_⟩;have k1:0<=c * 69621 % 999983 % ((r.length:Int)+1):=jr _ (by lia);have k2:c * 69621 % 999983 % ((r.length:Int)+1) < (r.length:Int)+1:=gQ _ (by lia);generalize c * 69621 % 999983 % ((r.length:Int)+1)=k at *;simp only [ga];refine⟨k1,by rw [af]; lia,vx (by rw [af]; lia),?_⟩;rw [show (D.tup [.int m,.int 0,.int hd])=enc (⟨m,0,hd⟩:T3) from rfl,xE];have h2:=hr.put (r':=ins r k.toNat ⟨m,0,hd⟩) ea;have p2:=pR (uE r k.toNat ⟨m,0,hd⟩) rows _ er;generalize cB G a (.lst ((ins r k.toNat ⟨m,0,hd⟩).map enc))=G2 at *;generalize Kd:rows.set i.toNat (ins r k.toNat ⟨m,0,hd⟩)=rS at *;have e2:rS.length=rows.length:=by rw [<-Kd,jm]
 refine⟨by decide,by decide,?_⟩;refine iL (IsL.ref h2.gp) ?_;rw [af,h2.len];simp only [cO];refine⟨by lia,?_⟩;have j1:0<=c / 6 % (rS.length:Int):=jr _ (by lia);have j2:c / 6 % (rS.length:Int) < rS.length:=gQ _ (by lia);generalize c / 6 % (rS.length:Int)=j at *;obtain⟨b,r',eb,Rh,gb,xb⟩:=HR.at_ h2 j1 j2;refine o8 (IsL.ref h2.gp) xb ?_;have Vk:r'.length<=23:=by
  have:=nN (cj Rh);have h3:=p2.length_eq;rw [ai] at h3; lia
 simp only [ff,gb,true_and];refine⟨.inr ⟨by decide,by decide⟩,by decide,?_⟩;refine iL (IsL.ref gb) ?_;rw [af];simp only [eB,cO,ie];refine⟨by lia,by decide,?_⟩;have SJ:0<=c * 40692 % 999979 % ((r'.length:Int)+1):=jr _ (by lia);have Vo:c * 40692 % 999979 % ((r'.length:Int)+1) < (r'.length:Int)+1:=gQ _ (by lia);generalize c * 40692 % 999979 % ((r'.length:Int)+1)=k' at *;simp only [gb];refine⟨SJ,by rw [af]; lia,vx (by rw [af]; lia),?_⟩;rw [show (D.tup [.int m,.int 1,.int hd])=enc (⟨m,1,hd⟩:T3) from rfl,xE];refine q _ m hd _ ?_ ?_ hm hh ⟨m1,m2⟩ (h2.put (r':=ins r' k'.toNat ⟨m,1,hd⟩) eb)
 ·rw [jm]; exact e2
 ·exact(pR (uE r' k'.toNat ⟨m,1,hd⟩) rS _ Rh).trans (.cons _ p2)
theorem CW(rows:Rows):(bz rows).Nodup:=(k9 _).nodup_iff.mpr (rJ _ _ bZ)
theorem GS{xs vs:List Int}{n v:Int}(h:n∉xs)(hl:vs.length=xs.length):x8 (xs.zip vs) n v=(xs++[n]).zip (vs++[v]):=by
 unfold x8;rw [if_neg,List.zip_append hl.symm]; rfl;intro z;obtain⟨p,hp,e⟩:=List.any_eq_true.mp z;have e:p.1=n:=by simpa using e
 exact h (by rw [<-e]; exact(qO hp).1)
theorem Jk{xs vs:List Int}(hl:vs.length=xs.length)(hv:vs.Nodup):Ij (fun a=>(eA (xs.zip vs) a).getD 0) xs/\∀ a∈xs,(eA (xs.zip vs) a).isSome=true:=by
 have Ew:∀ a∈xs,(eA (xs.zip vs) a).isSome=true:=fun a ha=>by
  rw [kc];obtain⟨i,hi,e⟩:=c9 ha;refine List.any_eq_true.mpr ⟨(xs[i],vs[i]'(by lia)),?_,by simp [e]⟩;rw [<-List.getElem_zip (h:=by rw [zT]; lia)];exact cP _
 refine⟨fun a ha b hb e=>?_,Ew⟩;obtain⟨v,QN⟩:=Option.isSome_iff_exists.mp (Ew a ha);obtain⟨w,QM⟩:=Option.isSome_iff_exists.mp (Ew b hb);dsimp only at e;rw [QN,QM] at e;have e:v=w:=e;subst e;obtain⟨i,hi,e1⟩:=c9 (lE QN);obtain⟨j,hj,e2⟩:=c9 (lE QM);rw [zT] at hi hj;rw [List.getElem_zip] at e1 e2;have f1:vs[i]'(by lia)=v:=congrArg Prod.snd e1;have f2:vs[j]'(by lia)=v:=congrArg Prod.snd e2;have zg:i=j:=by
  have pw:=List.pairwise_iff_getElem.mp hv;rcases Nat.lt_trichotomy i j with q | q | q
  ·exact absurd (f1.trans f2.symm) (pw i j (by lia) (by lia) q)
  ·exact q
  ·exact absurd (f2.trans f1.symm) (pw j i (by lia) (by lia) q)
 subst zg;exact(congrArg Prod.fst e1).symm.trans (congrArg Prod.fst e2)
noncomputable def j0:gW :=
 (cm (bO uX (aJ 2))
 (cm (bO (fe aT) (aJ 3))
 (cm (eR (gF (br bN (az (au 0) aT))) (aJ 4) (cm (bO (aZ gR (dC (.int 1)) (aZ jI (aZ jI (aZ xk (aZ gR (br ck (az (au 1) (az (dC (.int 1)) aT))) (aZ xk (aZ xk (dC (.int 31)) (au 4)) (au 4))) (dC (.int 40692))) (dC (.int 999979))) (dC (.int 999)))) (aJ 5))
 (cm (A8 (fX (aZ (yo false) (au 5) (au 3))) (bO (aZ gR (aZ jI (au 5) (dC (.int 999))) (dC (.int 1))) (aJ 5)))
 (cm (eh (oT sR g8 (au 3) (az (au 5) aT)))
 (bO (au 5) (AV (au 2) (au 4)))))))
 (cq (dq (br dJ (az (dq (au 0)) (az (dq (au 2)) aT))))))))
noncomputable def Nb(rows:Rows):Prop:=∀ n∈rows.flatten.map (·.a),1<=n/\n<=999
noncomputable def fH:mq:=fun ds G Q _=>∃ (rows:Rows) (ns:List Int),ds=[enc rows,.dm (ns.map D.int)]/\(Sz rows/\Nb rows)/\∀ g:Int->Int,Ij g (rows.flatten.map (·.a))->Q (enc (rows.map (gc (rg g)))) G
theorem pB(ds:List D)(G:Gp)(Q:DK)(h:fH ds G Q fun _ _=>False):j0 (fun _ _=>False) (ends Q) (bg 6 ds) G:=by
 obtain⟨rows,ns,rfl,⟨sz,nb⟩,q⟩:=h;have z2:=sz.f;have QU:(bz rows).length<=24:=bw (iZ rows) z2;unfold j0;simp only [ends,bg,ay,a7,ai,av,aW,aO,aS,du,bO,uX,aJ,aj,ag,fe,aT];refine fun pd hd=>⟨by decide,fun pt ht=>?_⟩;have O8:pd≠pt:=fun z=>by rw [<-z,aC] at ht; cases ht
 have S0:G pt=none:=(e8.new hd).free ht;refine fI (fun τ G'=>∃ (a b:Option D) (vs:List Int),τ=[some (enc rows),some (.dm (ns.map D.int)),some (.ref pd),some (.ref pt),a,b]/\e8 G G'/\vs.length=(bz rows).length/\vs.Nodup/\G' pd=some (.iV (cJ ((bz rows).zip vs)))) ?_ ?_
 ·intro N hN;simp only [eR,bY,br,az,au,aa,aT];refine⟨_,rows,rfl,K3.ye.enc rows,by lia,cS ?_⟩;refine dP (xs:=bz rows) (fun pre τ G'=>∃ (a b:Option D) (vs:List Int),τ=[some (enc rows),some (.dm (ns.map D.int)),some (.ref pd),some (.ref pt),a,b]/\e8 G G'/\vs.length=pre.length/\vs.Nodup/\G' pd=some (.iV (cJ (pre.zip vs)))/\G' pt=some (.lst (vs.map enc))) ⟨_,_,[],rfl,(e8.new hd).trans (.new ht),rfl,bZ,by rw [cw O8,aC]; rfl,aC⟩ (fun _ _ _ _=>trivial) ?_ ?_
  ·rintro pre n post τ G' N2 e ⟨a,b,vs,rfl,l,Kb,Ma,gd,gt⟩ pE;have zY:pre.length < (bz rows).length:=by rw [e]; simp
   have S9:n∈bz rows:=by rw [e]; simp
   have hb:=nb n (j7.mp S9);have S8:n∉pre:=fun z=>by
    have:=CW rows;rw [e,eS] at this;exact this.2.2 n z n bb rfl
   simp only [aJ,Io,aj,ag,fL,bO,aZ,dC,br,az,au,ae,aa,aT,jf];refine⟨ns,1,rfl,by decide,?_⟩;simp only [eB,jf,cO];refine⟨.inl ⟨by decide,by decide⟩,.inr ⟨by lia,by lia⟩,.inr ⟨by decide,by decide⟩,by decide,by decide,?_⟩;have b1:1<=1+(ik ns 1+31 * n * n) * 40692 % 999979 % 999:=by lia
   have b2:1+(ik ns 1+31 * n * n) * 40692 % 999979 % 999<=999:=by lia
   generalize 1+(ik ns 1+31 * n * n) * 40692 % 999979 % 999=f0 at *;obtain⟨k,hk,j8⟩:=uQ (ns:=vs) b1 b2 (by lia);have main:∀ (K:jB),(∀ m:Int,m∉vs->K.nx [some (enc rows),some (.dm (ns.map D.int)),some (.ref pd),some (.ref pt),some (.int n),some (.int m)] G')->∀ (j:Nat),j<=k ->
     tR (fX (aZ (yo false) (au 5) (au 3))) (bO (aZ gR (aZ jI (au 5) (dC (.int 999))) (dC (.int 1))) (aJ 5)) (j+1) (fun _ _=>False) K [some (enc rows),some (.dm (ns.map D.int)),some (.ref pd),some (.ref pt),some (.int n),some (.int (fit f0 (k - j)))] G':=by
    intro K hK j;induction j with
    | zero =>
     intro _;rw [tR];simp only [bO,aZ,au,ae,aa,dC,aJ,aj,ag,cO,eB,c4];refine sV (x:=fit f0 (k - 0)) (by decide) gt ?_;simp only [aw,Nat.sub_zero,j8,decide_false,c3,if_false,bD];exact hK _ j8
    | succ j ih =>
     intro hj;rw [tR];simp only [bO,aZ,au,ae,aa,dC,aJ,aj,ag,cO,eB,c4];refine sV (x:=fit f0 (k - (j+1))) (by decide) gt ?_;by_cases hm:fit f0 (k - (j+1))∈vs
     ·simp only [aw,hm,decide_true,bK,if_false,bD,if_true];refine⟨by decide,?_⟩;have ee:fit f0 (k - (j+1)) % 999+1=fit f0 (k - j):=by
       rw [show k - j=(k - (j+1))+1 by lia]; rfl
      rw [ee];exact ih (by lia)
     ·simp only [aw,hm,decide_false,c3,if_false,bD];exact hK _ hm
   refine⟨k+1,?_⟩;have key:=fun K hK=>main K hK k (aG _);simp only [yh] at key;refine key _ fun m hm=>?_;simp only [fL,eh,oT,au,ae,aa,ff,gt,az,aT,bO,AV,dn,true_and];have TX:cB G' pt (.lst (vs.map enc++[D.int m])) pd=some (.iV (cJ (pre.zip vs))):=by rw [cw O8]; exact gd
   refine⟨vx (by rw [af]; lia),P.wa (k:=n) (v:=m) TX (by rw [zT]; lia) ?_⟩;refine pE _ _ ⟨_,_,vs++[m],rfl,(l.put S0).put hd,by simp [Kb],?_,?_,?_⟩
   ·rw [eS];exact⟨Ma,by simp,fun x hx y hy ee=>hm (by rw [<-List.mem_singleton.mp hy,<-ee]; exact hx)⟩
   ·rw [aC,GS S8 Kb]
   ·rw [cw O8.symm,aC,aH]; rfl
  ·rintro τ G' ⟨a,b,vs,rfl,l,Kb,Ma,gd,gt⟩;exact hN _ _ ⟨_,_,vs,rfl,l,Kb,Ma,gd⟩
 ·rintro _ G' ⟨a,b,vs,rfl,l,Kb,Ma,gd⟩;simp only [cq,dq,br,az,au,aa,ae,aT];refine iG ?_;refine AW l hd gd ?_;obtain⟨ij,hs⟩:=Jk Kb Ma;have Mt:∀ t∈rows.flatten,t.a∈bz rows:=fun t ht=>j7.mpr (List.mem_map.mpr ⟨t,ht,rfl⟩);refine⟨rows,_,rfl,ou sz _ (fun r hr t ht=>hs _ (Mt t (List.mem_flatten.mpr ⟨r,hr,ht⟩))),iG ?_⟩;rw [EG];exact q _ fun x hx y hy e=>by
   obtain⟨t,ht,rfl⟩:=List.mem_map.mp hx;obtain⟨u,hu,rfl⟩:=List.mem_map.mp hy;exact ij _ (Mt t ht) _ (Mt u hu) e
end DR
end K2
end
section
namespace K2
open PySem (Str)
open Enc (enc)
namespace DR
open K2.P
open K2.tK (M met Sz Ro Er sm bc n4 mI Lm B6 B8 FU cb)
open K2.yu (HR HR.fz ck ik qw)
open K2.K3 (DF bz iZ bN)
theorem Im{α:Type} [DecidableEq α] [Enc α]{neg:Bool}{xs ys:List α}{a:Nat}{G:Gp}{Q:DK}(hd:Enc.dep α<=6)(h:G a=some (.lst (ys.map enc)))(q:Q (.bl (if neg then !decide (xs=ys) else decide (xs=ys))) G):lR neg (enc xs) (.ref a) G Q :=
 .inl ⟨_,_,Enc.sn (α:=List α) G 8 xs (by show Enc.dep α+1<=8; lia),.ref h (nk G 7 (by lia) ys),by
  have:=Enc.eqv xs ys;rw [show (D.dm (ys.map enc))=enc ys from rfl,this]; exact q⟩
theorem FL{neg:Bool}{G G1:Gp}{p:Nat}{as:List Nat}{xs ys:Rows}{Q:DK}(h:HR G G1 p as xs)(q:Q (.bl (if neg then !decide (xs=ys) else decide (xs=ys))) G1):lR neg (.ref p) (enc ys) G1 Q :=
 .inl ⟨_,_,IE h,Enc.sn G1 8 ys (by decide),by rw [Enc.eqv]; exact q⟩
theorem LM{g:Int->Int}:∀ {L:List T3},Ij g (L.map (·.a))->(L.map T3.s).Nodup->((L.map (rg g)).map T3.s).Nodup:=by
 intro L;induction L with
 | nil=>intro _ _; exact bZ
 | cons t L ih =>
  intro h hn;rw [ay,fS] at hn;rw [ay,ay,fS];refine⟨fun z=>hn.1 ?_,ih (fun a ha b hb=>h a (aE _ ha) b (aE _ hb)) hn.2⟩;obtain⟨y,hy,e⟩:=List.mem_map.mp z;obtain⟨x,hx,rfl⟩:=List.mem_map.mp hy;have e1:g x.a=g t.a:=congrArg T2.a e;have e2:x.b=t.b:=congrArg T2.b e;have e3:=h x.a (aE _ (List.mem_map.mpr ⟨x,hx,rfl⟩)) t.a bb e1;exact List.mem_map.mpr ⟨x,hx,by unfold T3.s; rw [e3,e2]⟩
theorem GX{rows:Rows}(sz:Sz rows):Sz (eQ rows):=by
 have ro:=mI (n4 rows);have K6:=sz.ro ro;refine⟨?_,?_⟩
 ·show (((bc rows).map _).map _).length<=3;rw [af,af]; exact K6.n
 ·rw [(wo rows).length_eq,af]; exact K6.f
theorem xZ{rows:Rows}{τ:gx}{G:Gp}{Q:DK}(sz:Sz rows)(q:Q (enc rows) G) :
  iI (aJ 0) none (dq (ky oU (az (au 0) aT))) (fun _=>True) (rows.map enc) (fun _ _=>False) (rL 1 [] τ) G [] fun xs G1=>jw G1 (.lst xs) fun x G2=>Dz G2 x Q:=by
 refine fP (xs:=rows) (fun pre acc τ G'=>G=G'/\(∃ a,τ=[a])/\acc=pre.map enc) ⟨rfl,⟨_,rfl⟩,rfl⟩ (fun _ _ _ _ _=>trivial) ?_ ?_
 ·rintro pre r post acc τ G' N e ⟨rfl,⟨a,rfl⟩,rfl⟩ hN;simp only [aJ,dq,ky,az,au,ag,aa,aT];refine Gf (IsL.enc r) fun p hp=>gu (xs:=r) (.new hp) hp aC (hN _ _ _ ⟨rfl,⟨_,rfl⟩,?_⟩);rw [aH]; rfl
 ·rintro acc τ G' ⟨rfl,⟨a,rfl⟩,rfl⟩ p hp;exact gu (xs:=rows) (.new hp) hp aC q
noncomputable def EI:gW :=
 (cm (bO (et 1 [] (uF (aZ gR (dC (.int 1)) (aZ jI (br ck (az (au 0) (az (dC (.int 0)) aT))) (dC (.int 3))))) (aJ 0) none (dq (fe aT))) (aJ 1))
 (cm (xX 1 (eR (gF (pF (au 0) (iH (dC (.int 7))) (iH (dC (.int 12))))) (aJ 2) (eh (br jG (az (au 1) (az (au 2) aT))))))
 (cm (bO (br jH (az (br i6 (az (br fH (az (au 1) (az (au 0) aT))) (az (br ck (az (au 0) (az (dC (.int 5)) aT))) aT))) (az (au 0) aT))) (aJ 3))
 (cm (xX 4 (bO (et 1 [] (gF (au 3)) (aJ 0) none (dq (ky oU (az (au 0) aT)))) (aJ 4)))
 (cm (bO (dq (br hX (az (dq (et 1 [] (gF (au 1)) (aJ 0) none (dq (ky oU (az (au 0) aT))))) aT))) (aJ 5))
 (cm (bO (dq (br hX (az (dq (au 4)) aT))) (aJ 6))
 (cm (fO (Ck (me (fX (br cb (az (au 5) aT)))) (Ck (me (fX (br cb (az (au 6) aT)))) (fX (aZ (lR true) (au 4) (au 3))))) (cq (dq (dC (.bl false)))) cW)
 (cm (fO (fX (aZ (lR true) (br bN (az (au 5) aT)) (uW (dC (.int 1)) (aZ gR (ky jj (az (br bN (az (au 1) aT)) aT)) (dC (.int 1)))))) (cq (dq (dC (.bl false)))) cW)
 (cm (xX 7 (bO (et 1 [] (gF (au 5)) (aJ 0) none (dq (ky oU (az (au 0) aT)))) (aJ 7)))
 (cm (bO (br hX (az (dq (au 5)) aT)) (aJ 8))
 (cm (fO (fX (aZ (lR true) (au 8) (au 7))) (cq (dq (dC (.bl false)))) cW)
 (cm (eR (gF (au 8)) (aJ 9) (eh (oT sR g8 (au 9) (az (lC (az (dC (.int 9)) (az (dC (.int 0)) (az (dC (.int 1)) aT)))) aT))))
 (cm (fO (Ck (fX (aZ (lR true) (au 5) (au 7))) (fX (aZ (lR true) (br hX (az (dq (au 5)) aT)) (au 7)))) (cq (dq (dC (.bl false)))) cW)
 (cm (fO (xY (fX (aZ (lR true) (aZ jI (br ck (az (au 0) (az (dC (.int 5)) aT))) (dC (.int 3))) (dC (.int 1)))) (fX (aZ (lR true) (au 5) (au 6)))) (cq (dq (dC (.bl false)))) cW)
 (cq (dq (aZ (lR false) (aZ (lR false) (au 5) (au 6)) (aZ (lR false) (br eN (az (au 1) aT)) (br eN (az (au 3) aT))))))))))))))))))))
theorem K0(ds:List D)(G:Gp)(Q:DK)(h:v9 ds G Q fun _ _=>False):EI (fun _ _=>False) (ends Q) (bg 10 ds) G:=by
 obtain⟨ns,rfl,C6,hG,q⟩:=h;unfold EI;simp only [ends,bg,ay,a7,ai,av,aW,aO,aS,du,bO,et,aJ,aj,ag,iF,aZ,dC,br,az,au,aa,aT];refine⟨ns,0,rfl,by decide,?_⟩;simp only [cO,eB,gC];have k1:1<=1+ik ns 0 % 3:=by lia
 have k3:1+ik ns 0 % 3<=3:=by lia
 refine⟨by decide,?_⟩;generalize 1+ik ns 0 % 3=k at *;refine⟨by lia,by lia,zV (by unfold e7; rw [af,cC]; lia),?_⟩;unfold e7;refine fP (xs:=bP k.toNat) (fun pre acc τ G'=>(∃ a,τ=[a])/\∃ as:List Nat,acc=as.map D.ref/\as.length=pre.length/\as.Nodup/\(∀ a∈as,G a=none/\G' a=some (.lst []))/\e8 G G') ⟨⟨_,rfl⟩,[],rfl,rfl,bZ,(fun a h=>by cases h),.refl G⟩ (fun _ _ _ _ _=>trivial) ?_ ?_
 ·rintro pre x post acc τ G' N e ⟨⟨a,rfl⟩,as,rfl,hl,hn,ha,le⟩ hN;simp only [aJ,dq,fe,aT,av,ag];refine⟨by decide,fun p hp=>iG ?_⟩;refine hN _ _ _ ⟨⟨_,rfl⟩,as++[p],by simp,by simp [hl],?_,?_,le.trans (.new hp)⟩
  ·rw [eS];refine⟨hn,by simp,fun a h b hb e=>?_⟩;rw [gL] at hb;subst hb e;rw [(ha a h).2] at hp; cases hp
  ·intro a h0;rcases List.mem_append.mp h0 with h | h
   ·refine⟨(ha a h).1,?_⟩;rw [cw (fun z=>by rw [<-z,(ha a h).2] at hp; cases hp)];exact(ha a h).2
   ·rw [gL] at h;subst h;exact⟨le.free hp,aC⟩
 rintro acc τ G1 ⟨⟨a,rfl⟩,as,rfl,hl,hn,ha,le⟩ p0 DL;rw [cC] at hl;have QR:HR G (cB G1 p0 (.lst (as.map D.ref))) p0 as (aW as.length []):=by
  refine⟨le.trans (.new DL),le.free DL,aC,fun z=>?_,hn,fun a h=>(ha a h).1,by simp,fun i b r hb hr=>?_⟩
  ·rw [(ha p0 z).2] at DL; cases DL
  ·have AU:=cj hb;have:r=[]:=List.eq_of_mem_replicate (cj hr);subst this;rw [cw (by rintro rfl; rw [(ha b AU).2] at DL; cases DL)];exact(ha b AU).2
 generalize cB G1 p0 (.lst (as.map D.ref))=G2 at *;refine fI (fun τ G'=>G=G'/\∃ (a:Option D) (rows:Rows),τ=[some (.dm (ns.map D.int)),some (enc rows),a,none,none,none,none,none,none,none]/\Sz rows/\DF rows.flatten/\Nb rows/\rows≠[]) ?_ ?_
 ·intro N hN;simp only [xX,eR,bY,pF,au,aa,om,fy,dC,ez];intro p1 f1;have ec:cut (ns.map D.int) (some 7) (some 12)=(cut ns (some 7) (some 12)).map D.int:=mf _ _ _ _;have PR:(cut ns (some 7) (some 12)).length<=11:=by
   unfold cut g6;simp only;rw [fh];have h1:min (12:Int).toNat ns.length<=12:=Nat.min_le_left _ _;simp;lia
  rw [ec];generalize cut ns (some 7) (some 12)=cs at *;have Mi:=B6 (o:=.lst (cs.map D.int)) QR f1;have b1:(cB G p1 (.lst (cs.map D.int))) p1=some (.lst (cs.map D.int)):=aC;have lB:e8 G (cB G p1 (.lst (cs.map D.int))):=.new (QR.le.free f1);generalize cB G2 p1 (.lst (cs.map D.int))=G3 at *;generalize cB G p1 (.lst (cs.map D.int))=B at *;refine qw (IsL.ref b1) Mi.le fun ok dA=>?_;refine dP (xs:=cs) (fun pre τ G'=>(∃ a,τ=[some (.dm (ns.map D.int)),some (.ref p0),a,none,none,none,none,none,none,none])/\∃ rows:Rows,HR B G' p0 as rows/\DF rows.flatten/\Nb rows/\rows.flatten.length=2 * pre.length/\rows.length=as.length) ⟨⟨_,rfl⟩,_,Mi,FU _,by intro n hn; simp at hn,by simp,by simp⟩ (fun _ _ _ h=>by obtain⟨_,_,h,_⟩:=h; exact dA _ h.le) ?_ ?_
  ·rintro pre c post τ G' N2 e ⟨⟨a,rfl⟩,rows,hr,df,nb,fl,LL⟩ pE;have vD:pre.length < 11:=by have:=congrArg dW e; simp at this; lia
   simp only [aJ,eh,br,az,au,aj,ag,ae,aa,aT];refine⟨B,p0,as,rows,c,rfl,hr,⟨by lia,by lia,by lia⟩,fun iB m hd G4 h1 h2 h3 h4 h6 h5=>?_⟩;refine pE _ _ ⟨⟨_,rfl⟩,iB,h5,(df.add h3 h4).perm h2,fun n hn=>?_,?_,by lia⟩
   ·obtain⟨t,ht,rfl⟩:=List.mem_map.mp hn;rcases List.mem_cons.mp (h2.mem_iff.mp ht) with rfl | ht
    ·exact h6
    ·rcases List.mem_cons.mp ht with rfl | ht
     ·exact h6
     ·exact nb _ (List.mem_map.mpr ⟨t,ht,rfl⟩)
   ·have:=h2.length_eq;rw [ai,ai] at this;rw [aP,dg]; lia
  ·rintro τ G' ⟨⟨a,rfl⟩,rows,hr,df,nb,fl,LL⟩;refine(B8 lB hr).fz (hN _ _ ⟨rfl,a,rows,rfl,⟨by lia,by lia⟩,df,nb,fun z=>?_⟩);rw [z,av] at LL; lia
 rintro _ _ ⟨rfl,a9,rows,rfl,sz,df,nb,lG⟩;simp only [du,bO,br,az,au,ae,aa,aT,dC,aJ,aj,ag];refine⟨rows,ns,rfl,⟨sz,nb⟩,fun g ij=>?_⟩;refine⟨ns,5,rfl,by decide,?_⟩;have SA:((rows.map (gc (rg g))).flatten.map T3.s).Nodup:=by rw [lA]; exact LM ij df.nd
 have RO:Sz (rows.map (gc (rg g))):=⟨by rw [af]; exact sz.n,by rw [lA,af]; exact sz.f⟩;refine⟨_,_,rfl,⟨RO,by simpa using lG,SA⟩,fun rS tn=>?_⟩;obtain⟨LB,Sy,same⟩:=tn;refine⟨rS,ns,rfl,LB,fun others ro=>?_⟩;have Ni:=LB.ro ro;have Sw:(others.flatten.map T3.s).Nodup:=(ro.perm.map _).nodup_iff.mpr Sy;have hm:ik ns 5 % 3≠1->eQ rows=eQ others:=fun hc=>by
  rw [<-xx ro,same hc,BQ ij]
 generalize TB:ik ns 5=c5 at *;simp only [fL,xX,bO,et,aJ,aj,ag,ae,aa,dq,br,az,aT,au,bY];refine cS ⟨zV (by rw [af]; have:=Ni.n; lia),xZ Ni ?_⟩;refine cS ⟨zV (by rw [af]; have:=sz.n; lia),xZ sz ?_⟩;refine⟨rows,rfl,sz,fun p5 VB G5 S5=>S5.fz ?_⟩;refine iG ⟨others,rfl,Ni,fun p6 VA G6 S4=>S4.fz ?_⟩;have K5:=GX sz;have RN:=K5.f;simp only [fO,Ck,me,cq,dq,dC,cW,fL,c4,aZ,br,az,au,ae,aa,aT,if_true];refine⟨_,rfl,?_⟩;have tt:∀ G:Gp,CC (D.bl true) G=some true:=fun _=>rfl;simp only [tt,bK,aw,if_false];refine⟨_,rfl,?_⟩;simp only [tt,bK,aw,if_false];refine Lm (x:=others) (y:=others) (by decide) ?_;simp only [decide_true,bK,if_true,bD,aw,if_false];refine⟨_,eQ rows,rfl,K3.ye.enc _,by lia,?_⟩;simp only [uW,BU];simp only [dC,aZ,ky,az,br,au,ae,aa,aT];refine⟨_,rows,rfl,K3.ye.enc _,by have:=sz.f; lia,?_⟩;refine iL (IsL.enc (bz rows)) ?_;simp only [af,eB];have QU:=bw (iZ rows) sz.f;refine⟨⟨by decide,by lia,by lia⟩,fun p7 f7=>?_⟩;have er:e7 1 (((bz rows).length:Int)+1 - 1).toNat=(bz (eQ rows)).map (enc:Int->D):=by
  rw [AH,fD];unfold e7;rw [show (((bz rows).length:Int)+1 - 1).toNat=(bz rows).length by lia];refine iU fun i _=>?_;show D.int (1+(i:Int))=D.int ((i:Int)+1);rw [Int.add_comm]
 rw [er];refine Im (by decide) aC ?_;generalize cB G p7 (.lst ((bz (eQ rows)).map enc))=H1;simp only [decide_true,bK,if_true,xX,bO,et,aJ,aj,ag,ae,aa,fL,br,az,dq,au,aT,fO,cq,dC,cW,c4,aZ,bY,bD,aw,if_false];refine cS ⟨zV (by rw [af]; have:=K5.n; lia),xZ K5 ?_⟩;refine iG ⟨eQ rows,rfl,K5,fun p8 NW G8 IV=>?_⟩;rw [wt] at IV;refine FL IV ?_;simp only [decide_true,bK,if_true,bD,aw,if_false];simp only [eR];simp only [bY,au,ae,aa,HV,IV.gp];refine dP (xs:=NW) (f:=D.ref) (fun pre τ G'=>(∃ x,τ=[some (.dm (ns.map D.int)),some (enc rows),a9,some (enc others),some (enc others),some (enc (eQ rows)),some (enc (eQ others)),some (enc (eQ rows)),some (.ref p8),x])/\G' p8=some (.lst (NW.map D.ref))/\∀ (i a:Nat) (r:List T3),pre.length<=i->NW[i]?=some a->(eQ rows)[i]?=some r->G' a=some (.lst (r.map enc))) ⟨⟨_,rfl⟩,IV.gp,fun i a r _ h1 h2=>IV.at' i a r h1 h2⟩ (fun _ _ _ h=>h.2.1) ?_ ?_
 ·rintro pre b post τ G' N e ⟨⟨x,rfl⟩,gp,rZ⟩ hN;have hb:NW[pre.length]?=some b:=by rw [e]; simp
  have hi:pre.length < (eQ rows).length:=by rw [<-IV.len]; exact(List.getElem?_eq_some_iff.mp hb).1
  have gb:=rZ pre.length b _ (aG _) hb (aq hi);have PB:((eQ rows)[pre.length]).length<=24:=K5.row (cP hi);simp only [aJ,eh,oT,au,aj,ag,ae,aa,ff,gb,az,lC,dC,aT,ai,av,dn,true_and];refine⟨by decide,vx (by rw [af]; lia),hN _ _ ⟨⟨_,rfl⟩,?_,fun i a r h0 h1 h2=>?_⟩⟩
  ·rw [cw (by rintro rfl; exact IV.np (cj hb))]; exact gp
  ·rw [aP,dg] at h0;have lG:a≠b:=by
    rintro rfl;have h3:=List.getElem?_eq_some_iff.mp h1;have h4:=List.getElem?_eq_some_iff.mp hb;exact List.pairwise_iff_getElem.mp IV.nd _ _ h4.1 h3.1 (by lia) (h4.2.trans h3.2.symm)
   rw [cw lG];exact rZ i a r (by lia) h1 h2
 rintro τ G' ⟨⟨x,rfl⟩,gp,_⟩;simp only [fL,fO,Ck,cq,dq,dC,cW,xY,aZ,au,ae,aa,br,az,aT,c4,aw,if_false,if_true];refine Lm (x:=eQ rows) (y:=eQ rows) (by decide) ?_;simp only [decide_true,bK,if_true,bD,aw,if_false];refine iG ⟨eQ rows,rfl,K5,fun p9 Vz G9 QQ=>?_⟩;rw [wt] at QQ;refine FL QQ ?_;simp only [decide_true,bK,if_true,bD,aw,if_false];refine⟨ns,5,rfl,by decide,?_⟩;rw [TB];simp only [cO];refine⟨by decide,EN ?_⟩;simp only [if_true,bD];have fin:∀ G9:Gp,lR false (enc (eQ rows)) (enc (eQ others)) G9 fun x G1=>eN [enc rows] G1 (fun y G2=>eN [enc others] G2 (fun z G3=>lR false y z G3 fun w G4=>lR false x w G4 fun v G5=>Dz G5 v Q) fun _ _=>False) fun _ _=>False:=fun G9=>by
  refine Lm (x:=eQ rows) (y:=eQ others) (by decide) ?_;refine⟨rows,rfl,⟨sz,df.nd⟩,⟨others,rfl,⟨Ni,Sw⟩,?_⟩⟩;refine Lm (x:=eQ rows) (y:=eQ others) (by decide) ?_;refine .inl ⟨_,_,.bl _,.bl _,iG ?_⟩;have:∀ b:Bool,gy (.bl b) (.bl b)=true:=fun b=>by cases b <;> rfl
  simp only [aw,if_false,this];exact q _
 by_cases hc:c5 % 3=1
 ·simp only [hc,decide_true,bK,aw,if_false];exact fin _
 ·simp only [hc,decide_false,c3,if_true];refine Lm (x:=eQ rows) (y:=eQ others) (by decide) ?_;simp only [hm hc,decide_true,bK,if_true,bD,aw,if_false];rw [<-hm hc];have:=fin G9;rw [<-hm hc] at this;exact this
end DR
end K2
end
namespace Fin
open PySem PySem.Spec PyProof.Rows L2 K2
open K2.yu (ck sk nH eF qK lO)
open K2.K3 (bN qM lQ ia si nG)
open K2.DR
open K2.tK (fk n6 jZ gk n5 jY eT mJ ju fT oX kS eU mK jv cb ip fu je sg nF gB qL lP dJ oW kR fm n8 j3 iX vd o7)
open K2.P
noncomputable def top(i:Nat):Stmt:=PySem.Challenge.pw_knotwise_k71_settled_by_any_names.main.body.getD i (.Pass ⟨0,0,0,0⟩)
section
variable {P:bC} {w:World} {K:ah} {mg:Str->Option Value} {base:Heap}
theorem yG:bV ["_law_script","_law_k"] ["_law_script","_law_k"] (aR (top 16)):=qZ
theorem zq {f:Addr} {fd:aB} (F:mP K "_law_cell" "_law_cell" (top 16) f fd) (cA:mg "len" = none):fB P w K mg base fV 1 f fd ["_law_script","_law_k"] (da K ck) :=
 tx F yG sk fun _ _ _ _ _ _ hr=>have hu:=hr.units; have Mc:=hr.Ef; (aF (fv (dM (E2 Mc) (bu 1) (cD dG rfl cA h8 (ao (bu 0) aA)) (fJ _)) (aM (bJ (bo (dE hu (bu 0) (bu 1) (fun _ _=>rfl))))) cY)
 (aM (bJ (bo aQ))))
theorem pS:bV ["_law_rows","_law_used","_law_row","_law_passing"] ["_law_rows"] (aR (top 21)):=qZ
theorem xN {f:Addr} {fd:aB} (F:mP K "_law_names" "_law_names" (top 21) f fd) (rh:mg "sorted" = none):fB P w K mg base fV 1 f fd ["_law_rows"] (da K bN) :=
 tx F pS qM fun _ _ _ _ _ _ hr=>have nd:=pS.nd; have hu:=hr.units; (aF (mC (i:=1) nd rfl (dZ aA))
 (aF (dv bf rfl (cx (bu 0)) (mD (i:=2) nd rfl) (aM (dv bf rfl (cx (bu 2)) (mD (i:=3) nd rfl) (aM (fv (dM (rf hu) (dE hu (bu 3) aQ (fun _ _=>rfl)) (bu 1) (by with_unfolding_all rfl)) (aM (fw (iY bq cM cK fj gq (bu 1) (ao (dE hu (bu 3) aQ (fun _ _=>rfl)) aA)))) cY)))))
 (aM (bJ (bo (cD (x4 rfl hu) rfl rh Dt (ao (bu 1) aA)))))))
theorem rR:bV ["_law_rows","_law_cell_here","_law_name_here"] ["_law_rows","_law_cell_here"] (aR (top 22)):=qZ
theorem zo {f:Addr} {fd:aB} (F:mP K "_law_name" "_law_name" (top 22) f fd) {gv:Addr} {gw:aB} (bE:oY P w K mg base fV 1 gv gw "_law_names" ["_law_rows"] (da K bN)):fB P w K mg base fV 2 f fd ["_law_rows","_law_cell_here"] (da K ia) :=
 tx F rR si fun _ _ _ _ _ _ hr=>have nd:=rR.nd; have hu:=hr.units; (aF (mC (i:=2) nd rfl (bH dN aQ (bH ed (bH ed (bH lU (bu 1) aQ) aQ) aQ)))
 (aF (we bf (dM (E3 hu) (bu 2) (bp bE.ok (hr.mono (by decide)) rfl bE.mg bE.kp bE.bi (ao (bu 0) aA)) (by with_unfolding_all rfl)) (aM (mC (i:=2) nd rfl (bH dN (bH ed (bu 2) aQ) aQ))))
 (aM (bJ (bo (bu 2))))))
theorem pT:bV ["_law_rows","_law_cell_here","_law_name_here","_law_hand","_law_over","_law_under"] ["_law_rows","_law_cell_here"] (aR (top 23)):=qZ
theorem xO {f:Addr} {fd:aB} (F:mP K "_law_cross" "_law_cross" (top 23) f fd) (cA:mg "len" = none) {A2:Addr} {A7:aB} (mj:oY P w K mg base fV 2 A2 A7 "_law_name" ["_law_rows","_law_cell_here"] (da K ia)):fB P w K mg base fV 3 f fd ["_law_rows","_law_cell_here"] (da K jG) :=
 tx F pT yb fun _ _ _ _ _ _ hr=>have nd:=pT.nd; have hu:=hr.units; (aF (mC (i:=2) nd rfl (bp mj.ok (hr.mono (by decide)) rfl mj.mg mj.kp mj.bi (ao (bu 0) (ao (bu 1) aA))))
 (aF (mC (i:=3) nd rfl (bH Hz (bH lU aQ (bH ed (bu 1) aQ)) aQ))
 (aF (mC (i:=4) nd rfl (dE hu (bu 0) (bH ed (bH t7 (bu 1) aQ) (cD dG rfl cA h8 (ao (bu 0) aA))) (fun _ _=>rfl)))
 (aF (fw (iY bq zQ zO fj ub (bu 4) (ao (bH ed (bH ed (bH lU (bu 1) aQ) aQ) (bH dN (cD dG rfl cA h8 (ao (bu 4) aA)) aQ)) (ao (lS (ao (bu 2) (ao aQ (ao (bu 3) aA)))) aA))))
 (aF (mC (i:=5) nd rfl (dE hu (bu 0) (bH ed (bH t7 (bu 1) aQ) (cD dG rfl cA h8 (ao (bu 0) aA))) (fun _ _=>rfl)))
 (aM (fw (iY bq zQ zO fj ub (bu 5) (ao (bH ed (bH ed (bH lU (bu 1) aQ) aQ) (bH dN (cD dG rfl cA h8 (ao (bu 5) aA)) aQ)) (ao (lS (ao (bu 2) (ao aQ (ao (bu 3) aA)))) aA))))))))))
theorem pU:bV ["_law_rows","_law_script","_law_made","_law_k","_law_at"] ["_law_rows","_law_script"] (aR (top 29)):=qZ
theorem xP {f:Addr} {fd:aB} (F:mP K "_law_begun" "_law_begun" (top 29) f fd) (cA:mg "len" = none) (rn:mg "max" = none) (eC:mg "range" = none) {j9:Addr} {ka:aB} (bT:oY P w K mg base fV 1 j9 ka "_law_cell" ["_law_script","_law_k"] (da K ck)):fB P w K mg base fV 2 f fd ["_law_rows","_law_script"] (da K jH) :=
 tx F pU yc fun _ _ _ _ _ _ hr=>have nd:=pU.nd; have hu:=hr.units; (aF (mC (i:=2) nd rfl (dZ aA))
 (aF (dv bf rfl (j5 rfl eC (cD dG rfl cA h8 (ao (bu 0) aA))) (mD (i:=3) nd rfl) (aF (mC (i:=4) nd rfl (bH ed (bp bT.ok (hr.mono (by decide)) rfl bT.mg bT.kp bT.bi (ao (bu 1) (ao (bH dN aQ (bu 3)) aA))) (cD (wN rfl hu) rfl rn Gk (ao aQ (ao (cD dG rfl cA h8 (ao (dE hu (bu 0) (bu 3) (fun _ _=>rfl)) aA)) aA)))))
 (aM (fw (iY bq cM cK fj gq (bu 2) (ao (bo (bH dN (di (dE hu (bu 0) (bu 3) (fun _ _=>rfl)) (dU (bu 4)) eO) (di (dE hu (bu 0) (bu 3) (fun _ _=>rfl)) eO (dU (bu 4))))) aA))))))
 (aM (bJ (bo (bu 2))))))
theorem oO:bV ["_law_rows","_law_cell_here","_law_names_here","_law_made","_law_row","_law_passing","_law_hand"] ["_law_rows","_law_cell_here"] (aR (top 30)):=qZ
theorem vF {f:Addr} {fd:aB} (F:mP K "_law_turned" "_law_turned" (top 30) f fd) (cA:mg "len" = none) (gE:mg "list" = none) (nM:mg "reversed" = none) {gv:Addr} {gw:aB} (bE:oY P w K mg base fV 1 gv gw "_law_names" ["_law_rows"] (da K bN)):fB P w K mg base fV 2 f fd ["_law_rows","_law_cell_here"] (da K i6) :=
 tx F oO vZ fun _ _ _ _ _ _ hr=>have nd:=oO.nd; have hu:=hr.units; (aF (fv (dM (t8 hu) (bH ed (bu 1) aQ) aQ (fJ _)) (aM (bJ (bo (bH dN (di (bu 0) (dU aQ) eO) (di (bu 0) eO (dU aQ)))))) cY)
 (aF (fv (dM (t8 hu) (bH ed (bu 1) aQ) aQ (fJ _)) (aM (bJ (bo (bH dN (dZ (ao (EX rfl rfl gE rfl nM (dE hu (bu 0) aQ (fun _ _=>rfl))) aA)) (di (bu 0) (dU aQ) eO))))) cY)
 (aF (mC (i:=2) nd rfl (bp bE.ok (hr.mono (by decide)) rfl bE.mg bE.kp bE.bi (ao (bu 0) aA)))
 (aF (mC (i:=3) nd rfl (dZ aA))
 (aF (dv bf rfl (cx (bu 0)) (mD (i:=4) nd rfl) (aF (fw (iY bq cM cK fj gq (bu 3) (ao (dZ aA) aA)))
 (aM (dv bf rfl (cx (bu 4)) (mD (i:=5) nd rfl) (aF (mC (i:=6) nd rfl (dE hu (bu 5) aQ (fun _ _=>rfl)))
 (aF (fv (Cw.pt (BK (dM (t8 hu) (bH ed (bu 1) aQ) aQ (fJ _)) (yP (dM (t8 hu) (dE hu (bu 5) aQ (fun _ _=>rfl)) (dE hu (bu 2) (bH ed (bH t7 (bu 1) aQ) (cD dG rfl cA h8 (ao (bu 2) aA))) (fun _ _=>rfl)) (fJ _))))) (aM (mC (i:=6) nd rfl (EV Bt (bu 6)))) cY)
 (aM (fw (iY bq cM cK fj gq (dE hu (bu 3) (EV Bt aQ) (fun _ _=>rfl)) (ao (lS (ao (dE hu (bu 5) aQ (fun _ _=>rfl)) (ao (dE hu (bu 5) aQ (fun _ _=>rfl)) (ao (bu 6) aA)))) aA))))))))))
 (aM (bJ (bo (bu 3)))))))))
theorem oP:bV ["_law_rows","_law_names_here","_law_made","_law_row"] ["_law_rows","_law_names_here"] (aR (top 24)):=qZ
theorem vG {f:Addr} {fd:aB} (F:mP K "_law_called" "_law_called" (top 24) f fd):fB P w K mg base fV 1 f fd ["_law_rows","_law_names_here"] (da K dJ) :=
 tx F oP oW fun _ _ _ _ _ _ hr=>have nd:=oP.nd; have hu:=hr.units; (aF (mC (i:=2) nd rfl (dZ aA))
 (aF (dv bf rfl (cx (bu 0)) (mD (i:=3) nd rfl) (aM (fw (iY bq cM cK fj gq (bu 2) (ao (bo (gT ["_law_passing","_law_names_here"] (sc:=aR (top 24)) (XN:=["_law_rows","_law_names_here","_law_made","_law_row"]) (cx (bu 3)) (fun _ _ _ _=>(mD (i:=0) (show (["_law_passing","_law_names_here"]:List Str).Nodup by decide +kernel) rfl)) (fun _ _ _ _=>.none) (fun _ _ _ _=>(lS (ao (dE hu (bu 1) (dE hu (bu 0) aQ (fun _ _=>rfl)) (fun _ _=>rfl)) (ao (dE hu (bu 0) aQ (fun _ _=>rfl)) (ao (dE hu (bu 0) aQ (fun _ _=>rfl)) aA))))))) aA)))))
 (aM (bJ (bo (bu 2))))))
theorem jV:bV ["_law_rows","_law_script","_law_names_here","_law_taken","_law_name_here","_law_fresh"] ["_law_rows","_law_script"] (aR (top 28)):=qZ
theorem pj {f:Addr} {fd:aB} (F:mP K "_law_other_names" "_law_other_names" (top 28) f fd) {gv:Addr} {gw:aB} (bE:oY P w K mg base fV 1 gv gw "_law_names" ["_law_rows"] (da K bN)) {j9:Addr} {ka:aB} (bT:oY P w K mg base fV 1 j9 ka "_law_cell" ["_law_script","_law_k"] (da K ck)) {l5:Addr} {md:aB} (eG:oY P w K mg base fV 1 l5 md "_law_called" ["_law_rows","_law_names_here"] (da K dJ)):fB P w K mg base fV 2 f fd ["_law_rows","_law_script"] (da K fH) :=
 tx F jV pB fun _ _ _ _ _ _ hr=>have nd:=jV.nd; have hu:=hr.units; (aF (mC (i:=2) nd rfl xo)
 (aF (mC (i:=3) nd rfl (dZ aA))
 (aF (dv bf rfl (cx (bp bE.ok (hr.mono (by decide)) rfl bE.mg bE.kp bE.bi (ao (bu 0) aA))) (mD (i:=4) nd rfl) (aF (mC (i:=5) nd rfl (bH dN aQ (bH ed (bH ed (bH lU (bH dN (bp bT.ok (hr.mono (by decide)) rfl bT.mg bT.kp bT.bi (ao (bu 1) (ao aQ aA))) (bH lU (bH lU aQ (bu 4)) (bu 4))) aQ) aQ) aQ)))
 (aF (we bf (dM (E3 hu) (bu 5) (bu 3) (by with_unfolding_all rfl)) (aM (mC (i:=5) nd rfl (bH dN (bH ed (bu 5) aQ) aQ))))
 (aF (fw (iY bq cM cK fj gq (bu 3) (ao (bu 5) aA)))
 (aM (xm (bu 5) (xn hu (bu 2) (bu 4))))))))
 (aM (bJ (bo (bp eG.ok (hr.mono (by decide)) rfl eG.mg eG.kp eG.bi (ao (bo (bu 0)) (ao (bo (bu 2)) aA)))))))))
theorem nu:bV ["lists","picked","members","longer","ahead"] ["lists"] (aR (top 5)):=qZ
theorem uN {f:Addr} {fd:aB} (F:mP K "one_of_each" "one_of_each" (top 5) f fd):fB P w K mg base fV 1 f fd ["lists"] (da K fk) :=
 tx F nu n6 fun _ _ _ _ _ _ hr=>have nd:=nu.nd; (aF (mC (i:=1) nd rfl (bo (dZ (ao (dZ aA) aA))))
 (aF (dv bf rfl (cx (bu 0)) (mD (i:=2) nd rfl) (aF (mC (i:=3) nd rfl (dZ aA))
 (aF (dv bf rfl (cx (bu 1)) (mD (i:=4) nd rfl) (aM (fw (iY bq zR zP fj uc (bu 3) (ao (gT ["member","ahead"] (sc:=aR (top 5)) (XN:=["lists","picked","members","longer","ahead"]) (cx (bu 2)) (fun _ _ _ _=>(mD (i:=0) (show (["member","ahead"]:List Str).Nodup by decide +kernel) rfl)) (fun _ _ _ _=>.none) (fun _ _ _ _=>(bo (bH dN (bu 1) (dZ (ao (bu 0) aA)))))) aA)))))
 (aM (mC (i:=1) nd rfl (bo (bu 3)))))))
 (aM (bJ (bo (bu 1))))))
theorem vB:bV ["row"] ["row"] (aR (top 10)):=qZ
theorem vH {f:Addr} {fd:aB} (F:mP K "beginnings" "beginnings" (top 10) f fd) (cA:mg "len" = none) (eC:mg "range" = none):fB P w K mg base fV 1 f fd ["row"] (da K fT) :=
 tx F vB oX fun _ _ _ _ _ _ hr=>(aF (fv (kC (ic (bu 0))) (aM (bJ (bo (dZ (ao (dZ aA) aA))))) cY)
 (aM (bJ (bo (gT ["start","row"] (sc:=aR (top 10)) (XN:=["row"]) (j5 rfl eC (cD dG rfl cA h8 (ao (bu 0) aA))) (fun _ _ _ _=>(mD (i:=0) (show (["start","row"]:List Str).Nodup by decide +kernel) rfl)) (fun _ _ _ _=>.none) (fun _ _ _ _=>(bo (bH dN (di (bu 1) (dU (bu 0)) eO) (di (bu 1) eO (dU (bu 0)))))))))))
theorem nt:bV ["rows","passings","row"] ["rows"] (aR (top 1)):=qZ
theorem uM {f:Addr} {fd:aB} (F:mP K "passings_of" "passings_of" (top 1) f fd):fB P w K mg base fV 1 f fd ["rows"] (da K iA) :=
 tx F nt va fun _ _ _ _ _ _ hr=>have nd:=nt.nd; (aF (mC (i:=1) nd rfl (dZ aA))
 (aF (dv bf rfl (cx (bu 0)) (mD (i:=2) nd rfl) (aM (fw (iY bq zR zP fj uc (bu 1) (ao (bu 2) aA)))))
 (aM (bJ (bo (bu 1))))))
theorem mB:bV ["rows","numbers","passing"] ["rows"] (aR (top 11)):=qZ
theorem sF {f:Addr} {fd:aB} (F:mP K "names_as_met" "names_as_met" (top 11) f fd) (cA:mg "len" = none) {vK:Addr} {vR:aB} (i9:oY P w K mg base fV 1 vK vR "passings_of" ["rows"] (da K iA)):fB P w K mg base fV 2 f fd ["rows"] (da K eU) :=
 tx F mB mK fun _ _ _ _ _ _ hr=>have nd:=mB.nd; have hu:=hr.units; (aF (mC (i:=1) nd rfl xo)
 (aF (dv bf rfl (cx (bp i9.ok (hr.mono (by decide)) rfl i9.mg i9.kp i9.bi (ao (bu 0) aA))) (mD (i:=2) nd rfl) (aM (fv (dM (rf hu) (dE hu (bu 2) aQ (fun _ _=>rfl)) (bu 1) (by with_unfolding_all rfl)) (aM (xm (bH dN (cD dG rfl cA h8 (ao (bu 1) aA)) aQ) (xn hu (bu 1) (dE hu (bu 2) aQ (fun _ _=>rfl))))) cY)))
 (aM (bJ (bo (bu 1))))))
theorem wb:bV ["row","start"] ["row"] (aR (top 2)):=qZ
theorem De {f:Addr} {fd:aB} (F:mP K "seated" "seated" (top 2) f fd) (rm:mg "min" = none):fB P w K mg base fV 1 f fd ["row"] (da K oi) :=
 tx F wb Dx fun _ _ _ _ _ _ hr=>have nd:=wb.nd; have hu:=hr.units; (aF (fv (kC (ic (bu 0))) (aM (bJ (bo (dZ aA)))) cY)
 (aF (mC (i:=1) nd rfl (iY bq Af PySem.F.type_list_index fj (CT hu) (bu 0) (ao (cD (Dp rfl hu) rfl rm KN (ao (bu 0) aA)) aA)))
 (aM (bJ (bo (bH dN (di (bu 0) (dU (bu 1)) eO) (di (bu 0) eO (dU (bu 1)))))))))
theorem tV:bV ["rows"] ["rows"] (aR (top 3)):=qZ
theorem uK {f:Addr} {fd:aB} (F:mP K "seated_rows" "seated_rows" (top 3) f fd) {FJ:Addr} {FV:aB} (qG:oY P w K mg base fV 1 FJ FV "seated" ["row"] (da K oi)):fB P w K mg base fV 2 f fd ["rows"] (da K iz) :=
 tx F tV u7 fun _ _ _ _ _ _ hr=>(aM (bJ (bo (gT ["row"] (sc:=aR (top 3)) (XN:=["rows"]) (cx (bu 0)) (fun _ _ _ _=>(mD (i:=0) (show (["row"]:List Str).Nodup by decide +kernel) rfl)) (fun _ _ _ _=>.none) (fun _ _ _ _=>(bp qG.ok (hr.mono (by decide)) rfl qG.mg qG.kp qG.bi (ao (bu 0) aA)))))))
theorem tW:bV ["row","names"] ["row","names"] (aR (top 7)):=qZ
theorem uL {f:Addr} {fd:aB} (F:mP K "renamed_row" "renamed_row" (top 7) f fd):fB P w K mg base fV 1 f fd ["row","names"] (da K gk) :=
 tx F tW n5 fun _ _ _ _ _ _ hr=>have hu:=hr.units; (aM (bJ (bo (gT ["name","way","hand","names"] (sc:=aR (top 7)) (XN:=["row","names"]) (cx (bu 0)) (fun _ _ _ _=>(Hr rfl (q4 (mD (i:=0) (show (["name","way","hand","names"]:List Str).Nodup by decide +kernel) rfl) (q4 (mD (i:=1) (show (["name","way","hand","names"]:List Str).Nodup by decide +kernel) rfl) (q4 (mD (i:=2) (show (["name","way","hand","names"]:List Str).Nodup by decide +kernel) rfl) ES))) (rD (rD (rD FD))))) (fun _ _ _ _=>.none) (fun _ _ _ _=>(lS (ao (dE hu (bu 3) (bu 0) (fun _ _=>rfl)) (ao (bu 1) (ao (bu 2) aA)))))))))
theorem sv:bV ["drawing","names"] ["drawing","names"] (aR (top 8)):=qZ
theorem sE {f:Addr} {fd:aB} (F:mP K "renamed_rows" "renamed_rows" (top 8) f fd) {vJ:Addr} {vQ:aB} (i8:oY P w K mg base fV 1 vJ vQ "renamed_row" ["row","names"] (da K gk)):fB P w K mg base fV 2 f fd ["drawing","names"] (da K eT) :=
 tx F sv mJ fun _ _ _ _ _ _ hr=>(aM (bJ (bo (gT ["row","names"] (sc:=aR (top 8)) (XN:=["drawing","names"]) (cx (bu 0)) (fun _ _ _ _=>(mD (i:=0) (show (["row","names"]:List Str).Nodup by decide +kernel) rfl)) (fun _ _ _ _=>.none) (fun _ _ _ _=>(bp i8.ok (hr.mono (by decide)) rfl i8.mg i8.kp i8.bi (ao (bu 0) (ao (bu 1) aA))))))))
theorem lb:bV ["rows","names"] ["rows"] (aR (top 12)):=qZ
theorem rF {f:Addr} {fd:aB} (F:mP K "settling_from" "settling_from" (top 12) f fd) {uS:Addr} {uV:aB} (iK:oY P w K mg base fV 2 uS uV "names_as_met" ["rows"] (da K eU)) {vI:Addr} {vP:aB} (i7:oY P w K mg base fV 2 vI vP "seated_rows" ["rows"] (da K iz)) {uR:Addr} {uU:aB} (iJ:oY P w K mg base fV 2 uR uU "renamed_rows" ["drawing","names"] (da K eT)):fB P w K mg base fV 3 f fd ["rows"] (da K gz) :=
 tx F lb rO fun _ _ _ _ _ _ hr=>have nd:=lb.nd; (aF (mC (i:=1) nd rfl (bp iK.ok (hr.mono (by decide)) rfl iK.mg iK.kp iK.bi (ao (bu 0) aA)))
 (aM (bJ (bo (lS (ao (bp i7.ok (hr.mono (by decide)) rfl i7.mg i7.kp i7.bi (ao (bp iJ.ok (hr.mono (by decide)) rfl iJ.mg iJ.kp iJ.bi (ao (bu 0) (ao (bu 1) aA))) aA)) (ao (bu 1) aA)))))))
theorem rP:bV ["drawing","made"] ["drawing"] (aR (top 13)):=qZ
theorem zk {f:Addr} {fd:aB} {Pt:Addr} {ct:Addr} (hl:yd mg base ct Pt) (yq:fd.code=.ref ct) (F:mP K "settling" "settling" (top 13) f fd) (rm:mg "min" = none) {vL:Addr} {vS:aB} (ja:oY P w K mg base fV 1 vL vS "one_of_each" ["lists"] (da K fk)) {xR:Addr} {xW:aB} (jM:oY P w K mg base fV 1 xR xW "beginnings" ["row"] (da K fT)) {sG:Addr} {sH:aB} (hU:oY P w K mg base fV 3 sG sH "settling_from" ["rows"] (da K gz)):fB P w K mg base fV 4 f fd ["drawing"] (my (Tb Pt "settling.<locals>.<lambda>") K kB) :=
 P6 F rP zM fun _ _ _ _ _ _ hc hT hr=>by
  have e:=yq.symm.trans hc; subst e; have nd:=rP.nd; exact(aF (sZ (qf ["rows"] (sc:=aR (top 13)) (XN:=["drawing","made"]) (i:=1) nd rfl rfl (cx (bp ja.ok (hr.mono (by decide)) rfl ja.mg ja.kp ja.bi (ao (bo (gT ["row"] (sc:=aR (top 13)) (XN:=["drawing","made"]) (cx (bu 0)) (fun _ _ _ _=>(mD (i:=0) (show (["row"]:List Str).Nodup by decide +kernel) rfl)) (fun _ _ _ _=>.none) (fun _ _ _ _=>(bp jM.ok (hr.mono (by decide)) rfl jM.mg jM.kp jM.bi (ao (bu 0) aA))))) aA))) (fun _ _ _ _=>(mD (i:=0) (show (["rows"]:List Str).Nodup by decide +kernel) rfl)) (fun _ _ _ _=>.none) (fun _ _ _ _=>(bp hU.ok (hr.mono (by decide)) rfl hU.mg hU.kp hU.bi (ao (bu 0) aA)))))
 (aM (bJ (bo (EW hT (yd.lam hl) (hr.mono (by decide)) rfl rm (bu 1))))))
theorem Az:bV ["drawing"] ["drawing"] (aR (top 14)):=qZ
theorem AY {f:Addr} {fd:aB} {Pt:Addr} (F:mP K "settled" "settled" (top 14) f fd) {A0:Addr} {A5:aB} (mh:oY P w K mg base fV 4 A0 A5 "settling" ["drawing"] (my (Tb Pt "settling.<locals>.<lambda>") K kB)):fB P w K mg base fV 5 f fd ["drawing"] (my (Tb Pt "settling.<locals>.<lambda>") K hX) :=
 P6 F Az Bh fun _ _ _ _ _ _ _ hT hr=>have hu:=hr.units; (aM (bJ (bo (dE hu (lp hT mh.ok (hr.mono (by decide)) rfl mh.mg mh.kp mh.bi (ao (bu 0) aA)) aQ (fun _ _=>rfl)))))
theorem xc:bV ["_law_found"] ["_law_found"] (aR (top 17)):=qZ
theorem xK {f:Addr} {fd:aB} (F:mP K "_law_whole" "_law_whole" (top 17) f fd) (xr:mg "bool" = none) (AF:mg "int" = none) (dO:mg "isinstance" = none):fB P w K mg base fV 1 f fd ["_law_found"] (da K eF) :=
 tx F xc qK fun _ _ _ _ _ _ hr=>(aM (bJ (bo (Hv (qi "int" (by decide) rfl dO rfl AF KO (bu 0)) (Ht (Hu (qi "bool" (by decide) rfl dO rfl xr Iu (bu 0))))))))
theorem ib:bV ["_law_found","_law_row","_law_passing"] ["_law_found"] (aR (top 18)):=qZ
theorem lz {f:Addr} {fd:aB} (F:mP K "_law_rows_of_passings" "_law_rows_of_passings" (top 18) f fd) (AG:mg "all" = none) (dO:mg "isinstance" = none) (cA:mg "len" = none) (gE:mg "list" = none) (ua:mg "tuple" = none) {zr:Addr} {zB:aB} (kG:oY P w K mg base fV 1 zr zB "_law_whole" ["_law_found"] (da K eF)):fB P w K mg base fV 2 f fd ["_law_found"] (da K cb) :=
 tx F ib ip fun _ _ _ _ _ _ hr=>have nd:=ib.nd; have hu:=hr.units; (aF (fv (kC (ic (qi "list" (by decide) rfl dO rfl gE ml (bu 0)))) (aM (bJ (bo kT))) cY)
 (aF (dv bf rfl (cx (bu 0)) (mD (i:=1) nd rfl) (aF (fv (kC (ic (qi "list" (by decide) rfl dO rfl gE ml (bu 1)))) (aM (bJ (bo kT))) cY)
 (aM (dv bf rfl (cx (bu 1)) (mD (i:=2) nd rfl) (aF (fv (Cw.pt (t6 (kC (ic (qi "tuple" (by decide) rfl dO rfl ua Gj (bu 2)))) (sY (dM (E1 hu) (cD dG rfl cA h8 (ao (bu 2) aA)) aQ (fJ _))))) (aM (bJ (bo kT))) cY)
 (aM (fv (kC (ic (cD (Dq rfl) rfl AG KP (ao (gT ["_law_number"] (sc:=aR (top 18)) (XN:=["_law_found","_law_row","_law_passing"]) (cx (bu 2)) (fun _ _ _ _=>(mD (i:=0) (show (["_law_number"]:List Str).Nodup by decide +kernel) rfl)) (fun _ _ _ _=>.none) (fun _ _ _ _=>(bp kG.ok (hr.mono (by decide)) rfl kG.mg kG.kp kG.bi (ao (bu 0) aA)))) aA)))) (aM (bJ (bo kT))) cY)))))))
 (aM (bJ (bo kT)))))
theorem ny:bV ["_law_rows","_law_found","_law_row","_law_longer","_law_one","_law_at"] ["_law_rows"] (aR (top 25)):=qZ
theorem uP {f:Addr} {fd:aB} (F:mP K "_law_choices" "_law_choices" (top 25) f fd) (cA:mg "len" = none) (rn:mg "max" = none) (eC:mg "range" = none):fB P w K mg base fV 1 f fd ["_law_rows"] (da K fm) :=
 tx F ny n8 fun _ _ _ _ _ _ hr=>have nd:=ny.nd; have hu:=hr.units; (aF (mC (i:=1) nd rfl (bo (dZ (ao (dZ aA) aA))))
 (aF (dv bf rfl (cx (bu 0)) (mD (i:=2) nd rfl) (aF (mC (i:=3) nd rfl (dZ aA))
 (aF (dv bf rfl (cx (bu 1)) (mD (i:=4) nd rfl) (aM (dv bf rfl (j5 rfl eC (cD (wN rfl hu) rfl rn Gk (ao aQ (ao (cD dG rfl cA h8 (ao (bu 2) aA)) aA)))) (mD (i:=5) nd rfl) (aM (fw (iY bq cM cK fj gq (bu 3) (ao (bo (bH dN (bu 4) (dZ (ao (bH dN (di (bu 2) (dU (bu 5)) eO) (di (bu 2) eO (dU (bu 5)))) aA)))) aA)))))))
 (aM (mC (i:=1) nd rfl (bo (bu 3)))))))
 (aM (bJ (bo (bu 1))))))
theorem rQ:bV ["_law_row","_law_best","_law_k"] ["_law_row"] (aR (top 19)):=qZ
theorem zm {f:Addr} {fd:aB} (F:mP K "_law_seat" "_law_seat" (top 19) f fd) (cA:mg "len" = none) (eC:mg "range" = none):fB P w K mg base fV 1 f fd ["_law_row"] (da K je) :=
 tx F rQ sg fun _ _ _ _ _ _ hr=>have nd:=rQ.nd; have hu:=hr.units; have Mc:=hr.Ef; (aF (mC (i:=1) nd rfl aQ)
 (aF (dv bf rfl (j5 rfl eC (cD dG rfl cA h8 (ao (bu 0) aA))) (mD (i:=2) nd rfl) (aM (fv (dM (E2 Mc) (di (dE hu (bu 0) (bu 2) (fun _ _=>rfl)) eO (dU aQ)) (di (dE hu (bu 0) (bu 1) (fun _ _=>rfl)) eO (dU aQ)) (fJ _)) (aM (mC (i:=1) nd rfl (bu 2))) cY)))
 (aM (bJ (bo (bH dN (di (bu 0) (dU (bu 1)) eO) (di (bu 0) eO (dU (bu 1)))))))))
theorem xf:bV ["_law_rows"] ["_law_rows"] (aR (top 20)):=qZ
theorem xM {f:Addr} {fd:aB} (F:mP K "_law_seats" "_law_seats" (top 20) f fd) {A1:Addr} {A6:aB} (mi:oY P w K mg base fV 1 A1 A6 "_law_seat" ["_law_row"] (da K je)):fB P w K mg base fV 2 f fd ["_law_rows"] (da K gB) :=
 tx F xf qL fun _ _ _ _ _ _ hr=>(aM (bJ (bo (gT ["_law_row"] (sc:=aR (top 20)) (XN:=["_law_rows"]) (cx (bu 0)) (fun _ _ _ _=>(mD (i:=0) (show (["_law_row"]:List Str).Nodup by decide +kernel) rfl)) (fun _ _ _ _=>.none) (fun _ _ _ _=>(bp mi.ok (hr.mono (by decide)) rfl mi.mg mi.kp mi.bi (ao (bu 0) aA)))))))
theorem tX:bV ["_law_rows","_law_names_here","_law_row","_law_passing"] ["_law_rows"] (aR (top 26)):=qZ
theorem AZ {f:Addr} {fd:aB} (F:mP K "_law_met" "_law_met" (top 26) f fd) (cA:mg "len" = none):fB P w K mg base fV 1 f fd ["_law_rows"] (da K iX) :=
 tx F tX vd fun _ _ _ _ _ _ hr=>have nd:=tX.nd; have hu:=hr.units; (aF (mC (i:=1) nd rfl xo)
 (aF (dv bf rfl (cx (bu 0)) (mD (i:=2) nd rfl) (aM (dv bf rfl (cx (bu 2)) (mD (i:=3) nd rfl) (aM (fv (dM (rf hu) (dE hu (bu 3) aQ (fun _ _=>rfl)) (bu 1) (by with_unfolding_all rfl)) (aM (xm (bH dN (cD dG rfl cA h8 (ao (bu 1) aA)) aQ) (xn hu (bu 1) (dE hu (bu 3) aQ (fun _ _=>rfl))))) cY)))))
 (aM (bJ (bo (bu 1))))))
theorem nv:bV ["_law_rows","_law_best","_law_begun_here","_law_found"] ["_law_rows"] (aR (top 27)):=qZ
theorem uO {f:Addr} {fd:aB} (F:mP K "_law_settled" "_law_settled" (top 27) f fd) {vN:Addr} {vU:aB} (jb:oY P w K mg base fV 1 vN vU "_law_choices" ["_law_rows"] (da K fm)) {zt:Addr} {zC:aB} (kI:oY P w K mg base fV 2 zt zC "_law_seats" ["_law_rows"] (da K gB)) {l5:Addr} {md:aB} (eG:oY P w K mg base fV 1 l5 md "_law_called" ["_law_rows","_law_names_here"] (da K dJ)) {Dg:Addr} {Dl:aB} (ow:oY P w K mg base fV 1 Dg Dl "_law_met" ["_law_rows"] (da K iX)):fB P w K mg base fV 3 f fd ["_law_rows"] (da K eN) :=
 tx F nv vc fun _ _ _ _ _ _ hr=>have nd:=nv.nd; have hu:=hr.units; (aF (mC (i:=1) nd rfl BM)
 (aF (dv bf rfl (cx (bp jb.ok (hr.mono (by decide)) rfl jb.mg jb.kp jb.bi (ao (bu 0) aA))) (mD (i:=2) nd rfl) (aF (mC (i:=3) nd rfl (bp kI.ok (hr.mono (by decide)) rfl kI.mg kI.kp kI.bi (ao (bp eG.ok (hr.mono (by decide)) rfl eG.mg eG.kp eG.bi (ao (bu 2) (ao (bp ow.ok (hr.mono (by decide)) rfl ow.mg ow.kp ow.bi (ao (bu 2) aA)) aA))) aA)))
 (aM (fv (Cw.pt (t6 (Ho (bu 1)) (sY (dM (HC hu) (bu 3) (bu 1) (fJ _))))) (aM (mC (i:=1) nd rfl (bu 3))) cY))))
 (aM (bJ (bo (bu 1))))))
theorem Ez:bV ["_law_script","_law_rows","_law_cell_here","_law_others","_law_handed","_law_one","_law_other","_law_due","_law_again","_law_row"] ["_law_script"] (aR (top 31)):=qZ
theorem KC {f:Addr} {fd:aB} {Pt:Addr} (F:mP K "law" "law" (top 31) f fd) (cA:mg "len" = none) (gE:mg "list" = none) (eC:mg "range" = none) {j9:Addr} {ka:aB} (bT:oY P w K mg base fV 1 j9 ka "_law_cell" ["_law_script","_law_k"] (da K ck)) {zu:Addr} {zD:aB} (kJ:oY P w K mg base fV 3 zu zD "_law_cross" ["_law_rows","_law_cell_here"] (da K jG)) {zv:Addr} {zE:aB} (kK:oY P w K mg base fV 2 zv zE "_law_begun" ["_law_rows","_law_script"] (da K jH)) {xQ:Addr} {xV:aB} (jL:oY P w K mg base fV 2 xQ xV "_law_turned" ["_law_rows","_law_cell_here"] (da K i6)) {qz:Addr} {qE:aB} (fY:oY P w K mg base fV 2 qz qE "_law_other_names" ["_law_rows","_law_script"] (da K fH)) {Df:Addr} {Dj:aB} (dj:oY P w K mg base fV 5 Df Dj "settled" ["drawing"] (my (Tb Pt "settling.<locals>.<lambda>") K hX)) {l0:Addr} {ma:aB} (bU:oY P w K mg base fV 2 l0 ma "_law_rows_of_passings" ["_law_found"] (da K cb)) {gv:Addr} {gw:aB} (bE:oY P w K mg base fV 1 gv gw "_law_names" ["_law_rows"] (da K bN)) {vM:Addr} {vT:aB} (eI:oY P w K mg base fV 3 vM vT "_law_settled" ["_law_rows"] (da K eN)):fB P w K mg base fV 6 f fd ["_law_script"] (my (Tb Pt "settling.<locals>.<lambda>") K K2.v9) :=
 P6 F Ez K0 fun _ _ _ _ _ _ _ hT hr=>have nd:=Ez.nd; have hu:=hr.units; (aF (qf ["_law_k"] (sc:=aR (top 31)) (XN:=["_law_script","_law_rows","_law_cell_here","_law_others","_law_handed","_law_one","_law_other","_law_due","_law_again","_law_row"]) (i:=1) nd rfl rfl (j5 rfl eC (bH dN aQ (bH ed (bp bT.ok (hr.mono (by decide)) rfl bT.mg bT.kp bT.bi (ao (bu 0) (ao aQ aA))) aQ))) (fun _ _ _ _=>(mD (i:=0) (show (["_law_k"]:List Str).Nodup by decide +kernel) rfl)) (fun _ _ _ _=>.none) (fun _ _ _ _=>(bo (dZ aA))))
 (aF (sZ (dv bf rfl (cx (di (bu 0) (dU aQ) (dU aQ))) (mD (i:=2) nd rfl) (aM (fw (bp kJ.ok (hr.mono (by decide)) rfl kJ.mg kJ.kp kJ.bi (ao (bu 1) (ao (bu 2) aA)))))))
 (aF (mC (i:=3) nd rfl (bp kK.ok (hr.mono (by decide)) rfl kK.mg kK.kp kK.bi (ao (bp jL.ok (hr.mono (by decide)) rfl jL.mg jL.kp jL.bi (ao (bp fY.ok (hr.mono (by decide)) rfl fY.mg fY.kp fY.bi (ao (bu 1) (ao (bu 0) aA))) (ao (bp bT.ok (hr.mono (by decide)) rfl bT.mg bT.kp bT.bi (ao (bu 0) (ao aQ aA))) aA))) (ao (bu 0) aA))))
 (aF (sZ (qf ["_law_row"] (sc:=aR (top 31)) (XN:=["_law_script","_law_rows","_law_cell_here","_law_others","_law_handed","_law_one","_law_other","_law_due","_law_again","_law_row"]) (i:=4) nd rfl rfl (cx (bu 3)) (fun _ _ _ _=>(mD (i:=0) (show (["_law_row"]:List Str).Nodup by decide +kernel) rfl)) (fun _ _ _ _=>.none) (fun _ _ _ _=>(bo (o9 pz rfl gE ml (ao (bu 0) aA))))))
 (aF (mC (i:=5) nd rfl (bo (lp hT dj.ok (hr.mono (by decide)) rfl dj.mg dj.kp dj.bi (ao (bo (gT ["_law_row"] (sc:=aR (top 31)) (XN:=["_law_script","_law_rows","_law_cell_here","_law_others","_law_handed","_law_one","_law_other","_law_due","_law_again","_law_row"]) (cx (bu 1)) (fun _ _ _ _=>(mD (i:=0) (show (["_law_row"]:List Str).Nodup by decide +kernel) rfl)) (fun _ _ _ _=>.none) (fun _ _ _ _=>(bo (o9 pz rfl gE ml (ao (bu 0) aA)))))) aA))))
 (aF (mC (i:=6) nd rfl (bo (lp hT dj.ok (hr.mono (by decide)) rfl dj.mg dj.kp dj.bi (ao (bo (bu 4)) aA))))
 (aF (fv (Cw.pt (t6 (kC (ic (bp bU.ok (hr.mono (by decide)) rfl bU.mg bU.kp bU.bi (ao (bu 5) aA)))) (t6 (kC (ic (bp bU.ok (hr.mono (by decide)) rfl bU.mg bU.kp bU.bi (ao (bu 6) aA)))) (sY (dM (lT hu) (bu 4) (bu 3) (fJ _)))))) (aM (bJ (bo kT))) cY)
 (aF (fv (dM (lT hu) (bp bE.ok (hr.mono (by decide)) rfl bE.mg bE.kp bE.bi (ao (bu 5) aA)) (yS rfl rfl gE rfl eC aQ (bH dN (cD dG rfl cA h8 (ao (bp bE.ok (hr.mono (by decide)) rfl bE.mg bE.kp bE.bi (ao (bu 1) aA)) aA)) aQ)) (fJ _)) (aM (bJ (bo kT))) cY)
 (aF (sZ (qf ["_law_row"] (sc:=aR (top 31)) (XN:=["_law_script","_law_rows","_law_cell_here","_law_others","_law_handed","_law_one","_law_other","_law_due","_law_again","_law_row"]) (i:=7) nd rfl rfl (cx (bu 5)) (fun _ _ _ _=>(mD (i:=0) (show (["_law_row"]:List Str).Nodup by decide +kernel) rfl)) (fun _ _ _ _=>.none) (fun _ _ _ _=>(bo (o9 pz rfl gE ml (ao (bu 0) aA))))))
 (aF (mC (i:=8) nd rfl (lp hT dj.ok (hr.mono (by decide)) rfl dj.mg dj.kp dj.bi (ao (bo (bu 5)) aA)))
 (aF (fv (dM (lT hu) (bu 8) (bu 7) (fJ _)) (aM (bJ (bo kT))) cY)
 (aF (dv bf rfl (cx (bu 8)) (mD (i:=9) nd rfl) (aM (fw (iY bq cM cK fj gq (bu 9) (ao (lS (ao aQ (ao aQ (ao aQ aA)))) aA)))))
 (aF (fv (Cw.pt (t6 (dM (lT hu) (bu 5) (bu 7) (fJ _)) (sY (dM (lT hu) (lp hT dj.ok (hr.mono (by decide)) rfl dj.mg dj.kp dj.bi (ao (bo (bu 5)) aA)) (bu 7) (fJ _))))) (aM (bJ (bo kT))) cY)
 (aF (fv (Cw.pt (BK (dM (lT hu) (bH ed (bp bT.ok (hr.mono (by decide)) rfl bT.mg bT.kp bT.bi (ao (bu 0) (ao aQ aA))) aQ) aQ (fJ _)) (yP (dM (lT hu) (bu 5) (bu 6) (fJ _))))) (aM (bJ (bo kT))) cY)
 (aM (bJ (bo (xp (xq hu) (xp (xq hu) (bu 5) (bu 6) (fJ _)) (xp (xq hu) (bp eI.ok (hr.mono (by decide)) rfl eI.mg eI.kp eI.bi (ao (bu 1) aA)) (bp eI.ok (hr.mono (by decide)) rfl eI.mg eI.kp eI.bi (ao (bu 3) aA)) (fJ _)) (fJ _)))))))))))))))))))
end
theorem all_mk {cL Pt:Addr} {l:PySem.W.OpenLaw} {w:World} {K:ah} {h:Heap} {mg:Str->Option Value} {fa:Addr} (X:K.In h) (G:h.Ns bG mg) (Tu:mg "law" = some (.ref fa))
  {f0:Addr} {d0:aB} (F0:At K "_law_cell" (top 16) f0 d0)
  {f1:Addr} {d1:aB} (F1:At K "_law_names" (top 21) f1 d1)
  {f2:Addr} {d2:aB} (F2:At K "_law_name" (top 22) f2 d2)
  {f3:Addr} {d3:aB} (F3:At K "_law_cross" (top 23) f3 d3)
  {f4:Addr} {d4:aB} (F4:At K "_law_begun" (top 29) f4 d4)
  {f5:Addr} {d5:aB} (F5:At K "_law_turned" (top 30) f5 d5)
  {f6:Addr} {d6:aB} (F6:At K "_law_called" (top 24) f6 d6)
  {f7:Addr} {d7:aB} (F7:At K "_law_other_names" (top 28) f7 d7)
  {f8:Addr} {d8:aB} (F8:At K "one_of_each" (top 5) f8 d8)
  {f9:Addr} {d9:aB} (F9:At K "beginnings" (top 10) f9 d9)
  {Uq:Addr} {UL:aB} (Ol:At K "passings_of" (top 1) Uq UL)
  {Uo:Addr} {UK:aB} (Oj:At K "names_as_met" (top 11) Uo UK)
  {Um:Addr} {UJ:aB} (Oi:At K "seated" (top 2) Um UJ)
  {Ul:Addr} {UI:aB} (Oh:At K "seated_rows" (top 3) Ul UI)
  {Uk:Addr} {UH:aB} (Og:At K "renamed_row" (top 7) Uk UH)
  {Uj:Addr} {UG:aB} (Of:At K "renamed_rows" (top 8) Uj UG)
  {Ui:Addr} {UE:aB} (Oe:At K "settling_from" (top 12) Ui UE)
  {Uh:Addr} {Rk:aB} (Od:At K "settling" (top 13) Uh Rk)
  {Ug:Addr} {UD:aB} (Oc:At K "settled" (top 14) Ug UD)
  {Ue:Addr} {UC:aB} (Ob:At K "_law_whole" (top 17) Ue UC)
  {Ud:Addr} {UB:aB} (Oa:At K "_law_rows_of_passings" (top 18) Ud UB)
  {Uc:Addr} {UA:aB} (N9:At K "_law_choices" (top 25) Uc UA)
  {Ub:Addr} {Uz:aB} (N8:At K "_law_seat" (top 19) Ub Uz)
  {Ua:Addr} {Uy:aB} (N7:At K "_law_seats" (top 20) Ua Uy)
  {T9:Addr} {Ux:aB} (N6:At K "_law_met" (top 26) T9 Ux)
  {T8:Addr} {Uw:aB} (N5:At K "_law_settled" (top 27) T8 Uw)
  {T7:Addr} {Uv:aB} (Ru:At K "law" (top 31) T7 Uv)
  (Ls:autoParam (dB K bG "len" = some none) Aq._auto_1) (Ed:autoParam (dB K bG "sorted" = some none) Aq._auto_1) (Lr:autoParam (dB K bG "max" = some none) Aq._auto_1) (GV:autoParam (dB K bG "range" = some none) Aq._auto_1) (Jl:autoParam (dB K bG "list" = some none) Aq._auto_1) (Ap:autoParam (dB K bG "reversed" = some none) Aq._auto_1) (Lq:autoParam (dB K bG "min" = some none) Aq._auto_1) (Jm:autoParam (dB K bG "bool" = some none) Aq._auto_1) (Lu:autoParam (dB K bG "int" = some none) Aq._auto_1) (w5:autoParam (dB K bG "isinstance" = some none) Aq._auto_1) (Lv:autoParam (dB K bG "all" = some none) Aq._auto_1) (GU:autoParam (dB K bG "tuple" = some none) Aq._auto_1) (Tz:autoParam (Rk.code=.ref cL) Ar._auto_1) :
  ∃ fd:aB,(∀ (s:ak) (v:Value),BindsTo s fd ⟨[v],[]⟩ [("_law_script",v)])/\∀ base:Heap,K.In base->base.Ns bG mg->yd mg base cL Pt->fB l.prog w K mg base fV 6 fa fd ["_law_script"] (my (Tb Pt "settling.<locals>.<lambda>") K K2.v9):=by
 have e:=Tu.symm.trans (PySem.W.mg_of X G Ru.a);cases e;have b0:=F0.F.binds (ps:=["_law_script","_law_k"]) fun _ _ _ _ _ _ us hl=>by obtain⟨_,_,rfl⟩:=xB hl; rfl
 have b1:=F1.F.binds (ps:=["_law_rows"]) fun _ _ _ _ _ _ us hl=>by obtain⟨_,rfl⟩:=mO hl; rfl
 have b2:=F2.F.binds (ps:=["_law_rows","_law_cell_here"]) fun _ _ _ _ _ _ us hl=>by obtain⟨_,_,rfl⟩:=xB hl; rfl
 have b3:=F3.F.binds (ps:=["_law_rows","_law_cell_here"]) fun _ _ _ _ _ _ us hl=>by obtain⟨_,_,rfl⟩:=xB hl; rfl
 have b4:=F4.F.binds (ps:=["_law_rows","_law_script"]) fun _ _ _ _ _ _ us hl=>by obtain⟨_,_,rfl⟩:=xB hl; rfl
 have b5:=F5.F.binds (ps:=["_law_rows","_law_cell_here"]) fun _ _ _ _ _ _ us hl=>by obtain⟨_,_,rfl⟩:=xB hl; rfl
 have b6:=F6.F.binds (ps:=["_law_rows","_law_names_here"]) fun _ _ _ _ _ _ us hl=>by obtain⟨_,_,rfl⟩:=xB hl; rfl
 have b7:=F7.F.binds (ps:=["_law_rows","_law_script"]) fun _ _ _ _ _ _ us hl=>by obtain⟨_,_,rfl⟩:=xB hl; rfl
 have b8:=F8.F.binds (ps:=["lists"]) fun _ _ _ _ _ _ us hl=>by obtain⟨_,rfl⟩:=mO hl; rfl
 have b9:=F9.F.binds (ps:=["row"]) fun _ _ _ _ _ _ us hl=>by obtain⟨_,rfl⟩:=mO hl; rfl
 have U3:=Ol.F.binds (ps:=["rows"]) fun _ _ _ _ _ _ us hl=>by obtain⟨_,rfl⟩:=mO hl; rfl
 have U2:=Oj.F.binds (ps:=["rows"]) fun _ _ _ _ _ _ us hl=>by obtain⟨_,rfl⟩:=mO hl; rfl
 have U1:=Oi.F.binds (ps:=["row"]) fun _ _ _ _ _ _ us hl=>by obtain⟨_,rfl⟩:=mO hl; rfl
 have U0:=Oh.F.binds (ps:=["rows"]) fun _ _ _ _ _ _ us hl=>by obtain⟨_,rfl⟩:=mO hl; rfl
 have UZ:=Og.F.binds (ps:=["row","names"]) fun _ _ _ _ _ _ us hl=>by obtain⟨_,_,rfl⟩:=xB hl; rfl
 have UY:=Of.F.binds (ps:=["drawing","names"]) fun _ _ _ _ _ _ us hl=>by obtain⟨_,_,rfl⟩:=xB hl; rfl
 have UX:=Oe.F.binds (ps:=["rows"]) fun _ _ _ _ _ _ us hl=>by obtain⟨_,rfl⟩:=mO hl; rfl
 have UW:=Od.F.binds (ps:=["drawing"]) fun _ _ _ _ _ _ us hl=>by obtain⟨_,rfl⟩:=mO hl; rfl
 have UU:=Oc.F.binds (ps:=["drawing"]) fun _ _ _ _ _ _ us hl=>by obtain⟨_,rfl⟩:=mO hl; rfl
 have UT:=Ob.F.binds (ps:=["_law_found"]) fun _ _ _ _ _ _ us hl=>by obtain⟨_,rfl⟩:=mO hl; rfl
 have US:=Oa.F.binds (ps:=["_law_found"]) fun _ _ _ _ _ _ us hl=>by obtain⟨_,rfl⟩:=mO hl; rfl
 have UR:=N9.F.binds (ps:=["_law_rows"]) fun _ _ _ _ _ _ us hl=>by obtain⟨_,rfl⟩:=mO hl; rfl
 have UQ:=N8.F.binds (ps:=["_law_row"]) fun _ _ _ _ _ _ us hl=>by obtain⟨_,rfl⟩:=mO hl; rfl
 have UP:=N7.F.binds (ps:=["_law_rows"]) fun _ _ _ _ _ _ us hl=>by obtain⟨_,rfl⟩:=mO hl; rfl
 have UO:=N6.F.binds (ps:=["_law_rows"]) fun _ _ _ _ _ _ us hl=>by obtain⟨_,rfl⟩:=mO hl; rfl
 have UN:=N5.F.binds (ps:=["_law_rows"]) fun _ _ _ _ _ _ us hl=>by obtain⟨_,rfl⟩:=mO hl; rfl
 have cA:=cu X G Ls;have rh:=cu X G Ed;have rn:=cu X G Lr;have eC:=cu X G GV;have gE:=cu X G Jl;have nM:=cu X G Ap;have rm:=cu X G Lq;have xr:=cu X G Jm;have AF:=cu X G Lu;have dO:=cu X G w5;have AG:=cu X G Lv;have ua:=cu X G GU;obtain⟨Fa,Fl⟩:=Ru;obtain⟨oc,od,kV,doc,pm,an,jA,ct,DJ,rfl,lk,yq⟩:=Fl.ex;refine⟨iN "law" "law" (kE (top 31)) (gG (top 31)) (aR (top 31)) .none kV doc pm an jA ct,fun s v=>.of_eq rfl,fun base _ _ hl=>?_⟩;have O3:=zq (P:=l.prog) (w:=w) (mg:=mg) (base:=base) F0.F cA;have Nt:=xN (P:=l.prog) (w:=w) (mg:=mg) (base:=base) F1.F rh;have Qz:=zo (P:=l.prog) (w:=w) (mg:=mg) (base:=base) F2.F ⟨Nt,F1.mg X G,F1.F.kp,b1⟩;have LX:=xO (P:=l.prog) (w:=w) (mg:=mg) (base:=base) F3.F cA ⟨Qz,F2.mg X G,F2.F.kp,b2⟩;have Sm:=xP (P:=l.prog) (w:=w) (mg:=mg) (base:=base) F4.F cA rn eC ⟨O3,F0.mg X G,F0.F.kp,b0⟩;have Sl:=vF (P:=l.prog) (w:=w) (mg:=mg) (base:=base) F5.F cA gE nM ⟨Nt,F1.mg X G,F1.F.kp,b1⟩;have Qy:=vG (P:=l.prog) (w:=w) (mg:=mg) (base:=base) F6.F;have Sk:=pj (P:=l.prog) (w:=w) (mg:=mg) (base:=base) F7.F ⟨Nt,F1.mg X G,F1.F.kp,b1⟩ ⟨O3,F0.mg X G,F0.F.kp,b0⟩ ⟨Qy,F6.mg X G,F6.F.kp,b6⟩;have Sj:=uN (P:=l.prog) (w:=w) (mg:=mg) (base:=base) F8.F;have Si:=vH (P:=l.prog) (w:=w) (mg:=mg) (base:=base) F9.F cA eC;have O2:=uM (P:=l.prog) (w:=w) (mg:=mg) (base:=base) Ol.F;have O1:=sF (P:=l.prog) (w:=w) (mg:=mg) (base:=base) Oj.F cA ⟨O2,Ol.mg X G,Ol.F.kp,U3⟩;have O0:=De (P:=l.prog) (w:=w) (mg:=mg) (base:=base) Oi.F rm;have OZ:=uK (P:=l.prog) (w:=w) (mg:=mg) (base:=base) Oh.F ⟨O0,Oi.mg X G,Oi.F.kp,U1⟩;have OY:=uL (P:=l.prog) (w:=w) (mg:=mg) (base:=base) Og.F;have OX:=sE (P:=l.prog) (w:=w) (mg:=mg) (base:=base) Of.F ⟨OY,Og.mg X G,Og.F.kp,UZ⟩;have OW:=rF (P:=l.prog) (w:=w) (mg:=mg) (base:=base) Oe.F ⟨O1,Oj.mg X G,Oj.F.kp,U2⟩ ⟨OZ,Oh.mg X G,Oh.F.kp,U0⟩ ⟨OX,Of.mg X G,Of.F.kp,UY⟩;have OV:=zk (P:=l.prog) (w:=w) (mg:=mg) (base:=base) hl Tz Od.F rm ⟨Sj,F8.mg X G,F8.F.kp,b8⟩ ⟨Si,F9.mg X G,F9.F.kp,b9⟩ ⟨OW,Oe.mg X G,Oe.F.kp,UX⟩;have OU:=AY (P:=l.prog) (w:=w) (mg:=mg) (base:=base) Oc.F ⟨OV,Od.mg X G,Od.F.kp,UW⟩;have OT:=xK (P:=l.prog) (w:=w) (mg:=mg) (base:=base) Ob.F xr AF dO;have OS:=lz (P:=l.prog) (w:=w) (mg:=mg) (base:=base) Oa.F AG dO cA gE ua ⟨OT,Ob.mg X G,Ob.F.kp,UT⟩;have OR:=uP (P:=l.prog) (w:=w) (mg:=mg) (base:=base) N9.F cA rn eC;have OQ:=zm (P:=l.prog) (w:=w) (mg:=mg) (base:=base) N8.F cA eC;have OP:=xM (P:=l.prog) (w:=w) (mg:=mg) (base:=base) N7.F ⟨OQ,N8.mg X G,N8.F.kp,UQ⟩;have OO:=AZ (P:=l.prog) (w:=w) (mg:=mg) (base:=base) N6.F cA;have ON:=uO (P:=l.prog) (w:=w) (mg:=mg) (base:=base) N5.F ⟨OR,N9.mg X G,N9.F.kp,UR⟩ ⟨OP,N7.mg X G,N7.F.kp,UP⟩ ⟨Qy,F6.mg X G,F6.F.kp,b6⟩ ⟨OO,N6.mg X G,N6.F.kp,UO⟩;exact KC Fl cA gE eC ⟨O3,F0.mg X G,F0.F.kp,b0⟩ ⟨LX,F3.mg X G,F3.F.kp,b3⟩ ⟨Sm,F4.mg X G,F4.F.kp,b4⟩ ⟨Sl,F5.mg X G,F5.F.kp,b5⟩ ⟨Sk,F7.mg X G,F7.F.kp,b7⟩ ⟨OU,Oc.mg X G,Oc.F.kp,UU⟩ ⟨OS,Oa.mg X G,Oa.F.kp,US⟩ ⟨Nt,F1.mg X G,F1.F.kp,b1⟩ ⟨ON,N5.mg X G,N5.F.kp,UN⟩
section
open PySem.W PySem.Calls
noncomputable def hC (n:Str) (t:Nat) (l:List Value):Obj:=⟨.type "code",none,.fields (.str n t :: .str n (t+1) :: .str "/claim/cut.py" (t+2) :: l).toArray,#[]⟩
noncomputable def hI(n:Int):Value:=.int n 0
noncomputable def hR(n:Nat):Value:=.ref n
noncomputable def hN:Value:=.none
noncomputable def hT:Value:=.bool true
noncomputable def hS (n:Nat):Value:=.str "/claim/cut.py" n
noncomputable def hD(n:Str)(t:Nat)(l a:Int)(r:Nat)(x y z:Value)(u:Nat):Obj:=hC n t [hI l,hI a,hI 0,hI 0,hI 3,hR r,hT,hI 181,hR (r+1),hN,x,y,z,hI (u - 1),hI l,hS u]
noncomputable abbrev hF (i:Nat) (n:Str) (m c:Value):Obj:=⟨.type "function",none,.func (iN n n (kE (top i)) (gG (top i)) (aR (top i)) .none .none .none m none c .none),#[]⟩
noncomputable abbrev hE(P:Params)(s:Str)(t:Nat)(v:Value):DictEntry:=⟨PyData.keyHash P s,.str s t,v⟩
noncomputable def hQ:bC:=PySem.W.view PySem.Challenge.pw_knotwise_k71_settled_by_any_names [1,2,3,5,7,8,10,11,12,13,14,16,17,18,19,20,21,22,23,24,25,26,27,28,29,30,31]
noncomputable def hK (P:Params):ah:=(nat_lit 3,⟨(.type "dict"),none,(.dict #[hE P "__name__" 165 (.str "law_knotwise_k71_settled_by_any_names" 272),hE P "__doc__" 166 .none,hE P "__package__" 167 .none,hE P "__loader__" 168 (.builtin "__main__.__loader__#opaque"),hE P "__spec__" 169 .none,hE P "__annotations__" 170 (.ref 6),hE P "__builtins__" 171 (.ref 4),hE P "__file__" 173 (.str "/claim/cut.py" 172),hE P "__cached__" 174 .none,hE P "passings_of" 197 (.ref 21),hE P "seated" 205 (.ref 28),hE P "seated_rows" 211 (.ref 33),hE P "one_of_each" 219 (.ref 38),hE P "renamed_row" 227 (.ref 43),hE P "renamed_rows" 233 (.ref 48),hE P "beginnings" 241 (.ref 53),hE P "names_as_met" 250 (.ref 60),hE P "settling_from" 258 (.ref 67),hE P "settling" 264 (.ref 72),hE P "settled" 271 (.ref 79),hE P "_law_cell" 281 (.ref 86),hE P "_law_whole" 288 (.ref 93),hE P "_law_rows_of_passings" 294 (.ref 98),hE P "_law_seat" 303 (.ref 105),hE P "_law_seats" 309 (.ref 110),hE P "_law_names" 319 (.ref 117),hE P "_law_name" 328 (.ref 124),hE P "_law_cross" 340 (.ref 131),hE P "_law_called" 346 (.ref 136),hE P "_law_choices" 358 (.ref 143),hE P "_law_met" 368 (.ref 150),hE P "_law_settled" 378 (.ref 157),hE P "_law_other_names" 390 (.ref 164),hE P "_law_begun" 401 (.ref 171),hE P "_law_turned" 414 (.ref 178),hE P "law" 420 (.ref 183)] 36),#[]⟩) ::
(nat_lit 20,hD "passings_of" 189 2 1 15 (hR 17) (hR 18) (hR 19) 196) ::
(nat_lit 21,hF 1 "passings_of" (.str "knotwise.drawings" 187) (.ref 20)) ::
(nat_lit 27,hD "seated" 198 7 1 22 (hR 24) (hR 25) (hR 26) 204) ::
(nat_lit 28,hF 2 "seated" (.str "knotwise.drawings" 187) (.ref 27)) ::
(nat_lit 32,hD "seated_rows" 206 12 1 29 hN hN (hR 31) 210) ::
(nat_lit 33,hF 3 "seated_rows" (.str "knotwise.drawings" 187) (.ref 32)) ::
(nat_lit 37,hD "one_of_each" 214 15 1 34 hN hN (hR 36) 218) ::
(nat_lit 38,hF 5 "one_of_each" (.str "knotwise.groups" 212) (.ref 37)) ::
(nat_lit 42,hD "renamed_row" 222 24 2 39 hN hN (hR 41) 226) ::
(nat_lit 43,hF 7 "renamed_row" (.str "knotwise.makings" 220) (.ref 42)) ::
(nat_lit 47,hD "renamed_rows" 228 26 2 44 hN hN (hR 46) 232) ::
(nat_lit 48,hF 8 "renamed_rows" (.str "knotwise.makings" 220) (.ref 47)) ::
(nat_lit 52,hD "beginnings" 236 29 1 49 hN hN (hR 51) 240) ::
(nat_lit 53,hF 10 "beginnings" (.str "knotwise.settled" 234) (.ref 52)) ::
(nat_lit 59,hD "names_as_met" 242 33 1 54 (hR 56) (hR 57) (hR 58) 249) ::
(nat_lit 60,hF 11 "names_as_met" (.str "knotwise.settled" 234) (.ref 59)) ::
(nat_lit 66,hD "settling_from" 251 39 1 61 (hR 63) (hR 64) (hR 65) 257) ::
(nat_lit 67,hF 12 "settling_from" (.str "knotwise.settled" 234) (.ref 66)) ::
(nat_lit 71,hD "settling" 259 42 1 68 hN hN (hR 70) 263) ::
(nat_lit 72,hF 13 "settling" (.str "knotwise.settled" 234) (.ref 71)) ::
(nat_lit 78,hD "settled" 265 45 1 73 (hR 75) (hR 76) (hR 77) 270) ::
(nat_lit 79,hF 14 "settled" (.str "knotwise.settled" 234) (.ref 78)) ::
(nat_lit 85,hD "_law_cell" 274 48 2 80 (hR 82) (hR 83) (hR 84) 280) ::
(nat_lit 86,hF 16 "_law_cell" (.str "law_knotwise_k71_settled_by_any_names" 272) (.ref 85)) ::
(nat_lit 92,hD "_law_whole" 282 52 1 87 (hR 89) (hR 90) (hR 91) 287) ::
(nat_lit 93,hF 17 "_law_whole" (.str "law_knotwise_k71_settled_by_any_names" 272) (.ref 92)) ::
(nat_lit 97,hD "_law_rows_of_passings" 289 54 1 94 hN hN (hR 96) 293) ::
(nat_lit 98,hF 18 "_law_rows_of_passings" (.str "law_knotwise_k71_settled_by_any_names" 272) (.ref 97)) ::
(nat_lit 104,hD "_law_seat" 295 66 1 99 (hR 101) (hR 102) (hR 103) 302) ::
(nat_lit 105,hF 19 "_law_seat" (.str "law_knotwise_k71_settled_by_any_names" 272) (.ref 104)) ::
(nat_lit 109,hD "_law_seats" 304 72 1 106 hN hN (hR 108) 308) ::
(nat_lit 110,hF 20 "_law_seats" (.str "law_knotwise_k71_settled_by_any_names" 272) (.ref 109)) ::
(nat_lit 116,hD "_law_names" 310 74 1 111 (hR 113) (hR 114) (hR 115) 318) ::
(nat_lit 117,hF 21 "_law_names" (.str "law_knotwise_k71_settled_by_any_names" 272) (.ref 116)) ::
(nat_lit 123,hD "_law_name" 320 81 2 118 (hR 120) (hR 121) (hR 122) 327) ::
(nat_lit 124,hF 22 "_law_name" (.str "law_knotwise_k71_settled_by_any_names" 272) (.ref 123)) ::
(nat_lit 130,hD "_law_cross" 329 86 2 125 (hR 127) (hR 128) (hR 129) 339) ::
(nat_lit 131,hF 23 "_law_cross" (.str "law_knotwise_k71_settled_by_any_names" 272) (.ref 130)) ::
(nat_lit 135,hD "_law_called" 341 93 2 132 hN hN (hR 134) 345) ::
(nat_lit 136,hF 24 "_law_called" (.str "law_knotwise_k71_settled_by_any_names" 272) (.ref 135)) ::
(nat_lit 142,hD "_law_choices" 347 98 1 137 (hR 139) (hR 140) (hR 141) 357) ::
(nat_lit 143,hF 25 "_law_choices" (.str "law_knotwise_k71_settled_by_any_names" 272) (.ref 142)) ::
(nat_lit 149,hD "_law_met" 359 107 1 144 (hR 146) (hR 147) (hR 148) 367) ::
(nat_lit 150,hF 26 "_law_met" (.str "law_knotwise_k71_settled_by_any_names" 272) (.ref 149)) ::
(nat_lit 156,hD "_law_settled" 369 114 1 151 (hR 153) (hR 154) (hR 155) 377) ::
(nat_lit 157,hF 27 "_law_settled" (.str "law_knotwise_k71_settled_by_any_names" 272) (.ref 156)) ::
(nat_lit 163,hD "_law_other_names" 379 121 2 158 (hR 160) (hR 161) (hR 162) 389) ::
(nat_lit 164,hF 28 "_law_other_names" (.str "law_knotwise_k71_settled_by_any_names" 272) (.ref 163)) ::
(nat_lit 170,hD "_law_begun" 391 131 2 165 (hR 167) (hR 168) (hR 169) 400) ::
(nat_lit 171,hF 29 "_law_begun" (.str "law_knotwise_k71_settled_by_any_names" 272) (.ref 170)) ::
(nat_lit 177,hD "_law_turned" 402 137 2 172 (hR 174) (hR 175) (hR 176) 413) ::
(nat_lit 178,hF 30 "_law_turned" (.str "law_knotwise_k71_settled_by_any_names" 272) (.ref 177)) ::
(nat_lit 182,hD "law" 415 152 1 179 hN hN (hR 181) 419) ::
(nat_lit 183,hF 31 "law" (.str "law_knotwise_k71_settled_by_any_names" 272) (.ref 182)) :: []
noncomputable def hA:List Addr:=[3,20,21,27,28,32,33,37,38,42,43,47,48,52,53,59,60,66,67,71,72,78,79,85,86,92,93,97,98,104,105,109,110,116,117,123,124,130,131,135,136,142,143,149,150,156,157,163,164,170,171,177,178,182,183]
noncomputable def hL:List Str:=[]
theorem Kx(w:World)(os:OsState):(topFrom treeTable (PySem.Challenge.rw_knotwise_k71_settled_by_any_names).row.prog w 1812 ⟨boot_heap w.params,Array.mk [],boot_drawn,boot_toks,os⟩).map (fun s=>(openSeen hQ hL (D0 (PySem.Challenge.rw_knotwise_k71_settled_by_any_names).row.prog.main.body) (Lw PySem.Challenge.rw_knotwise_k71_settled_by_any_names hQ) true s,hA.map s.heap.get?))=some (openGood hQ hL,(hK w.params).map fun p=>some p.2):=by kernel_rfl
theorem Kw:(PySem.Challenge.rw_knotwise_k71_settled_by_any_names).wellSaid=true:=by kernel_rfl
theorem Kv:Bu PySem.Challenge.rw_knotwise_k71_settled_by_any_names hQ=true:=by kernel_rfl
end
end Fin
end Internal
open Internal
open PySem PySem.W PyProof.Rows
set_option maxRecDepth 100000 in
set_option maxHeartbeats 0 in
theorem PySem.Challenge.cw_knotwise_k71_settled_by_any_names_holds : PySem.Challenge.rw_knotwise_k71_settled_by_any_names.Holds := by
 w_on
 refine K2.C8 (q:=Fin.hQ) (K:=Fin.hK) (as:=Fin.hA) (N:=1812) Fin.Kw (by kernel_rfl) (by kernel_rfl) (fun _=>by kernel_rfl) (fun _=>by kernel_rfl) Fin.Kx (by rfl) (by rfl) (by rfl) (by rfl) Fin.Kv ⟨rfl,rfl,rfl,rfl,rfl,by decide +kernel⟩ ?hw ?hc
 (case hw=>w_witness2)
 k_fill
 refine K2.C0 (c:=71) (P:=69) (y:="settling") (qn:="settling.<locals>.<lambda>") (l:=PySem.Challenge.rw_knotwise_k71_settled_by_any_names) (k:=6) (x:="_law_script") rfl rfl ⟨rfl,by decide,by decide⟩ (fun w h Y=>Y) (by kernel_rfl) (fun _=>by kernel_rfl) (fun _=>by kernel_rfl) ?F
 case F =>
  intro w mg fa h KX G Mp;exact Fin.all_mk KX G Mp K2.fA K2.fA K2.fA K2.fA K2.fA K2.fA K2.fA K2.fA K2.fA K2.fA K2.fA K2.fA K2.fA K2.fA K2.fA K2.fA K2.fA K2.fA K2.fA K2.fA K2.fA K2.fA K2.fA K2.fA K2.fA K2.fA K2.fA
