import PyProof.Rows.All
import Wide.All
import OpenK.AllK
import Wide.FinOn
import Lean
import PyProof.EqAt
import PyProof.EqKinds
import PyProof.TupleCall
import PySem.Challenge.RW_knotwise_k45_curls_make
open Array renaming length_toList -> eP, forIn_toList -> wK, getElem?_eq_getElem -> Fg, getD -> Hz, mk -> Jv, getElem?_eq_none -> La
open Array.Perm renaming refl -> lQ
open Bool renaming false_eq_true -> ar, and_eq_true -> aI, noConfusion -> bA, not_true -> bQ, not_false -> fF, false_ne_true -> iK, and_eq_true_iff -> mF, or_eq_true -> nv, false_and -> Hx, and_false -> Hy, false_or -> K9, beq_eq_decide_eq -> OR
open Classical renaming byContradiction -> gk
open False renaming elim -> bO
open ForInStep renaming yield -> qH
open Function renaming comp_def -> OQ
open Int renaming toNat_natCast -> fL, emod_lt_of_pos -> gz, add_zero -> hB, emod_nonneg -> i5, natCast_nonneg -> oO, mul_add -> rB, zero_add -> uw, one_mul -> Fc, mul_assoc -> LD
open List renaming getElem?_cons_zero -> aa, getElem?_cons_succ -> ae, length_cons -> aj, map_cons -> ak, set_cons_zero -> ao, set_cons_succ -> aq, getElem?_eq_getElem -> au, cons_append -> az, length_map -> aB, length_nil -> aF, length_append -> aG, mem_cons_of_mem -> aK, nodup_cons -> aN, nil_append -> aT, size_toArray -> aW, mem_cons -> aY, replicate -> bg, map_nil -> br, map_map -> bt, map_append -> bw, getElem?_map -> bB, filter_cons -> bF, mem_map_of_mem -> bI, mem_cons_self -> cc, append_assoc -> cf, find?_cons_of_pos -> cx, find?_cons_of_neg -> cy, getElem?_append_right -> cz, mem_singleton -> cC, nodup_nil -> cF, foldl_cons -> cM, append_nil -> cN, getElem?_append_left -> cO, getElem?_set_self -> cT, length_drop -> cV, mem_append_right -> c3, map_congr_left -> c4, length_singleton -> dq, length_set -> du, length_filter_le -> dw, getD_eq_getElem?_getD -> dG, filter_append -> dI, find?_cons -> dO, not_mem_nil -> dS, length -> dU, mem_of_getElem? -> eD, getElem?_set_ne -> eE, length_take -> eF, nodup_append -> eS, flatMap_cons -> eT, length_replicate -> fb, getElem_mem -> fj, flatten_cons -> fJ, find?_eq_none -> gx, drop_eq_getElem_cons -> gE, sum_cons -> g8, all_eq_true -> ic, range -> ij, perm_append_comm -> iS, mem_of_find?_eq_some -> jF, flatten_append -> jJ, filter_sublist -> jK, length_zip -> kq, getElem?_replicate -> kr, any_cons -> ku, drop_eq_nil_of_le -> kL, map_id -> k6, foldl_append -> k7, all_map -> lP, mem_append_left -> mC, getElem?_of_mem -> mD, zip_cons_cons -> oE, getElem_range -> oF, filter_cons_of_neg -> qU, getElem_zip -> rq, getElem_map -> rz, take_append_drop -> ue, getElem?_eq_none -> uf, find?_some -> ug, filter_nil -> uh, filterMap_cons -> vU, take_nil -> yU, drop_nil -> yV, all_cons -> yW, pairwise_map -> zH, length_range -> zI, set_nil -> AY, lookup_cons -> Cg, of_mem_zip -> ER, mem_or_eq_of_mem_set -> Hu, length_erase_of_mem -> Ju, filter_cons_of_pos -> K6, eraseIdx_cons_zero -> K7, eraseIdx_cons_succ -> K8, take_of_length_le -> LA, length_pos_of_mem -> LB, set_getElem_self -> OP, mem_erase_of_ne -> O5
open List.Perm renaming swap -> mR, cons -> AZ, trans -> O6
open List.Sublist renaming map -> ky, nodup -> lS
open Nat renaming le_refl -> aE, le_trans -> aZ, ne_of_lt -> bK, lt_of_lt_of_le -> bN, zero_le -> cE, lt_of_le_of_lt -> fi, lt_irrefl -> jf, add_assoc -> jg, pow_le_pow_right -> jq, mul_le_mul_right -> jr, add_zero -> oN, add_sub_cancel_left -> rn, succ_le_succ -> sr, le_add_right -> su, le_of_succ_le_succ -> sC, not_lt_zero -> uu, mul_le_mul_left -> wJ, zero_add -> Cf, lt_succ_self -> Cw, lt_of_succ_lt_succ -> OO, pow_succ -> O3, le_of_lt -> O4
open Ne renaming symm -> gf
open Option renaming getD_some -> qG, map_some -> sk, isSome_map -> yT, getD_none -> zG
open Option.some renaming inj -> aX, injEq -> ur
open PyProof.Rows renaming callWith_type1 -> g7, IntsAre -> nG, slot_tuple_getitem -> ud, callWith_builtin1 -> uq, seqObj -> wA, preSum_getD -> y7, AllBare -> A0, envOfC -> Cu
open PySem renaming wpAny_bind -> ag, Shared -> av, wpAny_pure -> aA, FuncData -> aC, sizeLine -> a8, Program -> bJ, mainGlobals -> bP, wpAny_loadPart' -> cg, sizeLine_eq -> cS, starEach -> cU, wpAny_call_entry -> cX, sysModules -> cY, wpAny_newObj_type -> dg, Around -> dj, bootBuiltins -> eC, wpAny_holding -> eK, compareOp -> eY, DictEntry -> eZ, wpAny_dictEntries -> gi, ReadsAll -> gL, mem_of_lookup -> g4, tupleKind -> hU, wpAny_typeNameOfWhole_itemiter -> iC, wpAny_callSpecial?_slot -> iE, binaryOp -> iF, wpAny_typeNameOfWhole_keyiter -> iO, wpAny_passesOwn -> jm, Paired -> jH, wpAny_typeNameOf_itemiter -> j9, wpAny_forIn_list -> kn, wpAny_typeNameOf_keyiter -> kE, wpAny_setField_rec -> lq, wpAny_dictEpoch -> lr, wpAny_Call_Name_kw -> lu, tupleKind_room_in1 -> lx, wpAny_isOneOf_itemiter -> lY, wpAny_pyIter_slot -> my, foldedSetIterable -> mz, valueAt -> mB, IsItemIter -> mE, wpAny_fieldsOf -> mQ, wpAny_isInstance -> nC, attributeBase -> oC, wpAny_field -> oR, sliceBounds -> oS, backTo -> oU, NameKind -> qT, wpAny_truthy_bool -> sx, wpAny_Call_method0_late -> uk, richCompare_meets_room -> vM, evalArgs_none -> vN, wpAny_specialOf -> wx, wpAny_notOrdered_dict -> wy, wpAny_execs_nil -> wz, letOwnedTupleGo -> wB, isSubtype_tuple_tuple -> wD, importedModules -> wF, call_meetsIn -> wG, assignEach -> yQ, firstArgMember -> zF, wpAny_tupleItemsOf -> Co, wpAny_standAt -> Cp, wpAny_attempt -> Cq, rawInt -> Cs, pyNext -> Ct, HeapKind -> Cy, wpAny_truthy_dict -> E1, storedH -> E2, relabel -> E3, intKind -> E4, codeAny -> E5, callerA -> E6, wpAny_callSpecialIfBound?_slot -> Hm, assign -> Hn, call -> Ho, wpAny_letOwnedTupleGo_items -> Lq, valueAt -> Lr, swapsWith -> Ls, pyIter -> Lu, holding -> Lw, eqIsQuiet -> Lx, Keyword -> LC, BindsTo -> LG, wpAny_setField -> O1
open PySem.Around renaming under_plainId -> LH
open PySem.AutoSeq1 renaming sub_tuple_tuple -> oo, sub_list_list -> Ff
open PySem.Builtin.Dict renaming showsAll -> jY, takeOut -> CB
open PySem.Builtin.Dict_items renaming ownsTuple -> eN, ownedTupleIsFree -> ie, ownedTupleFields -> oh, pairFromOwner -> oZ
open PySem.Builtin.Int renaming intBits -> Fe
open PySem.Builtin.List renaming listTooLong -> i6
open PySem.Builtin.Slice renaming slicePlaces -> iJ, sliceAdjust -> lT, sliceApplied -> vW
open PySem.Builtin.Tuple renaming tupleHashOf -> dE, tupleExact -> iV, tupleCompareSizes -> sD, tupleItemsOf -> vV
open PySem.Calls renaming callWith_builtin -> kG, spliced_cons -> og, spliced_nil -> y8, Name_function_global -> EU
open PySem.F renaming plainAttrs_dict -> cZ, slot_dict_items -> fm, slot_dict_get -> gj, slot_dict_itemiterator_next -> iH, slot_dict_itemiterator_iter -> iI, slot_dict_keyiterator_next -> iU, type_dict_get -> kJ, slot_tuple_lt -> kK, args_dict_items_1 -> nF, entry_dict_items -> oD, type_dict_items -> oW, plainAttrs_list -> oX, args_tuple_lt_2 -> oY, entry_tuple_lt -> qF, slot_dict_pop -> rm, slot_list_lt -> sA, args_dict_itemiterator_next_1 -> Cz, args_dict_itemiterator_iter_1 -> CA, type_list_append -> EM, slot_list_append -> EN, args_tuple_add_2 -> EO, entry_dict_itemiterator_next -> ES, args_dict_keyiterator_next_1 -> ET, entry_tuple_add -> E9, args_dict_get_3 -> Fb, entry_dict_keyiterator_next -> Fd, slot_tuple_add -> Hr, entry_dict_get -> Hs, args_list_lt_2 -> Ht, slot_dict_keyiterator_iter -> Hw, type_dict_pop -> Js, entry_list_lt -> Jt
open PySem.Heap renaming get?_push_of_some -> aJ, lt_size -> aU, get?_push_size -> bz, SameBut -> fc, get?_update_self -> ui, size_update -> Ci, size_push -> Hv, get?_update_other -> LF, get?_none_of_le -> O7
open PySem.Heap.SameBut renaming update -> iT
open PySem.NameKind renaming free -> jI
open PySem.Obj renaming mapSeq -> iD
open PySem.Paired renaming length -> gX, snoc -> ON
open PySem.PassesOwn renaming never -> bE
open PySem.PyData renaming depthAll -> cB, eqv -> yS
open PySem.SeqAt renaming any_by_data -> oV, items_eqAt -> qS
open PySem.Str renaming ofString -> uo
open PySem.Value renaming int -> dW, ref -> fk, none -> fE, isInt -> qE
open PySem.W renaming Frag -> ai, nsIn -> c5, mg_none_of -> c6, kas_rev -> gu, kia_one -> iG, kas_place -> jo, fnOf -> jE, mg_of -> jM, kas_desc -> ko, keepIn -> kF, findIn -> nE, kas_asc -> oT, kas_descPart -> wC, methodObj -> wH, OpenLaw -> AX, codeIn -> Cv, boot_drawn -> E7, cellsFrom_some -> Hq, kas_tail3 -> Lv, boot_toks -> Ly, boot_heap -> Lz, specialIn -> O2
open PySem.W.KasT renaming ret -> uv
open Sum renaming inl -> um, inr -> E8
open True renaming intro -> fI
set_option Elab.async false
set_option linter.all false
set_option maxRecDepth 100000
set_option maxHeartbeats 4000000
set_option genSizeOf false
set_option genInjectivity false
set_option compiler.extract_closed false
namespace Internal
theorem Ad(h:0=0:=by decide):0=0:=h
theorem Ae(h:0=0:=by first | rfl | decide):0=0:=h
theorem Af(h:0=0:=by first | k_is | rfl):0=0:=h
theorem Ai(h:0=0:=by intro _; rfl):0=0:=h
theorem Ak(h:0=0:=by decide +kernel):0=0:=h
theorem Al(h:0=0:=by intro _ _ _ _ h; repeat (first | (cases h.1; rfl) | (cases h <;> rename_i h))):0=0:=h
theorem Ao(h:0=0:=by first | exact .inl rfl | exact .inr rfl | exact .inr (.inl rfl) | exact .inr (.inr rfl) | assumption):0=0:=h
theorem Aq(h:0=0:=by k_is):0=0:=h
theorem Ar(h:0=0:=by rfl):0=0:=h
namespace L2
open PySem PySem.Spec PyProof.Rows
noncomputable abbrev Key:=Sum Int Str
noncomputable def Am:Key->Value->Bool
 | .inl k,v=>qE k v
 | .inr x,v=>Value.isStrOf x v
noncomputable def Ye(w:World):Key->Int
 | .inl k=>hashInt k
 | .inr x=>hashStr w x
theorem eg:∀ {k:Key} {v:Value},Am k v=true->(∃ i t,k=um i/\v=dW i t)\/(∃ x t,k=E8 x/\v=Value.str x t)
 | .inl i,v,h=>by
  obtain⟨t,e⟩:=Value.isInt_shape (k:=i) (v:=v) h;exact .inl ⟨i,t,rfl,e⟩
 | .inr x,v,h=>by
  obtain⟨t,e⟩:=Value.isStrOf_shape (x:=x) (v:=v) h;exact .inr ⟨x,t,rfl,e⟩
theorem Kd(i:Int)(t:Tok):Am (.inl i) (.int i t)=true:=by simp [Am,qE]
theorem Kc(x:Str)(t:Tok):Am (.inr x) (.str x t)=true:=by simp [Am,Value.isStrOf]
theorem M6(a b:Int):decide ((um a:Key)=um b)=(a == b):=by
 by_cases e:a=b
 ·subst e; simp
 ·have h:¬ (um a:Key)=um b:=fun q=>e (Sum.inl.inj q);rw [decide_eq_false h];exact(beq_eq_false_iff_ne.mpr e).symm
theorem M5(a b:Str):decide ((E8 a:Key)=E8 b)=decide (a=b):=by
 by_cases e:a=b
 ·subst e; simp
 ·have h:¬ (E8 a:Key)=E8 b:=fun q=>e (Sum.inr.inj q);rw [decide_eq_false h,decide_eq_false e]
theorem Tc(a:Int)(b:Str):decide ((um a:Key)=E8 b)=false:=decide_eq_false (fun q=>nomatch q)
theorem Ta(a:Str)(b:Int):decide ((E8 a:Key)=um b)=false:=decide_eq_false (fun q=>nomatch q)
noncomputable def cK(prog:bJ)(w:World):PySem.KeyKind prog w Key where
 is:=Am
 hash:=Ye w
 inj:=fun v a b ha hb=>by
  rcases eg ha with ⟨i,t,rfl,rfl⟩ | ⟨x,t,rfl,rfl⟩
  ·rcases eg hb with ⟨j,u,rfl,e⟩ | ⟨y,u,rfl,e⟩
   ·injection e with e1 _; rw [e1]
   ·exact nomatch e
  ·rcases eg hb with ⟨j,u,rfl,e⟩ | ⟨y,u,rfl,e⟩
   ·exact nomatch e
   ·injection e with e1 _; rw [e1]
 byValue:=fun k v h=>by
  rcases eg h with ⟨i,t,rfl,rfl⟩ | ⟨x,t,rfl,rfl⟩ <;> rfl
 pyHash:=fun hv h=>by
  rcases eg hv with ⟨i,t,rfl,rfl⟩ | ⟨x,t,rfl,rfl⟩
  ·exact wpAny_pyHash_int h
  ·exact wpAny_pyHash_str h
 eqBool:=fun hu hv h=>by
  rcases eg hu with ⟨i,t,rfl,rfl⟩ | ⟨x,t,rfl,rfl⟩
  ·rcases eg hv with ⟨j,u,rfl,rfl⟩ | ⟨y,u,rfl,rfl⟩
   ·rw [M6] at h; exact wpAny_eqBool_int h
   ·rw [Tc] at h; exact SeqAt.EqAt.int_str i t y u _ _ _ _ h
  ·rcases eg hv with ⟨j,u,rfl,rfl⟩ | ⟨y,u,rfl,rfl⟩
   ·rw [Ta] at h; exact SeqAt.EqAt.str_int x t j u _ _ _ _ h
   ·rw [M5] at h; exact wpAny_eqBool_str h
 «strs»:=fun k x t v h=>by
  rcases eg h with ⟨i,u,rfl,e⟩ | ⟨y,u,rfl,e⟩
  ·exact nomatch e
  ·injection e with e1 _
   subst e1;cases v <;> rfl
theorem Dy(prog:bJ)(w:World)(i:Int)(t:Tok):(cK prog w).is (.inl i) (.int i t)=true:=Kd i t
theorem Dx(prog:bJ)(w:World)(x:Str)(t:Tok):(cK prog w).is (.inr x) (.str x t)=true:=Kc x t
inductive V where
 | eh | bl (b:Bool) | int (i:Int) | str (x:Str) | TQ (b:Array UInt8) | VX (b:UInt64) | ref (a:Addr) | ty (n:String)
noncomputable def RelV:V->Value->Prop
 | .eh,u=>u=fE
 | .bl b,u=>u=Value.bool b
 | .int i,u=>∃ t,u=dW i t
 | .str x,u=>∃ t,u=Value.str x t
 | .TQ b,u=>∃ t,u=Value.bytes b t
 | .VX b,u=>∃ t,u=Value.float b t
 | .ref a,u=>u=fk a
 | .ty n,u=>u=Value.type n
noncomputable abbrev Vals:List V->List Value->Prop:=jH RelV
theorem Vals.length{xs:List V}{us:List Value}(r:Vals xs us):xs.length=us.length:=gX r
theorem Vals.get:∀ {xs:List V} {us:List Value} {i:Nat} {x:V},Vals xs us->xs[i]?=some x->∃ u,us[i]?=some u/\RelV x u:=by
 intro xs us i x h;induction h generalizing i with
 | nil=>intro e; cases e
 | cons r t ih =>
  intro e;cases i with
  | zero=>cases e; exact⟨_,rfl,r⟩
  | succ i=>exact ih e
theorem Vals.set{x:V}{u:Value}(r:RelV x u):∀ {xs:List V} {us:List Value} (i:Nat),Vals xs us->Vals (xs.set i x) (us.set i u):=by
 intro xs us i h;induction h generalizing i with
 | nil=>rw [AY,AY]; exact .nil
 | cons q t ih =>
  cases i with
  | zero=>exact .cons r t
  | succ i=>exact .cons q (ih i)
theorem Vals.append:∀ {xs ys:List V} {us ws:List Value},Vals xs us->Vals ys ws->Vals (xs++ys) (us++ws):=by
 intro xs ys us ws h s;induction h with
 | nil=>exact s
 | cons r t ih=>exact .cons r ih
theorem Vals.take:∀ {xs:List V} {us:List Value} (n:Nat),Vals xs us->Vals (xs.take n) (us.take n):=by
 intro xs us n h;induction h generalizing n with
 | nil=>rw [yU,yU]; exact .nil
 | cons r t ih =>
  cases n with
  | zero=>exact .nil
  | succ n=>exact .cons r (ih n)
theorem Vals.drop:∀ {xs:List V} {us:List Value} (n:Nat),Vals xs us->Vals (xs.drop n) (us.drop n):=by
 intro xs us n h;induction h generalizing n with
 | nil=>rw [yV,yV]; exact .nil
 | cons r t ih =>
  cases n with
  | zero=>exact .cons r t
  | succ n=>exact ih n
noncomputable def vc:Option V->Option Value->Prop
 | some v,some u=>RelV v u
 | none,none=>True
 | _,_=>False
noncomputable def KV{κ:Type}:List (κ×V)->List (κ×Value)->Prop:=jH fun (p:κ×V) (q:κ×Value)=>p.1=q.1/\RelV p.2 q.2
noncomputable def kV:Key->V
 | .inl i=>.int i
 | .inr x=>.str x
inductive HO where
 | lst (xs:List V)
 | tup (xs:List V)
 | dK (kvs:List (Key×V)) | dT (kvs:List (List Key×V))
 | set (S:Int->Bool) (n:Nat)
 | ins (C dx:Addr) (fs:List (Str×V))
 | own (x:Addr)
 | xd (fs:List (Str×V))
 | met (f x:Addr)
 | UR (lo hi:Int)
 | jl (o:Obj) (u:HO)
 | Ra (q:Str)
 | ext (φ:Heap->Prop)
noncomputable abbrev Hp:=Addr->Option HO
noncomputable def upd(H:Hp)(a:Addr)(o:HO):Hp:=fun b=>if b=a then some o else H b
theorem bY{H:Hp}{a:Addr}{o:HO}:upd H a o a=some o:=by unfold upd; rw [if_pos rfl]
theorem bL{H:Hp}{a b:Addr}{o:HO}(h:b≠a):upd H a o b=H b:=by unfold upd; rw [if_neg h]
theorem Rq{H:Hp}{a b:Addr}{o u:HO}(h:H a=some o)(h':H b=some u)(d:o≠u):a≠b:=by
 intro e; subst e; rw [h] at h'; exact d (aX h')
theorem dD{H:Hp}{a b:Addr}{o:HO}(h:H a=some o)(h':H b=none):a≠b:=by
 intro e; subst e; rw [h] at h'; cases h'
section
variable (P:bJ) (w:World)
noncomputable def fB(H:Hp)(h:Heap)(a:Addr):HO->Prop
 | .lst xs=>xs.length<=a8/\∃ (bS:List Value) (n:Nat),Vals xs bS/\h.get? a=some { cls:=.type "list",data:=.seq bS.toArray n }
 | .tup xs=>xs.length<=a8/\∃ bS:List Value,Vals xs bS/\IsTup h a bS.toArray
 | .dK kvs=>kvs.length<=a8/\(a == cY)=false/\∃ vs,KV kvs vs/\h.DictOf (cK P w) a vs
 | .dT kvs=>kvs.length<=a8/\(a == cY)=false/\∃ xs:List (List Key×Addr×Value),
   jH (fun (p:List Key×V) (q:List Key×Addr×Value)=>p.1=q.1/\H q.2.1=some (.tup (p.1.map kV))/\RelV p.2 q.2.2) kvs xs /\
   ∃ o es ep,h.get? a=some o/\o.ExactDict/\o.data=.dict es ep/\es.toList=xs.map (entryOfKey (hU (cK P w)))/\(xs.map (·.1)).Nodup
 | .set S n=>h.SetOf (E4 P w) a S n
 | .ins C dx fs=>H dx=some (.own a)/\fs.length<=1000/\dx≠a/\h.get? a=some (PySem.W.instObj C dx) /\
   ∃ mA,h.Ns1 dx mA/\(∀ f,vc (fs.lookup f) (mA f))/\PySem.Within mA (fs.map (·.1))
 | .own _=>∃ o,h.get? a=some o
 | .xd fs=>∃ mA,h.Ns1 a mA/\∀ f,vc (fs.lookup f) (mA f)
 | .UR lo hi=>∃ t u v,h.get? a=some { cls:=.type "range",data:=.fields #[.int lo t,.int hi u,.int 1 v] }
 | .jl o u=>h.get? a=some o/\fB H h a u
 | .Ra q=>∃ ps,h.get? a=some { cls:=.none,data:=.fields ps }/\TriplesOk ps.toList/\∀ pos cv,codeAmong pos ps.toList=some cv->∃ c',cv=.ref c'/\H c'=some (.own a)/\h.CodeRec (.ref c') q
 | .met f x=>h.get? a=some (wH (.ref f) (.ref x))
 | .ext φ=>φ h/\(∃ o,h.get? a=some o)/\∀ h1 h2:Heap,φ h1->(∀ o,h1.get? a=some o->h2.get? a=some o)->φ h2
noncomputable def oB(H:Hp)(h:Heap):Prop:=∀ a o,H a=some o->fB P w H h a o
end
section
variable {P:bJ} {w:World} {H H':Hp} {h h':Heap} {a:Addr} {o:HO}
theorem fB.lt(x:fB P w H h a o):a < h.objs.size:=by
 cases o with
 | lst xs=>obtain⟨_,_,_,_,e⟩:=x; exact aU e
 | tup xs=>obtain⟨_,_,_,p⟩:=x; exact p.lt
 | dK kvs=>obtain⟨_,_,_,_,o,_,_,e,_⟩:=x; exact aU e
 | dT kvs=>obtain⟨_,_,_,_,o,_,_,e,_⟩:=x; exact aU e
 | set S n=>obtain⟨o,_,_,_,e,_⟩:=x; exact aU e
 | ins C dx fs=>obtain⟨_,_,_,e,_⟩:=x; exact aU e
 | own y=>obtain⟨_,e⟩:=x; exact aU e
 | xd fs=>obtain⟨_,⟨_,_,_,e,_⟩,_⟩:=x; exact aU e
 | UR lo hi=>obtain⟨_,_,_,e⟩:=x; exact aU e
 | jl ob u=>obtain⟨e,_⟩:=x; exact aU e
 | Ra q=>obtain⟨_,e,_⟩:=x; exact aU e
 | met f y=>exact aU (show h.get? a=some _ from x)
 | ext φ=>obtain⟨_,⟨_,e⟩,_⟩:=x; exact aU e
theorem Paired.S5{α β:Type}{F G:α->β->Prop}:∀ {l₁:List α} {l₂:List β},jH F l₁ l₂->(∀ a b,F a b->G a b)->jH G l₁ l₂:=by
 intro l₁ l₂ h f;induction h with
 | nil=>exact .nil
 | cons r t ih=>exact .cons (f _ _ r) ih
theorem fB.ly(x:fB P w H h a o)(k:∀ b u,(b=a\/H b=some (.own a))->h.get? b=some u->h'.get? b=some u)
  (ho:∀ b,H b=some (.own a)->H' b=some (.own a)) (ht:∀ b xs,H b=some (.tup xs)->H' b=some (.tup xs)):fB P w H' h' a o:=by
 induction o with
 | lst xs=>obtain⟨z,bS,n,r,e⟩:=x; exact⟨z,bS,n,r,k _ _ (.inl rfl) e⟩
 | tup xs=>obtain⟨z,bS,r,ob,e,c⟩:=x; exact⟨z,bS,r,ob,k _ _ (.inl rfl) e,c⟩
 | dK kvs=>obtain⟨z,y,vs,r,ob,es,ep,e,c⟩:=x; exact⟨z,y,vs,r,ob,es,ep,k _ _ (.inl rfl) e,c⟩
 | dT kvs =>
  obtain⟨z,y,xs,r,ob,es,ep,e,c⟩:=x;exact⟨z,y,xs,Paired.S5 r fun p q z=>⟨z.1,ht _ _ z.2.1,z.2.2⟩,ob,es,ep,k _ _ (.inl rfl) e,c⟩
 | set S n=>obtain⟨ob,es,ep,t,e,c⟩:=x; exact⟨ob,es,ep,t,k _ _ (.inl rfl) e,c⟩
 | ins C dx fs =>
  obtain⟨d,z,ne,e,mA,⟨od,es,ep,e2,c⟩,r⟩:=x;exact⟨ho _ d,z,ne,k _ _ (.inl rfl) e,mA,⟨od,es,ep,k _ _ (.inr d) e2,c⟩,r⟩
 | own y=>obtain⟨ob,e⟩:=x; exact⟨ob,k _ _ (.inl rfl) e⟩
 | xd fs=>obtain⟨mA,⟨od,es,ep,e,c⟩,r⟩:=x; exact⟨mA,⟨od,es,ep,k _ _ (.inl rfl) e,c⟩,r⟩
 | UR lo hi=>obtain⟨t,u,v,e⟩:=x; exact⟨t,u,v,k _ _ (.inl rfl) e⟩
 | jl ob u ih=>obtain⟨e,q⟩:=x; exact⟨k _ _ (.inl rfl) e,ih q⟩
 | Ra q =>
  obtain⟨ps,e,t,z⟩:=x;refine⟨ps,k _ _ (.inl rfl) e,t,fun pos cv y=>?_⟩;obtain⟨c',e1,e2,c2,oc,vs,tq,e3,e4,r⟩:=z pos cv y;cases e3;exact⟨c',e1,ho _ e2,c',oc,vs,tq,rfl,k _ _ (.inr e2) e4,r⟩
 | met f y =>
  have e:h.get? a=some (wH (.ref f) (.ref y)):=x;show h'.get? a=some (wH (.ref f) (.ref y));exact k a _ (.inl rfl) e
 | ext φ=>obtain⟨p,⟨o,e⟩,st⟩:=x; exact⟨st _ _ p fun o q=>k _ _ (.inl rfl) q,⟨o,k _ _ (.inl rfl) e⟩,st⟩
theorem oB.lt(x:oB P w H h)(e:H a=some o):a < h.objs.size:=(x a o e).lt
theorem oB.fresh(x:oB P w H h)(e:h.objs.size<=a):H a=none:=by
 cases q:H a with
 | none=>rfl
 | some u=>exact absurd (bN (x.lt q) e) (jf _)
theorem oB.kept(x:oB P w H h)(k:∀ b u,h.get? b=some u->h'.get? b=some u):oB P w H h':=fun a o e =>
 (x a o e).ly (fun b u _ q=>k b u q) (fun _ q=>q) fun _ _ q=>q
theorem oB.laid(x:oB P w H h)(k:∀ b u,h.get? b=some u->h'.get? b=some u)(hp:h.objs.size<=a)(new:fB P w (upd H a o) h' a o):oB P w (upd H a o) h':=fun b u e=>by
 have hn:=x.fresh hp;by_cases hb:b=a
 ·subst hb; rw [bY] at e; cases e; exact new
 ·rw [bL hb] at e;exact(x b u e).ly (fun c v _ q=>k c v q) (fun c q=>by rw [bL (dD q hn)]; exact q) fun c xs q=>by rw [bL (dD q hn)]; exact q
end
noncomputable def Rd(H:Hp)(a:Addr)(u:HO):Prop:=H a=some u\/∃ o,H a=some (.jl o u)
theorem Rd.ok{P:bJ}{w:World}{H:Hp}{h:Heap}{a:Addr}{u:HO}(r:Rd H a u)(x:oB P w H h):fB P w H h a u:=by
 rcases r with r | ⟨o,r⟩
 ·exact x a u r
 ·obtain⟨_,q⟩:=x a _ r;exact q
noncomputable def Wf:Option HO->Prop
 | some (.lst _)=>True
 | some (.dK _)=>True
 | some (.dT _)=>True
 | some (.set _ _)=>True
 | some (.ins _ _ _)=>True
 | some (.ext _)=>True
 | _=>False
section
variable {P:bJ} {w:World} {H:Hp} {h h':Heap} {x e:Addr} {o':HO}
theorem oB.write(ok:oB P w H h)(mu:Wf (H x))(he:e=x\/H e=some (.own x))(k:∀ b u,b≠e->h.get? b=some u->h'.get? b=some u)(Ul:∃ u,h'.get? e=some u)
  (new:fB P w (upd H x o') h' x o'):oB P w (upd H x o') h':=fun b u q=>by
 have Ve:∀ c y,H c=some (.own y)->c≠x:=fun c y r z=>by subst z; rw [r] at mu; exact mu
 have XW:∀ c xs,H c=some (.tup xs)->c≠x:=fun c xs r z=>by subst z; rw [r] at mu; exact mu
 by_cases hb:b=x
 ·subst hb; rw [bY] at q; cases q; exact new
 ·rw [bL hb] at q;by_cases Tq:b=e
  ·have q':H b=some (.own x):=by
    rcases he with z | z
    ·exact absurd (Tq.trans z) hb
    ·rw [Tq]; exact z
   rw [q] at q'; cases q';obtain⟨v,hv⟩:=Ul;exact⟨v,by rw [Tq]; exact hv⟩
  ·refine(ok b u q).ly (fun c v hc r=>k c v ?_ r) (fun c r=>by rw [bL (Ve c b r)]; exact r) fun c xs r=>by rw [bL (XW c xs r)]; exact r
   rcases hc with rfl | hc
   ·exact Tq
   ·rintro rfl;rcases he with z | z
    ·exact Ve c b hc z
    ·rw [hc] at z; cases z; exact hb rfl
end
structure Un(fs ex:List Addr)(H H':Hp)(h h':Heap):Prop where
 keep:∀ b o,h.get? b=some o->H b=none->b∉fs->b∉ex->h'.get? b=some o
 slot:∀ b o,h.get? b=some o->H b=none->b∈fs->b∉ex->∃ sl,h'.get? b=some { o with slots:=sl }
 free:∀ b o,h.get? b=some o->H b=none->b∉ex->H' b=none
 there:∀ b o,h.get? b=some o->b∉ex->∃ o',h'.get? b=some o'
 za:∀ b xs,H b=some (.tup xs)->H' b=some (.tup xs)
 ye:∀ b o u,H b=some (.jl o u)->H' b=some (.jl o u)
 zc:∀ b q,H b=some (.Ra q)->H' b=some (.Ra q)
 zf:∀ b x,H b=some (.own x)->H' b=some (.own x)
section
variable {fs fs' ex ex':List Addr} {H H1 H2:Hp} {h h1 h2 h':Heap} {a x e:Addr} {o:HO}
theorem Un.any(u:Un fs ex H H1 h h1){b:Addr}{ob:Obj}(q:h.get? b=some ob)(n:H b=none)(hx:b∉ex):∃ sl,h1.get? b=some { ob with slots:=sl }:=by
 by_cases hb:b∈fs
 ·exact u.slot b ob q n hb hx
 ·exact⟨ob.slots,u.keep b ob q n hb hx⟩
theorem Un.kept(k:∀ b u,h.get? b=some u->h'.get? b=some u):Un fs ex H H h h' :=
 ⟨fun b ob q _ _ _=>k b ob q,fun b ob q _ _ _=>⟨ob.slots,k b ob q⟩,fun _ _ _ n _=>n,fun b ob q _=>⟨ob,k b ob q⟩,fun _ _ q=>q,fun _ _ _ q=>q,fun _ _ q=>q,fun _ _ q=>q⟩
theorem Un.refl:Un fs ex H H h h:=Un.kept fun _ _ q=>q
theorem Un.laid(k:∀ b u,h.get? b=some u->h'.get? b=some u)(hp:h.objs.size<=a)(hn:H a=none):Un fs ex H (upd H a o) h h' where
 keep:=fun b u q _ _ _=>k b u q
 slot:=fun b u q _ _ _=>⟨u.slots,k b u q⟩
 free:=fun b u q n _=>by rw [bL (bK (bN (aU q) hp))]; exact n
 there:=fun b u q _=>⟨u,k b u q⟩
 za:=fun b xs q=>by rw [bL (dD q hn)]; exact q
 ye:=fun b u xs q=>by rw [bL (dD q hn)]; exact q
 zc:=fun b ps q=>by rw [bL (dD q hn)]; exact q
 zf:=fun b ps q=>by rw [bL (dD q hn)]; exact q
theorem Un.write(mu:Wf (H x))(he:e=x\/H e=some (.own x))(k:∀ b u,b≠e->h.get? b=some u->h'.get? b=some u)(Ul:∃ u,h'.get? e=some u):Un fs ex H (upd H x o) h h':=by
 have hx:∀ b,H b=none->b≠x:=fun b n z=>by subst z; rw [n] at mu; exact mu
 have hb:∀ b,H b=none->b≠e:=fun b n z=>by
  subst z;rcases he with r | r
  ·exact hx b n r
  ·rw [n] at r; cases r
 have hm:∀ b u,H b=some u->¬ Wf (some u)->b≠x:=fun b u q nm z=>by subst z; rw [q] at mu; exact nm mu
 refine⟨fun b u q n _ _=>k b u (hb b n) q,fun b u q n _ _=>⟨u.slots,k b u (hb b n) q⟩,fun b u q n _=>by rw [bL (hx b n)]; exact n,fun b u q _=>?_,
  fun b xs q=>by rw [bL (hm b _ q fun z=>z)]; exact q,fun b u xs q=>by rw [bL (hm b _ q fun z=>z)]; exact q,fun b ps q=>by rw [bL (hm b _ q fun z=>z)]; exact q,fun b ps q=>by rw [bL (hm b _ q fun z=>z)]; exact q⟩
 by_cases Tq:b=e
 ·subst Tq; exact Ul
 ·exact⟨u,k b u Tq q⟩
end
noncomputable def Wm(h:Heap)(H:Hp):List Addr:=(ij h.objs.size).filter fun a=>(H a).isSome
noncomputable def By(h:Heap)(H:Hp):Heap:=PySem.W.hideAll h (Wm h H)
theorem Kq(h:Heap)(H:Hp):(By h H).objs.size=h.objs.size:=PySem.W.hideAll_size _ _
theorem NC{h:Heap}{H:Hp}{b:Addr}{o:Obj}(e:h.get? b=some o)(n:H b=none):(By h H).get? b=some o :=
 PySem.W.hideAll_get _ e fun hm=>by
  have q:(H b).isSome=true:=(List.mem_filter.mp hm).2;rw [n] at q; simp at q
theorem P8{h:Heap}{H:Hp}{b:Addr}{o:Obj}(e:(By h H).get? b=some o):h.get? b=some o/\H b=none:=by
 have e':h.get? b=some o:=PySem.W.of_hideAll (Wm h H) e;refine⟨e',?_⟩;cases q:H b with
 | none=>rfl
 | some x =>
  have hm:b∈Wm h H:=List.mem_filter.mpr ⟨List.mem_range.mpr (aU e'),by simp [q]⟩;have z:(By h H).get? b=none:=PySem.W.hideAll_none (Wm h H) hm;rw [z] at e; cases e
noncomputable def qC(g h:Heap)(L:Addr):List (Addr×Obj):=(ij h.objs.size).filterMap fun a=>if a=L\/(g.get? a).isSome=true then none else (h.get? a).map fun o=>(a,o)
theorem vB{g h:Heap}{L a:Addr}{o:Obj}(h1:a≠L)(h2:g.get? a=none)(h3:h.get? a=some o):(a,o)∈qC g h L :=
 List.mem_filterMap.mpr ⟨a,List.mem_range.mpr (aU h3),by simp [h1,h2,h3]⟩
theorem xG{g h:Heap}{L:Addr}{p:Addr×Obj}(hp:p∈qC g h L):p.1≠L/\g.get? p.1=none/\h.get? p.1=some p.2:=by
 obtain⟨b,_,e⟩:=List.mem_filterMap.mp hp;split at e
 ·cases e
 ·rename_i hn;cases q:h.get? b with
  | none=>rw [q] at e; simp at e
  | some u =>
   rw [q] at e;simp only [sk,ur] at e;subst e;refine⟨fun z=>hn (.inl z),?_,q⟩;show g.get? b=none;cases r:g.get? b with
   | none=>rfl
   | some v=>exact(hn (.inr (by simp [r]))).elim
noncomputable def rest(g h:Heap)(L d:Addr):List (Addr×Obj):=(qC g h L).filter fun p=>decide (p.1≠d)
theorem Du{g h:Heap}{L:Addr}:News g L h (qC g h L):=fun p hp=>let ⟨a,b,c⟩:=xG hp; ⟨c,a,b⟩
structure Mod(K:ai)(mg:Str->Option Value)(base:Heap):Prop where
 WC:K.In base
 glob:base.Ns bP mg
 blt:∃ mb,base.Ns builtinsNs mb/\∀ x:Str,x≠"__name__"->mb x=eC x
 nolimit:base.NoLimit
structure Cx where
 prog:bJ
 w:World
 K:ai
 mg:Str->Option Value
 base:Heap
 A:dj
 N:List Str
 lU:av
 OK:Hp
 env:Env
 outer:List Env
 stack:List Env
 ex:List Addr
 fn:Str->Bool
 calm:Bool
 pn:List (Addr×Obj)
 xe:Value->av->Prop
noncomputable def Ll(l:List Env):List Addr:=l.filterMap (·.frame)
noncomputable abbrev Cx.fs(X:Cx):List Addr:=Ll X.outer
noncomputable def WT(sc:Scope)(x:Str):Prop:=sc.names.lookup x=some .local\/sc.names.lookup x=some .cell\/sc.names.lookup x=some .free
noncomputable def Loc(sc:Scope)(x:Str):Prop:=sc.names.lookup x=some .local\/sc.names.lookup x=some .cell
noncomputable def Look(env:Env)(h:Heap)(m:Str->Option Value)(x:Str)(u:Value):Prop :=
 (env.kindOf x=some .local/\m x=some u)\/((env.kindOf x=some .cell\/env.kindOf x=some .free)/\∃ c,env.cells.lookup x=some c/\h.IsCell c (some u))
structure Cx.Ok(X:Cx):Prop where
 mod:Mod X.K X.mg X.base
 kind:X.env.scope.kind=.function
 glob:X.env.globals=bP
 blt:X.env.builtins=builtinsNs
 above:X.lU.heap.objs.size<=X.env.locals
 inj:∀ x y c,X.env.cells.lookup x=some c->X.env.cells.lookup y=some c->x=y
 has:∀ x,(X.env.kindOf x=some .cell\/X.env.kindOf x=some .free)->∃ c,X.env.cells.lookup x=some c
 V5:∀ x c,X.fn x=true->X.env.cells.lookup x=some c->X.lU.heap.objs.size<=c
 hd:X.calm=true->X.A.handled=none
 frames:X.A.frames=some X.stack
 Wo:X.stack=X.outer\/(X.stack=X.env :: X.outer/\X.env.frame=some X.env.locals)
 WQ:∀ b∈X.ex,b≠X.env.locals/\∀ x c,X.env.cells.lookup x=some c->c≠b
 bs:∀ b o,X.base.get? b=some o->X.lU.heap.get? b=some o/\X.OK b=none
 QU:X.base.objs.size<=X.lU.heap.objs.size
 JY:∀ b o,X.base.get? b=some o->b∉X.ex
 N1:∀ b∈X.ex,b∉X.fs
 x9:X.lU.heap.FunFrames X.base X.outer
 Uo:∀ b∈X.fs,X.OK b=none
structure Inv(X:Cx)(pins:List (Addr×Obj))(σ:List (Option V))(H:Hp)(s:av):Prop where
 ok:X.Ok
 os:s.os=X.lU.os
 bare:A0 s.gens
 base:Un X.fs X.ex X.OK H X.lU.heap s.heap
 loc:∃ m,s.heap.Ns X.env.locals m/\∀ (i:Nat) (x:Str) (v:V),X.N[i]?=some x->σ[i]?=some (some v)->WT X.env.scope x->∃ u,RelV v u/\Look X.env s.heap m x u
 cell:∀ x c,X.env.cells.lookup x=some c->∃ v,s.heap.IsCell c v
 free:H X.env.locals=none
 oy:∀ x c,X.env.cells.lookup x=some c->H c=none
 pin:∀ p∈X.pn++pins,s.heap.get? p.1=some p.2/\H p.1=none/\p.1≠X.env.locals/\p.1∉X.fs/\∀ v,p.2.data≠.cell v
 cD:oB X.prog X.w H s.heap
 len:σ.length=X.N.length
section
variable {X:Cx} {pins:List (Addr×Obj)} {σ:List (Option V)} {H H':Hp} {s:av} {h':Heap}
theorem Cx.Ok.XY(ok:X.Ok){b:Addr}{o:Obj}(e:X.base.get? b=some o):b∉X.fs:=fun hb=>by
 have:=(ok.x9.mem hb).1;rw [e] at this; cases this
theorem Inv.bs(I:Inv X pins σ H s):∀ b o,X.base.get? b=some o->s.heap.get? b=some o/\H b=none:=fun b o e =>
 ⟨I.base.keep b o (I.ok.bs b o e).1 (I.ok.bs b o e).2 (I.ok.XY e) (I.ok.JY b o e),I.base.free b o (I.ok.bs b o e).1 (I.ok.bs b o e).2 (I.ok.JY b o e)⟩
theorem Inv.bk(I:Inv X pins σ H s):∀ b o,X.base.get? b=some o->s.heap.get? b=some o:=fun b o e=>(I.bs b o e).1
theorem Inv.mod(I:Inv X pins σ H s):Mod X.K X.mg X.base:=I.ok.mod
theorem Inv.ID(I:Inv X pins σ H s):X.K.In s.heap:=I.ok.mod.WC.keeps I.bk
theorem Inv.fr(I:Inv X pins σ H s):∃ m,Fr X.base X.env.locals s.heap m :=
 let ⟨m,hn,_⟩:=I.loc
 ⟨m,hn,I.bk,aZ I.ok.QU I.ok.above⟩
theorem Inv.lt(I:Inv X pins σ H s):X.env.locals < s.heap.objs.size:=let ⟨_,hn,_⟩:=I.loc; hn.lt
theorem Inv.sz(I:Inv X pins σ H s):X.lU.heap.objs.size<=s.heap.objs.size:=aZ I.ok.above (O4 I.lt)
theorem Inv.XX(I:Inv X pins σ H s){a:Addr}(h:s.heap.objs.size<=a):a∉X.fs:=fun hb=>by
 obtain⟨_,o,ho,_⟩:=I.ok.x9.mem hb;exact absurd (bN (aU ho) (aZ I.sz h)) (jf _)
theorem Inv.TL(I:Inv X pins σ H s):∀ x c,X.env.cells.lookup x=some c->c≠X.env.locals:=fun x c e z=>by
 obtain⟨v,o,ho,hd⟩:=I.cell x c e;obtain⟨m,⟨o',es,ep,Ck,yY,_⟩,_⟩:=I.loc;rw [z,Ck] at ho; cases ho; rw [yY] at hd; cases hd
theorem Inv.x9(I:Inv X pins σ H s):s.heap.FunFrames X.base X.outer:=by
 have all:∀ (l:List Env),(∀ b∈Ll l,b∈X.fs)->X.lU.heap.FunFrames X.base l->s.heap.FunFrames X.base l:=by
  intro l;induction l with
  | nil=>intro _ _; trivial
  | cons env r ih =>
   intro hs hl;obtain⟨hk,⟨L,o,hf,hn,ho,hd⟩,hr⟩:=hl;have hL:L∈X.fs:=hs L (by unfold Ll; rw [vU,hf]; exact cc);obtain⟨sl,e⟩:=I.base.slot L o ho (I.ok.Uo L hL) hL fun z=>I.ok.N1 L z hL;exact⟨hk,⟨L,_,hf,hn,e,hd⟩,ih (fun b hb=>hs b (by unfold Ll; rw [vU,hf]; exact aK _ hb)) hr⟩
 exact all X.outer (fun _ hb=>hb) I.ok.x9
theorem Inv.stack(I:Inv X pins σ H s):s.heap.FunFrames X.base X.stack:=by
 rcases I.ok.Wo with e | ⟨e,hf⟩
 ·rw [e]; exact I.x9
 ·rw [e];obtain⟨m,hn,_⟩:=I.loc;refine .cons (by rw [I.ok.kind]; decide) hf hn ?_ I.x9;exact O7 (aZ I.ok.QU I.ok.above)
theorem Inv.Ft(I:Inv X pins σ H s):∀ b∈Ll X.stack,b∈X.env.locals :: X.fs:=fun b hb=>by
 rcases I.ok.Wo with e | ⟨e,hf⟩
 ·rw [e] at hb; exact aK _ hb
 ·rw [e] at hb;unfold Ll at hb;rw [vU,hf] at hb;exact hb
theorem Inv.HG(I:Inv X pins σ H s):∀ b∈Ll X.stack,H b=none:=fun b hb=>by
 rcases List.mem_cons.mp (I.Ft b hb) with e | hb
 ·rw [e]; exact I.free
 ·obtain⟨_,o,ho,_⟩:=I.ok.x9.mem hb;exact I.base.free b o ho (I.ok.Uo b hb) fun z=>I.ok.N1 b z hb
theorem Inv.step{g':Array GenState}{t':Nat}{d':Drawn}{ch:List Addr}(I:Inv X pins σ H s)
  (RL:∀ b∈ch,(b∈X.ex\/X.lU.heap.objs.size<=b)/\b≠X.env.locals/\(∀ x c,X.env.cells.lookup x=some c->c≠b)/\∀ p∈X.pn++pins,p.1≠b)
  (keep:∀ b o,b≠X.env.locals->b∉X.fs->b∉ch->s.heap.get? b=some o->H b=none->h'.get? b=some o)
  (slot:∀ b o,b≠X.env.locals->b∈X.fs->b∉ch->s.heap.get? b=some o->H b=none->∃ sl,h'.get? b=some { o with slots:=sl }) (free:∀ b o,b∉ch->s.heap.get? b=some o->H b=none->H' b=none)
  (there:∀ b o,b∉ch->s.heap.get? b=some o->∃ o',h'.get? b=some o')
  (za:∀ b xs,H b=some (.tup xs)->H' b=some (.tup xs)) (ye:∀ b o u,H b=some (.jl o u)->H' b=some (.jl o u)) (zc:∀ b q,H b=some (.Ra q)->H' b=some (.Ra q)) (zf:∀ b x,H b=some (.own x)->H' b=some (.own x))
  (ns:∀ m,s.heap.Ns X.env.locals m->h'.Ns X.env.locals m) (cD:oB X.prog X.w H' h') (hg:A0 g') :
  Inv X pins σ H' { s with heap:=h',gens:=g',drawn:=d',toks:=t' }:=by
 have Z3:∀ b o,X.lU.heap.get? b=some o->b≠X.env.locals:=fun b o e=>bK (bN (aU e) I.ok.above);have Wz:∀ b o,X.lU.heap.get? b=some o->b∉X.ex->b∉ch:=fun b o e hx hb=>by
  rcases (RL b hb).1 with z | z
  ·exact hx z
  ·exact absurd (bN (aU e) z) (jf _)
 have cellK:∀ x c,X.env.cells.lookup x=some c->∀ v,s.heap.IsCell c v->h'.IsCell c v:=fun x c e v ⟨o,ho,hd⟩=>by
  have Vi:c∉ch:=fun z=>(RL c z).2.2.1 x c e rfl;by_cases hc:c∈X.fs
  ·obtain⟨sl,q⟩:=slot c o (I.TL x c e) hc Vi ho (I.oy x c e);exact⟨_,q,hd⟩
  ·exact⟨o,keep c o (I.TL x c e) hc Vi ho (I.oy x c e),hd⟩
 refine⟨I.ok,I.os,hg,⟨fun b o e n hb hx=>?_,fun b o e n hb hx=>?_,fun b o e n hx=>?_,fun b o e hx=>?_,fun b xs e=>za b xs (I.base.za b xs e),fun b o xs e=>ye b o xs (I.base.ye b o xs e),fun b ps e=>?_,fun b x e=>zf b x (I.base.zf b x e)⟩,?_,fun x c e=>?_,?_,fun x c e=>?_,fun p hp=>?_,cD,I.len⟩
 ·exact keep b o (Z3 b o e) hb (Wz b o e hx) (I.base.keep b o e n hb hx) (I.base.free b o e n hx)
 ·obtain⟨sl,e1⟩:=I.base.slot b o e n hb hx;obtain⟨sl',e2⟩:=slot b _ (Z3 b o e) hb (Wz b o e hx) e1 (I.base.free b o e n hx);exact⟨sl',e2⟩
 ·obtain⟨o',e1⟩:=I.base.there b o e hx;exact free b o' (Wz b o e hx) e1 (I.base.free b o e n hx)
 ·obtain⟨o',e1⟩:=I.base.there b o e hx;exact there b o' (Wz b o e hx) e1
 ·exact zc b _ (I.base.zc b ps e)
 ·obtain⟨m,hn,hl⟩:=I.loc;refine⟨m,ns m hn,fun i x v e1 e2 e3=>?_⟩;obtain⟨u,r,l⟩:=hl i x v e1 e2 e3;refine⟨u,r,?_⟩;rcases l with l | ⟨k,c,e,z⟩
  ·exact .inl l
  ·exact .inr ⟨k,c,e,cellK x c e _ z⟩
 ·obtain⟨v,z⟩:=I.cell x c e;exact⟨v,cellK x c e v z⟩
 ·obtain⟨m,⟨o,_,_,ho,_⟩,_⟩:=I.loc;exact free _ o (fun z=>(RL _ z).2.1 rfl) ho I.free
 ·obtain⟨v,o,ho,hd⟩:=I.cell x c e;exact free c o (fun z=>(RL c z).2.2.1 x c e rfl) ho (I.oy x c e)
 ·obtain⟨e,n,ne,nf,d⟩:=I.pin p hp;have Vi:p.1∉ch:=fun z=>(RL p.1 z).2.2.2 p hp rfl;exact⟨keep p.1 p.2 ne nf Vi e n,free p.1 p.2 Vi e n,ne,nf,d⟩
theorem Inv.un{t':Nat}(I:Inv X pins σ H s)(u:Un X.fs [] H H' s.heap h')(cD:oB X.prog X.w H' h'):Inv X pins σ H' { s with heap:=h',toks:=t' }:=by
 obtain⟨m,⟨o,es,ep,ho,r⟩,_⟩:=id I.loc;obtain⟨sl,hL⟩:=u.any ho I.free (by simp);exact I.step (g':=s.gens) (d':=s.drawn) (ch:=[]) (fun _ z=>nomatch z) (fun b o _ hb _ e n=>u.keep b o e n hb (by simp)) (fun b o _ hb _ e n=>u.slot b o e n hb (by simp)) (fun b o _ e n=>u.free b o e n (by simp)) (fun b o _ e=>u.there b o e (by simp)) u.za u.ye u.zc u.zf (fun m' hm=>by
  obtain⟨o',Ze,Zg,Ck,r'⟩:=hm;rw [ho] at Ck; cases Ck;exact⟨_,Ze,Zg,hL,r'⟩) cD I.bare
theorem Inv.call{g':Array GenState}{t':Nat}{d':Drawn}{ch:List Addr}(I:Inv X pins σ H s)(u:Un (Ll X.stack) ch H H' s.heap h')(cD:oB X.prog X.w H' h')(hg:A0 g')
  (RL:∀ b∈ch,(b∈X.ex\/X.lU.heap.objs.size<=b)/\b≠X.env.locals/\(∀ x c,X.env.cells.lookup x=some c->c≠b)/\∀ p∈X.pn++pins,p.1≠b) :
  Inv X pins σ H' { s with heap:=h',gens:=g',drawn:=d',toks:=t' }:=by
 obtain⟨m,⟨o,es,ep,ho,r⟩,_⟩:=id I.loc;obtain⟨sl,hL⟩:=u.any ho I.free fun z=>(RL _ z).2.1 rfl;exact I.step (ch:=ch) RL (fun b o hL hb hc e n=>u.keep b o e n (fun z=>(List.mem_cons.mp (I.Ft b z)).elim hL hb) hc) (fun b o _ _ hc e n=>u.any e n hc) (fun b o hc e n=>u.free b o e n hc) (fun b o hc e=>u.there b o e hc) u.za u.ye u.zc u.zf (fun m' hm=>by
  obtain⟨o',Ze,Zg,Ck,r'⟩:=hm;rw [ho] at Ck; cases Ck;exact⟨_,Ze,Zg,hL,r'⟩) cD hg
theorem Inv.turned{t':Nat}{it:Addr}(I:Inv X pins σ H s)(k:∀ b o,b≠it->s.heap.get? b=some o->h'.get? b=some o)(hn:H it=none)(hL:it≠X.env.locals)
  (h1:it∈X.ex\/X.lU.heap.objs.size<=it) (h2:∀ x c,X.env.cells.lookup x=some c->c≠it) (h3:∀ p∈X.pn++pins,p.1≠it):Inv X pins σ H { s with heap:=h',toks:=t' }:=by
 have Z2:∀ b u,H b=some u->b≠it:=fun b u e z=>by rw [z,hn] at e; cases e
 refine I.step (g':=s.gens) (d':=s.drawn) (ch:=[it]) (fun b hb=>?_) (fun b o _ _ hc e _=>k b o (fun z=>hc (by simp [z])) e) (fun b o _ _ hc e _=>⟨o.slots,k b o (fun z=>hc (by simp [z])) e⟩) (fun _ _ _ _ n=>n)
  (fun b o hc e=>⟨o,k b o (fun z=>hc (by simp [z])) e⟩) (fun _ _ e=>e) (fun _ _ _ e=>e) (fun _ _ e=>e) (fun _ _ e=>e) (fun m hm=>?_) (fun b u e=>?_) I.bare
 ·have e:b=it:=by simpa using hb
  subst e;exact⟨h1,hL,h2,h3⟩
 ·obtain⟨o,es,ep,ho,r⟩:=hm;exact⟨o,es,ep,k _ o (gf hL) ho,r⟩
 ·refine(I.cD b u e).ly (fun c v hc q=>k c v ?_ q) (fun _ q=>q) fun _ _ q=>q;rcases hc with z | z
  ·rw [z]; exact Z2 b u e
  ·exact Z2 c _ z
theorem Inv.tok(I:Inv X pins σ H s)(t:Nat):Inv X pins σ H { s with toks:=t }:=I.un (h':=s.heap) (t':=t) Un.refl I.cD
theorem Inv.kept{t':Nat}(I:Inv X pins σ H s)(k:∀ b u,s.heap.get? b=some u->h'.get? b=some u):Inv X pins σ H { s with heap:=h',toks:=t' }:=I.un (Un.kept k) (I.cD.kept k)
theorem Inv.laid{a:Addr}{o:HO}{t':Nat}(I:Inv X pins σ H s)(k:∀ b u,s.heap.get? b=some u->h'.get? b=some u)(hp:s.heap.objs.size<=a)(new:fB X.prog X.w (upd H a o) h' a o) :
  Inv X pins σ (upd H a o) { s with heap:=h',toks:=t' }:=I.un (Un.laid k hp (I.cD.fresh hp)) (I.cD.laid k hp new)
theorem Inv.write{x e:Addr}{o:HO}{t':Nat}(I:Inv X pins σ H s)(mu:Wf (H x))(he:e=x\/H e=some (.own x))(k:∀ b u,b≠e->s.heap.get? b=some u->h'.get? b=some u)(Ul:∃ u,h'.get? e=some u)
  (new:fB X.prog X.w (upd H x o) h' x o):Inv X pins σ (upd H x o) { s with heap:=h',toks:=t' }:=I.un (Un.write mu he k Ul) (I.cD.write mu he k Ul new)
theorem Inv.Ii{Rl:List (Addr×Obj)}(I:Inv X pins σ H s)(h:∀ p∈Rl,s.heap.get? p.1=some p.2/\H p.1=none/\p.1≠X.env.locals/\p.1∉X.fs/\∀ v,p.2.data≠.cell v):Inv X Rl σ H s :=
 ⟨I.ok,I.os,I.bare,I.base,I.loc,I.cell,I.free,I.oy,fun p hp=>(List.mem_append.mp hp).elim (fun z=>I.pin p (mC _ z)) (h p),I.cD,I.len⟩
theorem Ds{N:List Str}(hN:N.Nodup){i j:Nat}{x:Str}(a:N[i]?=some x)(b:N[j]?=some x):i=j:=by
 obtain⟨h1,e1⟩:=List.getElem?_eq_some_iff.mp a;obtain⟨h2,e2⟩:=List.getElem?_eq_some_iff.mp b;exact(List.getElem_inj hN).mp (e1.trans e2.symm)
theorem zK{M:Model}{A:dj}{E:Value->av->Prop}{i:Nat}{x:Str}{v:V}{u:Value}{Q:Unit->av->Prop}(I:Inv X pins σ H s)(hN:X.N.Nodup)(hi:X.N[i]?=some x)(hx:Loc X.env.scope x)(r:RelV v u)
  (h:∀ s',Inv X pins (σ.set i (some v)) H s'->(∃ a,fc a s.heap s'.heap/\(a=X.env.locals\/X.env.cells.lookup x=some a))->Q () s') (hf:autoParam (X.fn x=true\/X.env.scope.names.lookup x=some .local) Ao._auto_1):wpAny M A (storeName X.env x u) Q E s:=by
 obtain⟨m,hn,hl⟩:=id I.loc;have Y3:(X.env.scope.kind == .class||(X.env.scope.kind == .module&&X.env.locals != X.env.globals))=false:=by rw [I.ok.kind]; rfl
 have VG:i < σ.length:=by rw [I.len]; exact(List.getElem?_eq_some_iff.mp hi).1
 have TL:=I.TL;have tracked:∀ {a:Addr} {h':Heap},(∃ o,s.heap.get? a=some o/\H a=none)->fc a s.heap h'->oB X.prog X.w H h':=fun {a h'} ha hs b ob e=>by
  obtain⟨_,_,ou⟩:=ha;refine(I.cD b ob e).ly (fun c w' hc q=>(hs.2 c ?_).trans q) (fun _ q=>q) fun _ _ q=>q;rintro rfl;rcases hc with rfl | hc
  ·rw [ou] at e; cases e
  ·rw [ou] at hc; cases hc
 rcases hx with hk | hk
 ·refine wpAny_storeName_local hk hn (fun h' YM hs=>?_) Y3;obtain⟨oL,_,_,hoL,_⟩:=id hn;refine h _ ⟨I.ok,I.os,I.bare,⟨fun b o e n hb hx=>?_,fun b o e n hb hx=>?_,I.base.free,fun b o e hx=>?_,I.base.za,I.base.ye,I.base.zc,I.base.zf⟩,⟨_,YM,fun j y v' e1 e2 e3=>?_⟩,fun y c e=>?_,I.free,I.oy,fun p hp=>?_,tracked ⟨oL,hoL,I.free⟩ hs,by simpa using I.len⟩ ⟨_,hs,.inl rfl⟩
  ·exact(hs.2 b (bK (bN (aU e) I.ok.above))).trans (I.base.keep b o e n hb hx)
  ·obtain⟨sl,e1⟩:=I.base.slot b o e n hb hx;exact⟨sl,(hs.2 b (bK (bN (aU e) I.ok.above))).trans e1⟩
  ·obtain⟨o',e1⟩:=I.base.there b o e hx;exact⟨o',(hs.2 b (bK (bN (aU e) I.ok.above))).trans e1⟩
  ·by_cases hj:j=i
   ·subst hj;rw [hi] at e1; cases e1;rw [cT VG] at e2;cases e2;exact⟨u,r,.inl ⟨hk,by simp⟩⟩
   ·rw [eE (gf hj)] at e2;obtain⟨u',r',q⟩:=hl j y v' e1 e2 e3;refine⟨u',r',?_⟩;rcases q with ⟨k,e⟩ | ⟨k,c,e,z⟩
    ·refine .inl ⟨k,?_⟩;have:y≠x:=fun e=>hj (Ds hN e1 (e ▸ hi));simp [this,e]
    ·exact .inr ⟨k,c,e,z.sameBut hs (TL y c e)⟩
  ·obtain⟨w',z⟩:=I.cell y c e;exact⟨w',z.sameBut hs (TL y c e)⟩
  ·obtain⟨e,n,ne,nf,d⟩:=I.pin p hp;exact⟨(hs.2 p.1 ne).trans e,n,ne,nf,d⟩
 ·have YW:X.fn x=true:=by
   rcases hf with z | z
   ·exact z
   ·rw [z] at hk; cases hk
  obtain⟨c,hc⟩:=I.ok.has x (.inl hk);obtain⟨w',z⟩:=I.cell x c hc;refine wpAny_storeName_cell I.ok.kind hk hc z (fun h' RM hs=>?_);obtain⟨oc,Uj,YI⟩:=id z;refine h { s with heap:=h' } ⟨I.ok,I.os,I.bare,⟨fun b o e n hb hx=>?_,fun b o e n hb hx=>?_,I.base.free,fun b o e hx=>?_,I.base.za,I.base.ye,I.base.zc,I.base.zf⟩,⟨m,hn.sameBut hs (gf (TL x c hc)),fun j y v' e1 e2 e3=>?_⟩,fun y c' e=>?_,I.free,I.oy,fun p hp=>?_,tracked ⟨oc,Uj,I.oy x c hc⟩ hs,by simpa using I.len⟩ ⟨c,hs,.inr hc⟩
  ·exact(hs.2 b (bK (bN (aU e) (I.ok.V5 x c YW hc)))).trans (I.base.keep b o e n hb hx)
  ·obtain⟨sl,e1⟩:=I.base.slot b o e n hb hx;exact⟨sl,(hs.2 b (bK (bN (aU e) (I.ok.V5 x c YW hc)))).trans e1⟩
  ·obtain⟨o',e1⟩:=I.base.there b o e hx;exact⟨o',(hs.2 b (bK (bN (aU e) (I.ok.V5 x c YW hc)))).trans e1⟩
  ·by_cases hj:j=i
   ·subst hj;rw [hi] at e1; cases e1;rw [cT VG] at e2;cases e2;exact⟨u,r,.inr ⟨.inl hk,c,hc,RM⟩⟩
   ·rw [eE (gf hj)] at e2;obtain⟨u',r',q⟩:=hl j y v' e1 e2 e3;refine⟨u',r',?_⟩;rcases q with q | ⟨k,c',e,z'⟩
    ·exact .inl q
    ·refine .inr ⟨k,c',e,z'.sameBut hs ?_⟩;rintro rfl;exact hj (Ds hN e1 (I.ok.inj _ _ _ e hc ▸ hi))
  ·by_cases hcc:c'=c
   ·subst hcc; exact⟨_,RM⟩
   ·obtain⟨w2,z2⟩:=I.cell y c' e;exact⟨w2,z2.sameBut hs hcc⟩
  ·obtain⟨e,n,ne,nf,d⟩:=I.pin p hp;refine⟨(hs.2 p.1 ?_).trans e,n,ne,nf,d⟩;intro q;rw [q,Uj] at e;have q':oc=p.2:=aX e;exact d w' (by rw [<-q']; exact YI)
theorem CM{M:Model}{A:dj}{E:Value->av->Prop}{i:Nat}{x:Str}{v:V}{u:Value}{Q:Unit->av->Prop}(I:Inv X pins σ H s)(hN:X.N.Nodup)(hi:X.N[i]?=some x)(hx:Loc X.env.scope x)(r:RelV v u)
  (h:∀ s',Inv X pins (σ.set i (some v)) H s'->Q () s') (hf:autoParam (X.fn x=true\/X.env.scope.names.lookup x=some .local) Ao._auto_1):wpAny M A (storeName X.env x u) Q E s :=
 zK I hN hi hx r (fun s' I' _=>h s' I') hf
end
noncomputable abbrev XK:=Value->Option Addr->Hp->Prop
noncomputable abbrev St:=List (Option V)
noncomputable abbrev VK:=V->Hp->Prop
noncomputable abbrev TE:=St->Hp->VK->Prop
noncomputable abbrev TT:=St->Hp->(Bool->Hp->Prop)->Prop
noncomputable abbrev TA:=St->Hp->(List V->Hp->Prop)->Prop
structure Ends where
 nx:St->Hp->Prop
 rt:VK
 bk:St->Hp->Prop:=fun _ _=>False
 ct:St->Hp->Prop:=fun _ _=>False
noncomputable abbrev TS:=Ends->St->Hp->Prop
noncomputable def EP(X:Cx)(pins:List (Addr×Obj))(σ:St)(Q:VK)(u:Value)(s':av):Prop:=∃ v H',Inv X pins σ H' s'/\RelV v u/\Q v H'
noncomputable def TP(X:Cx)(pins:List (Addr×Obj))(σ:St)(Q:Bool->Hp->Prop)(b:Bool)(s':av):Prop:=∃ H',Inv X pins σ H' s'/\Q b H'
noncomputable def SP(X:Cx)(pins:List (Addr×Obj))(D:Ends)(f:Flow)(s':av):Prop :=
 match f with
 | .next=>∃ jb H',Inv X pins jb H' s'/\D.nx jb H'
 | .brk=>∃ jb H',Inv X pins jb H' s'/\D.bk jb H'
 | .cont=>∃ jb H',Inv X pins jb H' s'/\D.ct jb H'
 | .ret u=>∃ v jb H',Inv X pins jb H' s'/\RelV v u/\D.rt v H'
noncomputable def PE(X:Cx)(e:Expr)(t:TE):Prop :=
 ∀ (pins:List (Addr×Obj)) (s:av) (σ:St) (H:Hp) (Q:VK),Inv X pins σ H s->t σ H Q->wpAny (model X.prog X.w) X.A (eval e X.env) (EP X pins σ Q) X.xe s
noncomputable def Ut(X:Cx)(st:List Stmt)(t:TS):Prop :=
 ∀ (pins:List (Addr×Obj)) (s:av) (σ:St) (H:Hp) (D:Ends),Inv X pins σ H s->t D σ H->wpAny (model X.prog X.w) X.A (execs st X.env) (SP X pins D) X.xe s
theorem gB{α:Type}{t:Sem α}{Q Q':α->av->Prop}{M:Model}{A:dj}{E:Value->av->Prop}{s:av}(h:wpAny M A t Q E s)(hQ:∀ a s,Q a s->Q' a s):wpAny M A t Q' E s:=wpAny_mono h hQ fun _ _ x=>x
section
variable {X:Cx}
noncomputable def Xj(i:Nat):TE:=fun σ H Q=>∃ v,σ[i]?=some (some v)/\Q v H
noncomputable def tC(v:V):TE:=fun _ H Q=>Q v H
theorem SO {i:Nat} {x:Str} {pos:Pos} (hN:X.N[i]?=some x) (hv:WT X.env.scope x) (hd:autoParam ((x == ("__debug__" : Str))=false) Ad._auto_1) (IS:autoParam ((x == ("__classdict__" : Str))=false) Ad._auto_1):PE X (.Name x pos) (Xj i):=by
 intro pins s σ H Q I h;obtain⟨v,e,h⟩:=h;obtain⟨m,hn,hl⟩:=I.loc;obtain⟨u,r,l⟩:=hl i x v hN e hv;have fin:EP X pins σ Q u s:=⟨v,H,I,r,h⟩;rcases l with ⟨hk,hm⟩ | ⟨hk,c,hc,ow⟩
 ·exact wpAny_Name (wpAny_loadName_local I.ok.kind hk hn hm fin) hd
 ·rcases hk with hk | hk
  ·exact wpAny_Name (wpAny_loadName_cell I.ok.kind hk hc ow fin) hd
  ·exact wpAny_Name (wpAny_loadName_free I.ok.kind hk hc ow fin IS) hd
theorem SQ{i j pos}:PE X (.Constant (.int i) j pos) (tC (.int i)):=fun _ _ _ H _ I h=>wpAny_Constant_int ⟨.int i,H,I.tok _,⟨_,rfl⟩,h⟩
theorem UZ{b j pos}:PE X (.Constant (.bool b) j pos) (tC (.bl b)):=fun _ _ _ H _ I h=>Constant_bool ⟨.bl b,H,I,rfl,h⟩
noncomputable def Gl(X:Cx)(x:Str):Prop:=X.env.kindOf x=some .globalImplicit
theorem Bs{E:Value->av->Prop}{pins:List (Addr×Obj)}{s:av}{σ:St}{H:Hp}{x:Str}{u:Value}{pos:Pos}{Q:Value->av->Prop}(I:Inv X pins σ H s)(hg:Gl X x)(hm:X.mg x=some u)(h:Q u s)
  (hd:autoParam ((x == ("__debug__" : Str))=false) Ad._auto_1):wpAny (model X.prog X.w) X.A (eval (.Name x pos) X.env) Q E s :=
 EU I.ok.kind hg (Calls.loadGlobal_global (by rw [I.ok.glob]; exact I.mod.glob.keeps I.bk) hm h) hd
theorem rJ{E:Value->av->Prop}{pins:List (Addr×Obj)}{s:av}{σ:St}{H:Hp}{x:Str}{u:Value}{pos:Pos}{Q:Value->av->Prop}(I:Inv X pins σ H s)(hg:Gl X x)(hm:X.mg x=none)(hv:eC x=some u)(h:Q u s)
  (hn:autoParam (x≠"__name__") Ad._auto_1) (hd:autoParam ((x == ("__debug__" : Str))=false) Ad._auto_1):wpAny (model X.prog X.w) X.A (eval (.Name x pos) X.env) Q E s:=by
 obtain⟨mb,h1,h2⟩:=I.mod.blt;exact EU I.ok.kind hg (Calls.loadGlobal_builtin (by rw [I.ok.glob]; exact I.mod.glob.keeps I.bk) hm (by rw [I.ok.blt]; exact h1.keeps I.bk) ((h2 x hn).trans hv) h) hd
theorem PQ {x:Str} {v:V} {u:Value} {pos:Pos} (hg:Gl X x) (hm:X.mg x=some u) (r:RelV v u) (hd:autoParam ((x == ("__debug__" : Str))=false) Ad._auto_1):PE X (.Name x pos) (tC v) :=
 fun _ _ _ H _ I h=>Bs I hg hm ⟨v,H,I,r,h⟩ hd
variable {a b:Expr} {ta tb:TE} {pos:Pos}
noncomputable def tB(t:TE):TT:=fun σ H Q=>t σ H fun x H1=>∃ c,x=.bl c/\Q c H1
variable {tA tB':TT} {rest:List Expr}
end
noncomputable def qc(K:ai)(H:Hp)(a:Addr)(xs:List V):Prop :=
 Rd H a (.lst xs) \/
  ∃ (o:Obj) (bS:Array Value) (n:Nat),K.lookup a=some o/\o.cls=.type "list"/\o.dict=none/\o.data=.seq bS n/\bS.size<=a8/\Vals xs bS.toList
noncomputable def wo(K:ai)(H:Hp)(a:Addr)(xs:List V):Prop :=
 Rd H a (.tup xs) \/
  ∃ (o:Obj) (bS:Array Value) (n:Nat),K.lookup a=some o/\o.cls=.type "tuple"/\o.data=.seq bS n/\bS.size<=a8/\Vals xs bS.toList
noncomputable def Zs:Value->Option V
 | .none=>some .eh
 | .bool b=>some (.bl b)
 | .int i _=>some (.int i)
 | .str x _=>some (.str x)
 | .bytes b _=>some (.TQ b)
 | .float b _=>some (.VX b)
 | .ref a=>some (.ref a)
 | .type n=>some (.ty n)
 | _=>none
theorem RelV.abs{x:V}{u:Value}(r:RelV x u):Zs u=some x:=by
 cases x with
 | eh=>cases r; rfl
 | bl _=>cases r; rfl
 | int _=>obtain⟨t,rfl⟩:=r; rfl
 | str _=>obtain⟨t,rfl⟩:=r; rfl
 | TQ _=>obtain⟨t,rfl⟩:=r; rfl
 | VX _=>obtain⟨t,rfl⟩:=r; rfl
 | ref _=>cases r; rfl
 | ty _=>cases r; rfl
theorem RelV.inj{x y:V}{u:Value}(r:RelV x u)(q:RelV y u):x=y:=aX (r.abs.symm.trans q.abs)
theorem Vals.inj:∀ {xs ys:List V} {us:List Value},Vals xs us->Vals ys us->xs=ys:=by
 intro xs ys us h;induction h generalizing ys with
 | nil=>intro k; cases k; rfl
 | cons r t ih =>
  intro k;cases k with
  | cons r' t'=>rw [r.inj r',ih t']
section
variable {X:Cx} {pins:List (Addr×Obj)} {σ:St} {H:Hp} {s:av} {a:Addr} {xs ys:List V}
theorem qc.of{K:ai}(h:H a=some (.lst xs)):qc K H a xs:=.inl (.inl h)
theorem wo.of{K:ai}(h:H a=some (.tup xs)):wo K H a xs:=.inl (.inl h)
theorem Inv.list(I:Inv X pins σ H s)(h:qc X.K H a xs):∃ bS:List Value,Vals xs bS/\PlainL s.heap a bS.toArray/\xs.length<=a8:=by
 rcases h with h | ⟨o,bS,n,hk,hc,hd,hs,hz,r⟩
 ·obtain⟨z,bS,n,r,e⟩:=h.ok I.cD;exact⟨bS,r,⟨_,n,e,rfl,rfl,rfl⟩,z⟩
 ·refine⟨bS.toList,r,⟨o,n,I.ID a o hk,hc,hd,by simpa using hs⟩,?_⟩;have e:=r.length;simp only [eP] at e;lia
theorem Inv.tuple(I:Inv X pins σ H s)(h:wo X.K H a xs):∃ bS:List Value,Vals xs bS/\IsTup s.heap a bS.toArray/\xs.length<=a8:=by
 rcases h with h | ⟨o,bS,n,hk,hc,hs,hz,r⟩
 ·obtain⟨z,bS,r,p⟩:=h.ok I.cD;exact⟨bS,r,p,z⟩
 ·refine⟨bS.toList,r,⟨o,I.ID a o hk,hc,n,by simpa using hs⟩,?_⟩;have e:=r.length;simp only [eP] at e;lia
theorem Inv.xV(I:Inv X pins σ H s)(h:qc X.K H a xs)(h':qc X.K H a ys):xs=ys:=by
 obtain⟨bS,r,⟨o,n,e,_,_,d⟩,_⟩:=I.list h;obtain⟨its',r',⟨o',n',e',_,_,d'⟩,_⟩:=I.list h';rw [e] at e'; cases e';rw [d] at d';injection d' with d1 _
 have:bS=its':=by simpa using congrArg Array.toList d1
 subst this;exact r.inj r'
theorem Inv.Jz(I:Inv X pins σ H s)(h:wo X.K H a xs)(h':wo X.K H a ys):xs=ys:=by
 obtain⟨bS,r,⟨o,e,_,n,d⟩,_⟩:=I.tuple h;obtain⟨its',r',⟨o',e',_,n',d'⟩,_⟩:=I.tuple h';rw [e] at e'; cases e';rw [d] at d';injection d' with d1 _
 have:bS=its':=by simpa using congrArg Array.toList d1
 subst this;exact r.inj r'
end
noncomputable abbrev Cx.y9(X:Cx)(E:Value->av->Prop):Cx:={ X with xe:=E }
noncomputable abbrev Cx.Ue(X:Cx):Cx:=X.y9 fun _ _=>False
theorem Cx.Ok.y9{X:Cx}(ok:X.Ok)(E:Value->av->Prop):(X.y9 E).Ok :=
 ⟨ok.mod,ok.kind,ok.glob,ok.blt,ok.above,ok.inj,ok.has,ok.V5,ok.hd,ok.frames,ok.Wo,ok.WQ,ok.bs,ok.QU,ok.JY,ok.N1,ok.x9,ok.Uo⟩
theorem Cx.Ok.o8{X:Cx}{E:Value->av->Prop}(ok:(X.y9 E).Ok):X.Ok :=
 ⟨ok.mod,ok.kind,ok.glob,ok.blt,ok.above,ok.inj,ok.has,ok.V5,ok.hd,ok.frames,ok.Wo,ok.WQ,ok.bs,ok.QU,ok.JY,ok.N1,ok.x9,ok.Uo⟩
section
variable {X:Cx} {pins:List (Addr×Obj)} {σ:St} {H:Hp} {s:av} {E:Value->av->Prop}
theorem Inv.y9(I:Inv X pins σ H s)(E:Value->av->Prop):Inv (X.y9 E) pins σ H s:=⟨I.ok.y9 E,I.os,I.bare,I.base,I.loc,I.cell,I.free,I.oy,I.pin,I.cD,I.len⟩
theorem Inv.o8(I:Inv (X.y9 E) pins σ H s):Inv X pins σ H s:=⟨I.ok.o8,I.os,I.bare,I.base,I.loc,I.cell,I.free,I.oy,I.pin,I.cD,I.len⟩
theorem SP.o8{D:Ends}{f:Flow}{s':av}(h:SP (X.y9 E) pins D f s'):SP X pins D f s':=by
 cases f with
 | next=>obtain⟨jb,H',I,q⟩:=h; exact⟨jb,H',I.o8,q⟩
 | brk=>obtain⟨jb,H',I,q⟩:=h; exact⟨jb,H',I.o8,q⟩
 | cont=>obtain⟨jb,H',I,q⟩:=h; exact⟨jb,H',I.o8,q⟩
 | ret u=>obtain⟨v,jb,H',I,r,q⟩:=h; exact⟨v,jb,H',I.o8,r,q⟩
theorem Ut.Ue{st:List Stmt}{t:TS}(h:Ut X.Ue st t):Ut X st t:=fun pins s σ H D I hw =>
 wpAny_mono (h pins s σ H D (I.y9 _) hw) (fun _ _ q=>q.o8) fun _ _ z=>bO z
end
section
variable {X:Cx} {st:Stmt} {rest:List Stmt} {t u:TS} {e:Expr} {te:TE} {pos:Pos}
theorem Inv.quiet{pins:List (Addr×Obj)}{σ:St}{H:Hp}{s:av}(I:Inv X pins σ H s):interactive X.env=false:=by simp [interactive,I.ok.kind]
end
noncomputable abbrev Zu:=V->V->V->Hp->(Hp->Prop)->Prop
noncomputable def Zw(X:Cx)(t:Zu):Prop :=
 ∀ (pins:List (Addr×Obj)) (s:av) (σ:St) (H:Hp) (o i v:V) (ov iv u:Value) (Q:Hp->Prop),Inv X pins σ H s->RelV o ov->RelV i iv->RelV v u->t o i v H Q ->
  wpAny (model X.prog X.w) X.A (setItem ov iv u) (fun _ s'=>∃ H',Inv X pins σ H' s'/\Q H') X.xe s
structure It where
 go:Nat->Hp->Prop
 ZI:Nat->Hp->V->Hp->Prop
 stop:Nat->Hp->Prop
noncomputable def mP(X:Cx)(pins:List (Addr×Obj))(H:Hp)(b:Addr):Prop :=
 H b=none/\b≠X.env.locals/\b∉X.fs/\(b∈X.ex\/X.lU.heap.objs.size<=b)/\(∀ x c,X.env.cells.lookup x=some c->c≠b)/\∀ p∈X.pn++pins,p.1≠b
theorem Inv.BB{X:Cx}{pins:List (Addr×Obj)}{σ:St}{H H':Hp}{s:av}{b:Addr}(I:Inv X pins σ H s)(hb:s.heap.objs.size<=b)(hn:H' b=none):mP X pins H' b:=by
 refine⟨hn,Nat.ne_of_gt (bN I.lt hb),I.XX hb,.inr (aZ I.sz hb),fun x c e z=>?_,fun p hp z=>?_⟩
 ·obtain⟨v,q⟩:=I.cell x c e;exact absurd (bN q.lt (by rw [z]; exact hb)) (jf _)
 ·exact absurd (bN (aU (I.pin p hp).1) (by rw [z]; exact hb)) (jf _)
structure Turn(P:bJ)(w:World)(K:ai)(tg:Expr)(J:It)(fp:List Addr)(it:Addr)(tn:Nat->Heap->Prop):Prop where
 mem:it∈fp
 obj:∀ i h,tn i h->∀ b∈fp,∃ o,h.get? b=some o/\∀ v,o.data≠.cell v
 keep:∀ i h h',tn i h->(∀ b∈fp,∀ o,h.get? b=some o->h'.get? b=some o)->tn i h'
 item:∀ (X:Cx),X.prog=P->X.w=w->X.K=K->X.calm=true->∀ (i:Nat) (pins:List (Addr×Obj)) (s:av) (σ:St) (H:Hp) (E:Value->av->Prop),Inv X pins σ H s->(∀ b∈fp,mP X pins H b)->tn i s.heap->J.go i H ->
  wpAny (model P w) X.A (Ct (.ref it)) (fun r s1=>∃ u,r=some u /\
   wpAny (model P w) X.A (wB tg (.ref it) u) (fun _ s2=>∃ x H',Inv X pins σ H' s2/\RelV x u/\J.ZI i H x H'/\tn (i+1) s2.heap/\∀ b∈fp,H' b=none) E s1) E s
 done:∀ (X:Cx),X.prog=P->X.w=w->X.K=K->X.calm=true->∀ (i:Nat) (pins:List (Addr×Obj)) (s:av) (σ:St) (H:Hp) (E:Value->av->Prop),Inv X pins σ H s->(∀ b∈fp,mP X pins H b)->tn i s.heap->J.stop i H ->
  wpAny (model P w) X.A (Ct (.ref it)) (fun r s1=>r=none/\Inv X pins σ H s1) E s
 self:∀ (A:dj) (i:Nat) (s:av) (Q:Value->av->Prop) (E:Value->av->Prop),tn i s.heap->Q (.ref it) s->wpAny (model P w) A (Lu (.ref it)) Q E s
noncomputable abbrev TI:=St->Hp->(It->Hp->Prop)->Prop
noncomputable def PIE(X:Cx)(pins:List (Addr×Obj))(σ:St)(tg:Expr)(R:It->Hp->Prop)(Rz:Value)(s2:av):Prop :=
 ∃ (it:Addr) (fp:List Addr) (tn:Nat->Heap->Prop) (J:It) (H':Hp),Rz=.ref it/\Inv X pins σ H' s2/\Turn X.prog X.w X.K tg J fp it tn/\tn 0 s2.heap/\(∀ b∈fp,mP X pins H' b)/\R J H'
theorem IV{M:Model}{A:dj}{E:Value->av->Prop}{s:av}{tg:Expr}{it:Addr}{u:Value}{o:Obj}{n:String}{vs:Array Value}{Q:Unit->av->Prop}(ho:s.heap.get? it=some o)(hc:o.cls=.type n)(hd:o.data=.fields vs)
    (hn:["enumerate","zip","dict_itemiterator","dict_reverseitemiterator","odict_iterator","itertools.zip_longest","itertools.pairwise"].contains n=false) (hQ:Q () s):wpAny M A (wB tg (.ref it) u) Q E s:=by
  unfold wB;cases tg <;> first
    | exact aA hQ
    | (cases u <;> first
        | exact aA hQ
        | (refine ag (wpAny_load ho ?_)
           rw [hc,hd];show wpAny M A (if (["enumerate","zip","dict_itemiterator","dict_reverseitemiterator","odict_iterator","itertools.zip_longest","itertools.pairwise"].contains n&&vs[0]? == some (Cs _))=true then _ else _) Q E s;rw [if_neg (by intro h; rw [hn,Hx] at h; cases h)];exact aA hQ))
noncomputable def Itl(K:ai)(a:Addr):It :=
 ⟨fun i H=>∃ xs x,qc K H a xs/\xs[i]?=some x,fun i H x H'=>H'=H/\∀ xs,qc K H a xs->xs[i]?=some x,fun i H=>∃ xs,qc K H a xs/\xs.length<=i⟩
noncomputable def Itt(K:ai)(a:Addr):It :=
 ⟨fun i H=>∃ xs x,wo K H a xs/\xs[i]?=some x,fun i H x H'=>H'=H/\∀ xs,wo K H a xs->xs[i]?=some x,fun i H=>∃ xs,wo K H a xs/\xs.length<=i⟩
noncomputable def ZE(lo:Int)(n:Nat):It:=⟨fun i _=>i < n,fun i H x H'=>H'=H/\x=.int (lo+i),fun i _=>n<=i⟩
theorem Jx{P:bJ}{w:World}{K:ai}{tg:Expr}(a it:Addr):Turn P w K tg (Itl K a) [it] it (fun i h=>h.IsListIter it a i) where
 mem:=by simp
 obj:=fun i h st b hb=>by
  have e:b=it:=by simpa using hb
  subst e;obtain⟨o,e,c,d⟩:=st;exact⟨o,e,fun v z=>by rw [d] at z; cases z⟩
 keep:=fun i h h' st k=>st.at fun o e=>k it (by simp) o e
 item:=by
  intro X hP hw hK hc i pins s σ H E I hf st hg;subst hP hw hK;obtain⟨xs,x,hq,hx⟩:=hg;obtain⟨bS,rv,p,hz⟩:=I.list hq;obtain⟨u,hu,ru⟩:=rv.get hx;obtain⟨f0,f1,f2,f3,f4,f5⟩:=hf it (by simp);refine wpAny_pyNext_list_item st p.isList (x:=u) (by simpa using hu) fun h' EW sb=>?_;have I1:Inv X pins σ H { s with heap:=h' }:=I.turned (t':=s.toks) (fun b o hb e=>(sb.2 b hb).trans e) f0 f1 f3 f4 f5;obtain⟨o,e,c,d⟩:=id EW;exact⟨u,rfl,IV (s:={ s with heap:=h' }) e c d (by decide) ⟨x,H,I1,ru,⟨rfl,fun ys hy=>by rw [I.xV hy hq]; exact hx⟩,EW,fun b hb=>(hf b hb).1⟩⟩
 done:=by
  intro X hP hw hK hc i pins s σ H E I hf st hg;subst hP hw hK;obtain⟨xs,hq,hx⟩:=hg;obtain⟨bS,rv,p,hz⟩:=I.list hq;obtain⟨f0,f1,f2,f3,f4,f5⟩:=hf it (by simp);have hl:=rv.length;exact wpAny_pyNext_list_end (I.ok.hd hc) st p.isList (by simp; lia) fun h' eb=>⟨rfl,I.turned (t':=s.toks) (fun b o hb e=>eb b o hb e) f0 f1 f3 f4 f5⟩
 self:=fun _ _ _ _ _ st h=>wpAny_pyIter_listiter st h
theorem Fh{P:bJ}{w:World}{K:ai}{tg:Expr}(a it:Addr):Turn P w K tg (Itt K a) [it] it (fun i h=>h.IsTupleIter it a i) where
 mem:=by simp
 obj:=fun i h st b hb=>by
  have e:b=it:=by simpa using hb
  subst e;obtain⟨o,e,c,d⟩:=st;exact⟨o,e,fun v z=>by rw [d] at z; cases z⟩
 keep:=fun i h h' st k=>st.at fun o e=>k it (by simp) o e
 item:=by
  intro X hP hw hK hc i pins s σ H E I hf st hg;subst hP hw hK;obtain⟨xs,x,hq,hx⟩:=hg;obtain⟨bS,rv,p,hz⟩:=I.tuple hq;obtain⟨u,hu,ru⟩:=rv.get hx;obtain⟨f0,f1,f2,f3,f4,f5⟩:=hf it (by simp);refine wpAny_pyNext_tuple_item st (show s.heap.IsTuple a bS.toArray from p) (x:=u) (by simpa using hu) fun h' EW sb=>?_;have I1:Inv X pins σ H { s with heap:=h' }:=I.turned (t':=s.toks) (fun b o hb e=>(sb.2 b hb).trans e) f0 f1 f3 f4 f5;obtain⟨o,e,c,d⟩:=id EW;exact⟨u,rfl,IV (s:={ s with heap:=h' }) e c d (by decide) ⟨x,H,I1,ru,⟨rfl,fun ys hy=>by rw [I.Jz hy hq]; exact hx⟩,EW,fun b hb=>(hf b hb).1⟩⟩
 done:=by
  intro X hP hw hK hc i pins s σ H E I hf st hg;subst hP hw hK;obtain⟨xs,hq,hx⟩:=hg;obtain⟨bS,rv,p,hz⟩:=I.tuple hq;obtain⟨f0,f1,f2,f3,f4,f5⟩:=hf it (by simp);have hl:=rv.length;exact wpAny_pyNext_tuple_end (I.ok.hd hc) st (show s.heap.IsTuple a bS.toArray from p) (by simp; lia) fun h' eb=>⟨rfl,I.turned (t':=s.toks) (fun b o hb e=>eb b o hb e) f0 f1 f3 f4 f5⟩
 self:=fun _ _ _ _ _ st h=>wpAny_pyIter_tupleiter st h
theorem Fi{P:bJ}{w:World}{K:ai}{tg:Expr}(it:Addr)(lo:Int)(n:Nat):Turn P w K tg (ZE lo n) [it] it (fun i h=>IsRangeIter h it (lo+(i:Nat) * 1) ((n:Int) - (i:Nat)) 1) where
 mem:=by simp
 obj:=fun i h st b hb=>by
  have e:b=it:=by simpa using hb
  subst e;exact⟨_,st,fun v z=>by
   have z':Data.fields _=Data.cell v:=z;cases z'⟩
 keep:=fun i h h' st k=>k it (by simp) _ st
 item:=by
  intro X hP hw hK hc i pins s σ H E I hf st hg;subst hP hw hK;obtain⟨f0,f1,f2,f3,f4,f5⟩:=hf it (by simp);have W:=Walks.range (prog:=X.prog) (w:=X.w) (I.ok.hd hc) it lo 1 n;refine W.item i s _ _ hg st fun v h' tk hv EW kk=>?_;obtain⟨t,rfl⟩:=hv;have I1:Inv X pins σ H { s with heap:=h',toks:=tk }:=I.turned (fun b o hb e=>kk b o (by simpa using hb) e) f0 f1 f3 f4 f5;refine⟨_,rfl,IV (s:={ s with heap:=h',toks:=tk }) (n:="range_iterator") EW rfl rfl (by decide) ⟨.int (lo+i),H,I1,⟨t,?_⟩,⟨rfl,rfl⟩,EW,fun b hb=>(hf b hb).1⟩⟩;rw [Int.mul_one]
 done:=by
  intro X hP hw hK hc i pins s σ H E I hf st hg;subst hP hw hK;obtain⟨f0,f1,f2,f3,f4,f5⟩:=hf it (by simp);exact wpAny_pyNext_range_end (I.ok.hd hc) st (by have:n<=i:=hg; lia) fun h' eb=>⟨rfl,I.turned (t':=s.toks) (fun b o hb e=>eb b o hb e) f0 f1 f3 f4 f5⟩
 self:=fun _ _ _ _ _ st h=>wpAny_pyIter_rangeiter st h
section
variable {X:Cx} {tg:Expr}
theorem Mm{pins:List (Addr×Obj)}{σ:St}{H:Hp}{s:av}{R:It->Hp->Prop}{E:Value->av->Prop}{lo hi:Int}{t u v:Tok}{tk:Nat}(I:Inv X pins σ H s)(h1:-(2 ^ 62)<=lo)(h2:lo < 2 ^ 62)(h3:-(2 ^ 62)<=hi)(h4:hi < 2 ^ 62)
  (q:R (ZE lo (hi - lo).toNat) H):wpAny (model X.prog X.w) X.A (Lu (.ref s.heap.objs.size)) (PIE X pins σ tg R) E { s with heap:=s.heap.push { cls:=.type "range",data:=.fields #[.int lo t,.int hi u,.int 1 v] },toks:=tk }:=by
 refine wpAny_pyIter_range (IsRange.new ..) (small_one h1 h2 h3 h4) ?_;have I1:Inv X pins σ H { s with heap:=s.heap.push { cls:=.type "range",data:=.fields #[.int lo t,.int hi u,.int 1 v] },toks:=tk }:=I.kept fun b o e=>aJ _ e
 refine⟨(s.heap.push { cls:=.type "range",data:=.fields #[.int lo t,.int hi u,.int 1 v] }).objs.size,[(s.heap.push { cls:=.type "range",data:=.fields #[.int lo t,.int hi u,.int 1 v] }).objs.size],_,_,H,rfl,
  I1.kept (t':=tk) fun b o e=>aJ _ e,Fi _ lo (hi - lo).toNat,?_,fun b hb=>?_,q⟩
 ·have e1:lo+((0:Nat):Int) * 1=lo:=by simp
  have e2:(((hi - lo).toNat:Nat):Int) - ((0:Nat):Int)=Builtin.Range.rangeSize lo hi 1:=by rw [rangeSize_one]; split <;> lia
  show IsRangeIter _ _ (lo+((0:Nat):Int) * 1) ((((hi - lo).toNat:Nat):Int) - ((0:Nat):Int)) 1;rw [e1,e2];exact bz _ rfl
 ·have e:b=(s.heap.push { cls:=.type "range",data:=.fields #[.int lo t,.int hi u,.int 1 v] }).objs.size:=by simpa using hb
  subst e;exact I1.BB (aE _) (I1.cD.fresh (aE _))
noncomputable def pI(fp:List Addr)(h:Heap):List (Addr×Obj):=fp.filterMap fun b=>(h.get? b).map fun o=>(b,o)
theorem nR{fp:List Addr}{h:Heap}{b:Addr}{o:Obj}(hb:b∈fp)(e:h.get? b=some o):(b,o)∈pI fp h:=List.mem_filterMap.mpr ⟨b,hb,by rw [e]; rfl⟩
theorem JX{fp:List Addr}{h:Heap}{p:Addr×Obj}(hp:p∈pI fp h):p.1∈fp/\h.get? p.1=some p.2:=by
 obtain⟨b,hb,e⟩:=List.mem_filterMap.mp hp;cases q:h.get? b with
 | none=>rw [q] at e; cases e
 | some o =>
  rw [q] at e;have e':(b,o)=p:=aX e;subst e';exact⟨hb,q⟩
theorem Inv.pinned{pins:List (Addr×Obj)}{σ:St}{H:Hp}{s:av}{fp:List Addr}(I:Inv X pins σ H s)(hf:∀ b∈fp,mP X pins H b)(ho:∀ b∈fp,∃ o,s.heap.get? b=some o/\∀ v,o.data≠.cell v):Inv X (pins++pI fp s.heap) σ H s :=
 I.Ii fun p hp=>(List.mem_append.mp hp).elim (fun z=>I.pin p (c3 _ z)) fun z=>by
  obtain⟨hb,e⟩:=JX z;obtain⟨f0,f1,f2,_⟩:=hf p.1 hb;obtain⟨o,e',d⟩:=ho p.1 hb;rw [e] at e'; cases e';exact⟨e,f0,f1,f2,d⟩
theorem Inv.sE{pins pl:List (Addr×Obj)}{σ:St}{H:Hp}{s:av}(I:Inv X (pins++pl) σ H s):Inv X pins σ H s:=I.Ii fun p hp=>I.pin p (c3 _ (mC _ hp))
end
noncomputable abbrev R2:=V->V->Hp->VK->Prop
noncomputable def KU(X:Cx)(f:Value->Value->Sem Value)(r:R2):Prop :=
 ∀ (pins:List (Addr×Obj)) (s:av) (σ:St) (H:Hp) (x y:V) (v u:Value) (Q:VK),Inv X pins σ H s->RelV x v->RelV y u->r x y H Q ->
  wpAny (model X.prog X.w) X.A (f v u) (EP X pins σ Q) X.xe s
noncomputable def UnR(X:Cx)(f:Value->Sem Value)(r:V->Hp->VK->Prop):Prop :=
 ∀ (pins:List (Addr×Obj)) (s:av) (σ:St) (H:Hp) (x:V) (v:Value) (Q:VK),Inv X pins σ H s->RelV x v->r x H Q ->
  wpAny (model X.prog X.w) X.A (f v) (EP X pins σ Q) X.xe s
noncomputable def OL(X:Cx)(f:Value)(r:List V->Hp->VK->Prop):Prop :=
 ∀ (pins:List (Addr×Obj)) (s:av) (σ:St) (H:Hp) (xs:List V) (us:List Value) (Q:VK),Inv X pins σ H s->Vals xs us->r xs H Q ->
  wpAny (model X.prog X.w) X.A (call f us) (EP X pins σ Q) X.xe s
noncomputable def Zt(X:Cx)(r:V->Hp->(Bool->Hp->Prop)->Prop):Prop :=
 ∀ (pins:List (Addr×Obj)) (s:av) (σ:St) (H:Hp) (x:V) (v:Value) (Q:Bool->Hp->Prop),Inv X pins σ H s->RelV x v->r x H Q ->
  wpAny (model X.prog X.w) X.A (truthy v) (TP X pins σ Q) X.xe s
noncomputable def rI(C:Int->Int->Prop)(g:Int->Int->V):R2:=fun x y H Q=>∃ i j,x=.int i/\y=.int j/\C i j/\Q (g i j) H
noncomputable def UU(g:Int->Int->V):R2:=fun x y H Q=>∃ i j,x=.int i/\y=.int j/\Q (g i j) H
noncomputable def rU(g:Int->V):V->Hp->VK->Prop:=fun x H Q=>∃ i,x=.int i/\Q (g i) H
section
variable {X:Cx} {a b c:Expr} {ta tb tc:TE} {pos:Pos}
theorem Wu{f:Value->Value->Sem Value}{C:Int->Int->Prop}{g:Int->Int->Int}
  (rule:∀ (i j:Int) (t u:Tok) (s:av) (Q:Value->av->Prop) (E:Value->av->Prop),C i j->Q (.int (g i j) s.toks) { s with toks:=s.toks+1 }->wpAny (model X.prog X.w) X.A (f (.int i t) (.int j u)) Q E s) :
  KU X f (rI C fun i j=>.int (g i j)):=by
 intro pins s σ H x y v u Q I rx ry h;obtain⟨i,j,rfl,rfl,hc,q⟩:=h;obtain⟨t,rfl⟩:=rx;obtain⟨t',rfl⟩:=ry;exact rule i j t t' s _ _ hc ⟨.int (g i j),H,I.tok _,⟨_,rfl⟩,q⟩
theorem U2{f:Value->Value->Sem Value}{g:Int->Int->Int}
  (rule:∀ (i j:Int) (t u:Tok) (s:av) (Q:Value->av->Prop) (E:Value->av->Prop),Q (.int (g i j) s.toks) { s with toks:=s.toks+1 }->wpAny (model X.prog X.w) X.A (f (.int i t) (.int j u)) Q E s) :
  KU X f (UU fun i j=>.int (g i j)):=by
 intro pins s σ H x y v u Q I rx ry h;obtain⟨i,j,rfl,rfl,q⟩:=h;obtain⟨t,rfl⟩:=rx;obtain⟨t',rfl⟩:=ry;exact rule i j t t' s _ _ ⟨.int (g i j),H,I.tok _,⟨_,rfl⟩,q⟩
theorem XB{f:Value->Value->Sem Value}{g:Int->Int->Bool}
  (rule:∀ (i j:Int) (t u:Tok) (s:av) (Q:Value->av->Prop) (E:Value->av->Prop),Q (.bool (g i j)) s->wpAny (model X.prog X.w) X.A (f (.int i t) (.int j u)) Q E s) :
  KU X f (UU fun i j=>.bl (g i j)):=by
 intro pins s σ H x y v u Q I rx ry h;obtain⟨i,j,rfl,rfl,q⟩:=h;obtain⟨t,rfl⟩:=rx;obtain⟨t',rfl⟩:=ry;exact rule i j t t' s _ _ ⟨.bl (g i j),H,I,rfl,q⟩
noncomputable def ZG(i j:Int):Prop:=0 < j/\j < 1073741824
noncomputable def T8(i j:Int):Prop:=(-(2 ^ 64) < i/\i < 2 ^ 64)\/(-(2 ^ 64) < j/\j < 2 ^ 64)
theorem T8.ok{i j:Int}(h:T8 i j):IntMulOk i j:=by
 rcases h with ⟨h1,h2⟩ | ⟨h1,h2⟩
 ·exact .of_left (intBits_le_64 h1 h2)
 ·exact .of_right (intBits_le_64 h1 h2)
theorem SX:KU X (iF .Add) (UU fun i j=>.int (i+j)):=U2 fun _ _ _ _ _ _ _ q=>add_int q
theorem SS:KU X (iF .Sub) (UU fun i j=>.int (i - j)):=U2 fun _ _ _ _ _ _ _ q=>sub_int q
theorem SU:KU X (iF .Mult) (rI T8 fun i j=>.int (i * j)):=Wu fun _ _ _ _ _ _ _ hc q=>mul_int q hc.ok
theorem PZ:KU X (iF .FloorDiv) (rI ZG fun i j=>.int (i / j)):=Wu fun i j _ _ _ _ _ hc q=>by
 have h1:(0:Int) < j:=hc.1;have h2:j < 1073741824:=hc.2;exact floordiv_int (by lia) (by rw [Int.fdiv_eq_ediv_of_nonneg i (by lia)]; exact q) (.inl (PyProof.noPylong_small (by lia)))
theorem SV:KU X (iF .Mod) (rI (fun _ j=>0 < j) fun i j=>.int (i % j)):=Wu fun i j _ _ _ _ _ hc q=>by
 have h1:(0:Int) < j:=hc;exact mod_int' (by lia) (by rw [Int.fmod_eq_emod_of_nonneg i (by lia)]; exact q)
theorem unI{f:Value->Sem Value}{g:Int->Int}
  (rule:∀ (i:Int) (t:Tok) (s:av) (Q:Value->av->Prop) (E:Value->av->Prop),Q (.int (g i) s.toks) { s with toks:=s.toks+1 }->wpAny (model X.prog X.w) X.A (f (.int i t)) Q E s) :
  UnR X f (rU fun i=>.int (g i)):=by
 intro pins s σ H x v Q I rx h;obtain⟨i,rfl,q⟩:=h;obtain⟨t,rfl⟩:=rx;exact rule i t s _ _ ⟨.int (g i),H,I.tok _,⟨_,rfl⟩,q⟩
theorem R9:UnR X (unaryOp .USub) (rU fun i=>.int (-i)):=unI fun _ _ _ _ _ q=>neg_int q
end
section
variable {X:Cx} {a b c:Expr} {ta tb tc:TE} {pos:Pos}
theorem U1:KU X (eY .Lt) (UU fun i j=>.bl (decide (i < j))):=XB fun _ _ _ _ _ _ _ q=>lt_int q
theorem hZ(b:Expr){op:CmpOp}(h:autoParam (op≠.In) Ad._auto_1)(h2:autoParam (op≠.NotIn) Ad._auto_1):behindInMarks op b=false:=by
 have e1:(op == CmpOp.In)=false:=by cases op <;> first | rfl | exact absurd rfl h
 have e2:(op == CmpOp.NotIn)=false:=by cases op <;> first | rfl | exact absurd rfl h2
 cases b with
 | Set es k _ =>
  show (k == 0&&(op == .In||op == .NotIn)&&es.all (constantsAlone 8))=false;rw [e1,e2,Bool.or_false,Hy,Hx]
 | _=>rfl
noncomputable def TY(K:ai)(x:V)(H:Hp)(k:Bool):Prop :=
 match x with
 | .eh=>k=false
 | .bl b=>k=b
 | .int i=>k=(i != 0)
 | .str y=>y.length<=a8/\k=((y.length:Int) != 0)
 | .TQ y=>y.size<=a8/\k=((y.size:Int) != 0)
 | .ref p=>(∃ xs,qc K H p xs/\k=!xs.isEmpty)\/(∃ xs,wo K H p xs/\k=!xs.isEmpty)\/∃ kvs,H p=some (.dK kvs)/\k=!kvs.isEmpty
 | _=>False
theorem Gg{κ:Type}{kvs:List (κ×V)}{vs:List (κ×Value)}(r:KV kvs vs):(!vs.isEmpty)=!kvs.isEmpty:=by
 cases r <;> rfl
theorem x4{xs:List V}{bS:List Value}(r:Vals xs bS):(!bS.toArray.isEmpty)=!xs.isEmpty:=by
 cases r <;> simp
theorem xW:(a8:Nat) < 2 ^ 63:=by rw [cS]; decide
theorem Sb:Zt X (fun x H Q=>∃ k,TY X.K x H k/\Q k H):=by
 intro pins s σ H x v Q I rx h;obtain⟨k,e,q⟩:=h;have hl:=xW;have hs:a8=16777216:=cS;cases x with
 | eh =>
  cases rx;have e':k=false:=e;subst e';exact truthy_none ⟨H,I,q⟩
 | bl b =>
  cases rx;have e':k=b:=e;subst e';exact sx ⟨H,I,q⟩
 | int i =>
  obtain⟨t,rfl⟩:=rx;have e':k=(i != 0):=e;subst e';exact PySem.P.truthy_int ⟨H,I,q⟩
 | str y =>
  obtain⟨t,rfl⟩:=rx;obtain⟨hy,e'⟩:y.length<=a8/\k=((y.length:Int) != 0):=e;subst e';exact PySem.P.truthy_str (by lia) ⟨H,I.tok _,q⟩
 | TQ y =>
  obtain⟨t,rfl⟩:=rx;obtain⟨hy,e'⟩:y.size<=a8/\k=((y.size:Int) != 0):=e;subst e';exact PySem.W.truthy_bytes (by lia) ⟨H,I.tok _,q⟩
 | ref p =>
  cases rx;have e':(∃ xs,qc X.K H p xs/\k=!xs.isEmpty)\/(∃ xs,wo X.K H p xs/\k=!xs.isEmpty)\/∃ kvs,H p=some (.dK kvs)/\k=!kvs.isEmpty:=e;rcases e' with ⟨xs,hx,e'⟩ | ⟨xs,hx,e'⟩ | ⟨kvs,hx,e'⟩
  ·subst e';obtain⟨bS,r,pl,hz⟩:=I.list hx;have hlen:=r.length;exact wpAny_truthy_list pl.isList (by simp only [aW]; lia) ⟨H,I.tok _,by rw [x4 r]; exact q⟩
  ·subst e';obtain⟨bS,r,pl,hz⟩:=I.tuple hx;have hlen:=r.length;exact truthy_tuple pl (by simp only [aW]; lia) ⟨H,I.tok _,by rw [x4 r]; exact q⟩
  ·subst e';obtain⟨hz,hS,vs,r,m⟩:kvs.length<=a8/\(p == cY)=false/\∃ vs,KV kvs vs/\s.heap.DictOf (cK X.prog X.w) p vs:=I.cD p _ hx;have hlen:kvs.length=vs.length:=gX r;exact E1 hS m (by lia) ⟨H,I.tok _,by rw [Gg r]; exact q⟩
 | _=>exact(show False from e).elim
theorem FK:KU X (iF .Add) (fun x y H Q=>∃ i j,x=.str i/\y=.str j/\i.length+j.length<=a8/\Q (.str (i++j)) H):=by
 intro pins s σ H x y v u Q I rx ry h;obtain⟨i,j,rfl,rfl,hz,q⟩:=h;obtain⟨t,rfl⟩:=rx;obtain⟨t',rfl⟩:=ry;exact add_str (fun t' tk=>⟨.str (i++j),H,I.tok _,⟨_,rfl⟩,q⟩) hz
theorem vals1{x:V}{us:List Value}(r:Vals [x] us):∃ u,us=[u]/\RelV x u:=by
 cases r with
 | cons r1 r2=>cases r2; exact⟨_,rfl,r1⟩
theorem vals2{x y:V}{us:List Value}(r:Vals [x,y] us):∃ u w',us=[u,w']/\RelV x u/\RelV y w':=by
 cases r with
 | cons r1 r2 =>
  cases r2 with
  | cons r3 r4=>cases r4; exact⟨_,_,rfl,r1,r3⟩
noncomputable def Wg(K:ai)(x:V)(H:Hp)(n:Nat):Prop :=
 match x with
 | .str y=>y.length<=a8/\n=y.length
 | .TQ y=>y.size<=a8/\n=y.size
 | .ref p=>(∃ xs,qc K H p xs/\n=xs.length)\/∃ xs,wo K H p xs/\n=xs.length
 | _=>False
theorem Ou:OL X (.builtin "len") (fun xs H Q=>∃ x n,xs=[x]/\Wg X.K x H n/\Q (.int n) H):=by
 intro pins s σ H xs us Q I r h;obtain⟨x,n,rfl,e,q⟩:=h;obtain⟨u,rfl,rx⟩:=vals1 r;have hl:=xW;have hs:a8=16777216:=cS;cases x with
 | str y =>
  obtain⟨t,rfl⟩:=rx;obtain⟨hy,e'⟩:y.length<=a8/\n=y.length:=e;subst e';exact len_str (by lia) ⟨.int _,H,I.tok _,⟨_,rfl⟩,q⟩
 | TQ y =>
  obtain⟨t,rfl⟩:=rx;obtain⟨hy,e'⟩:y.size<=a8/\n=y.size:=e;subst e';exact PySem.W.len_bytes (by lia) ⟨.int _,H,I.tok _,⟨_,rfl⟩,q⟩
 | ref p =>
  cases rx;have e':(∃ xs,qc X.K H p xs/\n=xs.length)\/∃ xs,wo X.K H p xs/\n=xs.length:=e;rcases e' with ⟨xs,hx,e'⟩ | ⟨xs,hx,e'⟩
  ·subst e';obtain⟨bS,r',pl,hz⟩:=I.list hx;have hlen:=r'.length;exact Calls.call_len_list pl.isList (by simp only [aW]; lia) ⟨.int xs.length,H,I.tok _,⟨_,by simp only [aW]; rw [hlen]⟩,q⟩
  ·subst e';obtain⟨bS,r',pl,hz⟩:=I.tuple hx;have hlen:=r'.length;exact len_tuple pl (by simp only [aW]; lia) ⟨.int xs.length,H,I.tok _,⟨_,by simp only [aW]; rw [hlen]⟩,q⟩
 | _=>exact(show False from e).elim
end
structure ad1(h:Heap)(x dx C:Addr)(mA:Str->Option Value):Prop where
 obj:h.get? x=some (PySem.W.instObj C dx)
 ns:h.Ns1 dx mA
 ne:dx≠x
theorem vc.some_of{v:V}{o:Option Value}(r:vc (some v) o):∃ u,o=some u/\RelV v u:=by
 cases o with
 | none=>exact(show False from r).elim
 | some u=>exact⟨u,rfl,r⟩
structure Cls(K:ai)(C:Addr):Prop where
 pg:PySem.W.plainGet K C Str.empty=true
 hd:PySem.W.hasDictIn K C=true
 po:PySem.W.plainOver K C=true
 sa:nE K (.ref C) "__setattr__" = some (some (.builtin "object.__setattr__"))
structure Con(K:ai)(C:Addr)(f:Str)(v:V)(u:Value):Prop where
 at_:nE K (.ref C) f=some (some u)
 rel:RelV v u
 get:O2 K u "__get__" = some none
 cp:PySem.W.copiedNames.contains f=false
structure Meth(K:ai)(C:Addr)(m:Str)(f:Addr):Prop where
 at_:nE K (.ref C) m=some (some (.ref f))
 fn:PySem.W.isFn K (.ref f)=true
 kp:kF K (.ref f)=true
section
variable {X:Cx} {pins:List (Addr×Obj)} {σ:St} {H:Hp} {s:av} {A:dj} {E:Value->av->Prop} {Q:Value->av->Prop} {c:Value} {b:Bool}
inductive yG (K:ai) (H:Hp):V->Value->Prop where
 | eh:yG K H .eh (.type "NoneType")
 | bl (x:Bool):yG K H (.bl x) (.type "bool")
 | int (i:Int):yG K H (.int i) (.type "int")
 | str (x:Str):yG K H (.str x) (.type "str")
 | VX (x:UInt64):yG K H (.VX x) (.type "float")
 | lst {a:Addr} {xs:List V} (e:H a=some (.lst xs)):yG K H (.ref a) (.type "list")
 | jl {a:Addr} {o:Obj} {xs:List V} (e:H a=some (.jl o (.lst xs))):yG K H (.ref a) (.type "list")
 | tup {a:Addr} {xs:List V} (e:H a=some (.tup xs)):yG K H (.ref a) (.type "tuple")
 | dK {a:Addr} {kvs:List (Key×V)} (e:H a=some (.dK kvs)):yG K H (.ref a) (.type "dict")
 | dT {a:Addr} {kvs:List (List Key×V)} (e:H a=some (.dT kvs)):yG K H (.ref a) (.type "dict")
 | ins {a C dx:Addr} {fs:List (Str×V)} (e:H a=some (.ins C dx fs)) (cl:Cls K C) (ha:nE K (.ref C) "__class__" = some (some (.builtin "object.__class__")))
   (hn:O2 K (.builtin "object.__class__") "__get__" = some (some (.builtin "getset_descriptor.__get__"))) (htk:PySem.W.takesIn K (.builtin "object.__class__")=some true)
   (hm:PySem.W.mroIn K C (.type "object")=some true):yG K H (.ref a) (.ref C)
end
structure lO(k:Nat)(A:dj):Prop where
 hd:A.handled=none
 dp:A.depth+3 * k+5 < recursionLimit
 un:A.units+16 * k+200 < cLine
theorem lO.mono{j k:Nat}{A:dj}(r:lO k A)(h:j<=k):lO j A:=⟨r.hd,by have:=r.dp; lia,by have:=r.un; lia⟩
theorem lO.deeper{k:Nat}{A:dj}(r:lO (k+1) A)(env:Env):lO k (A.deeper env) :=
 ⟨r.hd,by have:=r.dp; show A.depth+1+3 * k+5 < _; lia,by have:=r.un; show A.units+3+16 * k+200 < _; lia⟩
theorem lO.depth{k:Nat}{A:dj}(r:lO k A):A.depth < recursionLimit:=by have:=r.dp; lia
theorem lO.units{k:Nat}{A:dj}(r:lO k A):A.units+64 < cLine:=by have:=r.un; lia
theorem lO.LM{k:Nat}{A:dj}(r:lO k A):A.units < cLine:=by have:=r.un; lia
noncomputable abbrev Sp:=List V->Hp->VK->XK->Prop
noncomputable abbrev K5:=List Env->Hp->av->XK->Value->av->Prop
structure Q5(P:bJ)(w:World)(K:ai)(mg:Str->Option Value)(base:Heap)(A:dj)(outer:List Env)(s:av)(H:Hp):Prop where
 frames:A.frames=some outer
 mod:Mod K mg base
 bs:∀ b o,base.get? b=some o->s.heap.get? b=some o/\H b=none
 QU:base.objs.size<=s.heap.objs.size
 x9:s.heap.FunFrames base outer
 Uo:∀ b∈Ll outer,H b=none
 cD:oB P w H s.heap
 bare:A0 s.gens
noncomputable def CE(outer:List Env)(P:bJ)(w:World)(H:Hp)(s:av)(Q:VK)(u:Value)(s':av):Prop :=
 ∃ v H',s'.os=s.os/\A0 s'.gens/\Un (Ll outer) [] H H' s.heap s'.heap/\oB P w H' s'.heap/\RelV v u/\Q v H'
noncomputable def CR(CX:K5)(outer:List Env)(P:bJ)(w:World)(H:Hp)(s:av)(Q:VK)(E:XK)(r:Result)(s':av):Prop :=
 match r with
 | .ok (.ret u)=>CE outer P w H s Q u s'
 | .ok _=>False
 | .error e=>CX outer H s E e s'
structure fH(P:bJ)(w:World)(K:ai)(mg:Str->Option Value)(base:Heap)(CX:K5)(k:Nat)(f:Addr)(fd:aC)(ps:List Str)(sp:Sp):Prop where
 len:∀ vs H Q E,sp vs H Q E->vs.length=ps.length
 run:∀ (A:dj) (outer:List Env) (s:av) (H:Hp) (args:Args) (us:List Value) (vs:List V) (Q:VK) (E:XK),lO k A->Q5 P w K mg base A outer s H->LG s fd args (ps.zip us)->Vals vs us->sp vs H Q E ->
  E5 (model P w) A (.call (.ref f) args) (CR CX outer P w H s Q E) s
section
variable {X:Cx} {pins:List (Addr×Obj)} {σ:St} {H:Hp} {s s':av}
theorem Inv.Zh(I:Inv X pins σ H s):Q5 X.prog X.w X.K X.mg X.base X.A X.stack s H :=
 ⟨I.ok.frames,I.ok.mod,I.bs,aZ I.ok.QU I.sz,I.stack,I.HG,I.cD,I.bare⟩
theorem Inv.after{Q:VK}{u:Value}(I:Inv X pins σ H s)(h:CE X.stack X.prog X.w H s Q u s'):EP X pins σ Q u s':=by
 obtain⟨v,H',os,bare,un,cD,r,q⟩:=h;obtain⟨hh,g,d,t,os'⟩:=s';obtain rfl:os'=s.os:=os;exact⟨v,H',I.call (h':=hh) (g':=g) (d':=d) (t':=t) (ch:=[]) un cD bare (fun b z=>absurd z (by simp)),r,q⟩
end
noncomputable def Binds(K:ai)(fd:aC)(ps:List Str)(ds:List Value):Prop :=
 ∀ (s:av) (us:List Value),K.In s.heap->(us++ds).length=ps.length->LG s fd ⟨us,[]⟩ (ps.zip (us++ds))
theorem Binds.all{K:ai}{fd:aC}{ps:List Str}(h:∀ us:List Value,us.length=ps.length->bindArgs fd ⟨us,[]⟩=pure (ps.zip us)):Binds K fd ps []:=fun s us _ hl=>by
 rw [cN] at hl ⊢;exact .of_eq (h us hl)
noncomputable def Passes(CX:K5)(X:Cx)(E:XK):Prop:=∀ (pins:List (Addr×Obj)) (σ:St) (H:Hp) (s:av) (e:Value) (s':av),Inv X pins σ H s->CX X.stack H s E e s'->X.xe e s'
section
variable {X:Cx} {CX:K5} {k:Nat} {f C:Addr} {fd:aC} {ps:List Str} {sp:Sp} {WR:List V} {ds:List Value} {E:XK} {x m:Str} {p pos apos:Pos} {e o:Expr} {es:List Expr} {ta:TE} {t:TA}
theorem Sx{pins:List (Addr×Obj)}{σ:St}{H:Hp}{s:av}{Q:VK}{us:List Value}{vs:List V}(F:fH X.prog X.w X.K X.mg X.base CX k f fd ps sp)(hr:lO k X.A)(hb:Binds X.K fd ps ds)(hd:Vals WR ds)(hx:Passes CX X E)
  (I:Inv X pins σ H s) (r:Vals vs us) (h:sp (vs++WR) H Q E):wpAny (model X.prog X.w) X.A (call (.ref f) us) (EP X pins σ Q) X.xe s:=by
 have r2:Vals (vs++WR) (us++ds):=r.append hd;have hl:(us++ds).length=ps.length:=by rw [<-r2.length]; exact F.len _ _ _ _ h
 refine wpAny_call (codeAny_mono (F.run X.A X.stack s H ⟨us,[]⟩ (us++ds) (vs++WR) Q E hr I.Zh (hb s us I.ID hl) r2 h) fun r s' hq=>?_);cases r with
 | error e=>exact hx pins σ H s e s' I hq
 | ok fl =>
  cases fl with
  | ret u=>exact I.after hq
  | next=>exact bO hq
  | brk=>exact bO hq
  | cont=>exact bO hq
structure Mk(K:ai)(C f:Addr):Prop where
 makes:PySem.W.makesIn K C=true
 init:nE K (.ref C) "__init__" = some (some (.ref f))
 fn:PySem.W.isFn K (.ref f)=true
 kp:kF K (.ref C)=true
end
section
variable {X:Cx} {CX:K5} {k:Nat} {f C:Addr} {fd:aC} {ps ks:List Str} {sp:Sp} {E:XK} {x m:Str} {p pos apos abP:Pos} {e o:Expr} {es:List Expr} {kws:List LC} {te ta:TE} {t tk:TA} {nm:Option Str}
structure Zz(K:ai)(fd:aC)(ps ks:List Str)(g:List Value->List Value->List Value)(gV:List V->List V->List V):Prop where
 to:∀ (s:av) (us ws:List Value),K.In s.heap->(g us ws).length=ps.length->LG s fd ⟨us,ks.zip ws⟩ (ps.zip (g us ws))
 rel:∀ {vs:List V} {us:List Value} {zs:List V} {ws:List Value},Vals vs us->Vals zs ws->Vals (gV vs zs) (g us ws)
variable {g:List Value->List Value->List Value} {gV:List V->List V->List V}
end
structure cA(N P:List Str)(sc:Scope):Prop where
 kind:sc.kind=.function
 co:sc.isCoroutine=false
 gen:sc.isGenerator=false
 nd:N.Nodup
 pre:N.take P.length=P
 par:∀ x∈P,sc.names.lookup x=some .local\/sc.names.lookup x=some .cell
 S3:∀ y∈sc.names,y.2≠.free
theorem AO{kindOf:Str->Option qT}{x:Str}:∀ {binds:List (Str×Value)} {m:Str->Option Value},(∀ v,(x,v)∉binds)->bindL kindOf binds m x=m x
 | [],_,_=>rfl
 | (n,v) :: r,m,h=>by
  unfold bindL;rw [AO fun w hw=>h w (aK _ hw)];split
  ·have:x≠n:=by rintro rfl; exact h v cc
   simp [this]
  ·rfl
theorem AQ{kindOf:Str->Option qT}{x:Str}:∀ {binds:List (Str×Value)} {m:Str->Option Value},(∀ v,(x,v)∉binds)->bindC kindOf binds m x=m x
 | [],_,_=>rfl
 | (n,v) :: r,m,h=>by
  unfold bindC;rw [AQ fun w hw=>h w (aK _ hw)];split
  ·rfl
  ·have:x≠n:=by rintro rfl; exact h v cc
   simp [this]
theorem AP{kindOf:Str->Option qT}{x:Str}{v:Value}:∀ {P:List Str} {vs:List Value} {i:Nat} {m:Str->Option Value},P.Nodup->P[i]?=some x->vs[i]?=some v->kindOf x=some .local ->
  bindL kindOf (P.zip vs) m x=some v
 | [],_,_,_,_,h,_,_=>by simp at h
 | _ :: _,[],_,_,_,_,h,_=>by simp at h
 | p :: P,w :: vs,0,m,nd,h1,h2,hk=>by
  simp at h1 h2; subst h1; subst h2;show bindL kindOf ((p,w) :: P.zip vs) m p=_;unfold bindL;rw [AO fun v hv=>(List.nodup_cons.mp nd).1 (ER hv).1,if_pos hk];simp
 | p :: P,w :: vs,i+1,m,nd,h1,h2,hk=>by
  show bindL kindOf ((p,w) :: P.zip vs) m x=_;unfold bindL;exact AP (i:=i) (List.nodup_cons.mp nd).2 (by simpa using h1) (by simpa using h2) hk
theorem AR{kindOf:Str->Option qT}{x:Str}{v:Value}:∀ {P:List Str} {vs:List Value} {i:Nat} {m:Str->Option Value},P.Nodup->P[i]?=some x->vs[i]?=some v->kindOf x≠some .local ->
  bindC kindOf (P.zip vs) m x=some v
 | [],_,_,_,_,h,_,_=>by simp at h
 | _ :: _,[],_,_,_,_,h,_=>by simp at h
 | p :: P,w :: vs,0,m,nd,h1,h2,hk=>by
  simp at h1 h2; subst h1; subst h2;show bindC kindOf ((p,w) :: P.zip vs) m p=_;unfold bindC;rw [AQ fun v hv=>(List.nodup_cons.mp nd).1 (ER hv).1,if_neg hk];simp
 | p :: P,w :: vs,i+1,m,nd,h1,h2,hk=>by
  show bindC kindOf ((p,w) :: P.zip vs) m x=_;unfold bindC;exact AR (i:=i) (List.nodup_cons.mp nd).2 (by simpa using h1) (by simpa using h2) hk
noncomputable def start(N:List Str)(vs:List V):St:=vs.map some++bg (N.length - vs.length) none
noncomputable def Ep(CX:K5)(P:bJ)(w:World)(K:ai)(mg:Str->Option Value)(base:Heap)(N:List Str)(qual:Str)(scope:Scope)(f:Addr)(cd:Value)(A:dj)(outer:List Env)(s:av)(H:Hp)(E:XK):Cx where
 prog:=P
 w:=w
 K:=K
 mg:=mg
 base:=base
 A:=A.deeper (Cu qual scope s.heap.objs.size f cd)
 N:=N
 lU:=s
 OK:=H
 env:=Cu qual scope s.heap.objs.size f cd
 outer:=outer
 stack:=Cu qual scope s.heap.objs.size f cd :: outer
 ex:=[]
 calm:=true
 fn:=fun _=>true
 pn:=[]
 xe:=fun e s'=>wpAny (model P w) (A.deeper (Cu qual scope s.heap.objs.size f cd)) (leaving (Cu qual scope s.heap.objs.size f cd) e) (fun _ UQ=>CX outer H s E e UQ) (fun e' UQ=>CX outer H s E e' UQ) s'
theorem Eu{sc:Scope}{n:Nat}{x:Str}(h:sc.names.lookup x=some .cell):∃ c,(cellsFrom n sc.names []).lookup x=some c:=by
 have q:=Hq sc.names n [] (.inl h);exact Option.isSome_iff_exists.mp q
theorem Kh{CX:K5}{P:bJ}{w:World}{K:ai}{mg:Str->Option Value}{base:Heap}{N ps:List Str}{qual:Str}{scope:Scope}{f:Addr}{cd:Value}{A:dj}{outer:List Env}{s s1:av}{H:Hp}{E:XK}{us:List Value}{vs:List V}
  (S:cA N ps scope) (hd:A.handled=none) (e0:Q5 P w K mg base A outer s H) (hl:vs.length=ps.length) (r:Vals vs us)
  (x:InCallC s s.heap.objs.size (bindL (Cu qual scope s.heap.objs.size f cd).kindOf (ps.zip us) fun _=>none) (cellsFrom (s.heap.objs.size+1) scope.names []) (bindC (Cu qual scope s.heap.objs.size f cd).kindOf (ps.zip us) fun _=>none) s1) :
  Inv (Ep CX P w K mg base N qual scope f cd A outer s H E) [] (start N vs) H s1:=by
 have Km:ps.length<=N.length:=by have:=congrArg dU S.pre; rw [eF] at this; lia
 obtain⟨h1,tk,rfl,hk⟩:=x.done;have Vh:∀ b:Addr,b∉(Ep CX P w K mg base N qual scope f cd A outer s H E).ex:=fun b z=>absurd (show b∈([]:List Addr) from z) (by simp);refine⟨⟨e0.mod,S.kind,rfl,rfl,aE _,fun y z c h1 h2=>?_,fun y hy=>?_,fun y c _ h=>?_,fun _=>hd,Around.frames_deeper e0.frames,.inr ⟨rfl,rfl⟩,fun b z=>absurd z (Vh b),e0.bs,e0.QU,fun b _ _=>Vh b,fun b z=>absurd z (Vh b),e0.x9,e0.Uo⟩,
  rfl,e0.bare,Un.kept hk,⟨_,x.toInCall.ns,fun i y v h1 h2 h3=>?_⟩,fun y c h=>⟨_,x.cell y c h⟩,e0.cD.fresh (aE _),fun y c h=>?_,fun p hp=>absurd (show p∈([]:List (Addr×Obj)) from hp) (by simp),e0.cD.kept hk,?_⟩
 ·exact name_of_addr x.apart (g4 h1) (g4 h2)
 ·have hy:scope.names.lookup y=some .cell\/scope.names.lookup y=some .free:=hy;rcases hy with hy | hy
  ·exact Eu hy
  ·exact absurd rfl (S.S3 _ (g4 hy))
 ·exact O4 (x.above y c (g4 h))
 ·have hi:i < vs.length:=by
   unfold start at h2;by_cases hi:i < vs.length
   ·exact hi
   ·rw [cz (by simpa using hi)] at h2;rw [kr] at h2;split at h2 <;> cases h2
  have ha:vs[i]?=some v:=by
   unfold start at h2;rw [cO (by simpa using hi),bB] at h2;cases e:vs[i]? with
   | none=>rw [e] at h2; cases h2
   | some a=>rw [e] at h2; cases h2; rfl
  obtain⟨u,hu,rv⟩:=r.get ha;have hp:ps[i]?=some y:=by
   rw [<-S.pre,List.getElem?_take_of_lt (by lia)]; exact h1
  have Z4:ps.Nodup:=by rw [<-S.pre]; exact S.nd.sublist (List.take_sublist _ _)
  refine⟨u,rv,?_⟩;rcases S.par y (eD hp) with k | k
  ·exact .inl ⟨k,AP Z4 hp hu k⟩
  ·obtain⟨c,e⟩:=Eu (n:=s.heap.objs.size+1) k;refine .inr ⟨.inl k,c,e,?_⟩;have q:=x.cell y c e;rw [AR Z4 hp hu (by show scope.names.lookup y≠_; rw [k]; decide)] at q;exact q
 ·exact e0.cD.fresh (O4 (x.above y c (g4 h)))
 ·unfold start;show _=N.length;rw [aG,aB,fb];lia
theorem VW{CX:K5}{P:bJ}{w:World}{K:ai}{mg:Str->Option Value}{base:Heap}{k:Nat}{f:Addr}{name qual:Str}{params:Arguments}{body:List Stmt}{scope:Scope}{dV kV doc pm nB ct oc:Value}{an od:Option Addr}
  {MG:Array (Option Value)} {N ps:List Str} {sp:Sp} (lk:K.lookup f=some ⟨oc,od,.func (jE name qual params body scope dV kV doc pm an nB ct),MG⟩) (IS:Cv K nB qual=true) (S:cA N ps scope)
  (len:∀ vs H Q E,sp vs H Q E->vs.length=ps.length)
  (NI:∀ (A:dj) (outer:List Env) (s:av) (H:Hp) (vs:List V) (Q:VK) (E:XK),lO k (A.deeper (Cu qual scope s.heap.objs.size f nB))->sp vs H Q E ->
   ∃ t,Ut (Ep CX P w K mg base N qual scope f nB A outer s H E) body t/\t { nx:=fun _ H'=>Q .eh H',rt:=Q } (start N vs) H) :
  fH P w K mg base CX (k+1) f (jE name qual params body scope dV kV doc pm an nB ct) ps sp:=by
 refine⟨len,fun A outer s H args us vs Q E hr e0 hb r RC=>?_⟩;have hl:=len _ _ _ _ RC;have KX:K.In s.heap:=e0.mod.WC.keeps fun b o e=>(e0.bs b o e).1;have lim:s.heap.NoLimit:=e0.mod.nolimit.keeps fun b o e=>(e0.bs b o e).1;have Av:∀ y∈ps.zip us,scope.names.lookup y.1=some .local\/(scope.names.lookup y.1=some .cell/\((cellsFrom (s.heap.objs.size+1) scope.names []).lookup y.1).isSome=true):=fun ⟨n,v⟩ hy=>by
  rcases S.par n (ER hy).1 with q | q
  ·exact .inl q
  ·exact .inr ⟨q,Hq _ _ _ (.inl q)⟩
 refine codeAny_call_function hr.depth (KX _ _ lk) rfl S.co S.gen rfl (PySem.W.codeRec_of KX IS) (hb _ _ _ _ ?_);refine wpAny_newFunctionEnv_cells S.kind Av fun env he s1 x=>?_;subst he;refine⟨lim.keeps x.toInCall.keep,codeAny_func ?_⟩;obtain⟨t,ht,hq⟩:=NI A outer s H vs Q E (hr.deeper _) RC;have I:Inv (Ep CX P w K mg base N qual scope f nB A outer s H E) [] (start N vs) H s1:=Kh S hr.hd e0 hl r x;refine wpAny_mono (ht [] s1 (start N vs) H _ I hq) (fun fl s' hs=>?_) fun e s' hs=>hs;have fin:∀ {jb:St} {H':Hp} {v:V} {u:Value},Inv (Ep CX P w K mg base N qual scope f nB A outer s H E) [] jb H' s'->RelV v u->Q v H'->CE outer P w H s Q u s' :=
  fun {jb H' v u} J rv q=>⟨v,H',J.os,J.bare,J.base,J.cD,rv,q⟩
 cases fl with
 | ret u =>
  obtain⟨v,jb,H',J,rv,q⟩:=hs;exact fin J rv q
 | next =>
  obtain⟨jb,H',J,q⟩:=hs;exact fin (v:=V.eh) (u:=fE) J rfl q
 | brk =>
  obtain⟨_,_,_,q⟩:=hs;exact bO q
 | cont =>
  obtain⟨_,_,_,q⟩:=hs;exact bO q
end L2
namespace HT
open PySem PyProof.Rows
noncomputable def lexLt:List Int->List Int->Bool
 | [],[]=>false
 | [],_ :: _=>true
 | _ :: _,[]=>false
 | x :: xs,y :: ys=>if x=y then lexLt xs ys else decide (x < y)
theorem Gd(x y:Int)(xs ys:List Int):lexLt (x :: xs) (y :: ys)=if x=y then lexLt xs ys else decide (x < y):=rfl
theorem zg:lexLt [] []=false:=rfl
theorem xX(y:Int)(ys:List Int):lexLt [] (y :: ys)=true:=rfl
theorem xY(x:Int)(xs:List Int):lexLt (x :: xs) []=false:=rfl
theorem N6(A:dj)(s:av)(a:Int)(t:Tok)(c:Int)(u:Tok):∃ e,SeqAt.EqAt A s (.int a t) (.int c u) e/\(e=true↔a=c) :=
 ⟨(a == c),SeqAt.EqAt.int_int a t c u,by simp⟩
theorem C4(A:dj)(s:av)(a:Int)(t:Tok)(c:Int)(u:Tok)(prog:bJ)(w:World)(E:Value->av->Prop)(Q:Value->av->Prop)(h:Q (.bool (decide (a < c))) s) :
  wpAny (model prog w) A (richCompare .Lt (.int a t) (.int c u)) Q E s :=
 (PyProof.Rows.lt_int h:wpAny (model prog w) A (eY .Lt (.int a t) (.int c u)) Q E s)
section
open PySem.SeqAt
open PySem.AutoSeq1 (wpAny_loadPart')
open PySem.MeetsSeq PySem.MeetsSeq2 PySem.MeetsSeq3
theorem zb(l b:Addr)(items mJ:Array Value)(n n2:Nat)(dd Cm:Option Addr)(sl HM:Array (Option Value))(ns ms:List Int)(hi:nG items.toList ns)(hj:nG mJ.toList ms) :
  Meets (Builtin.«tuple.__lt__» ⟨[.ref l,.ref b],[]⟩)
   (fun _ R s=>s.heap.get? l=some { cls:=.type "tuple",dict:=dd,data:=.seq items n,slots:=sl }/\s.heap.get? b=some { cls:=.type "tuple",dict:=Cm,data:=.seq mJ n2,slots:=HM } /\
    R (.ok (.ret (.bool (lexLt ns ms)))) s) :=
 .of_wp fun prog w A R s h=>by
  obtain⟨hp,g,d,tk,os⟩:=s; obtain⟨hl,hb,h⟩:=h;have f2:=oo;have z1:items.size=ns.length:=by rw [<-hi.length]; simp
  have z2:mJ.size=ms.length:=by rw [<-hj.length]; simp
  wp_walk using cg hl,cg hb,kn _ (fun rest b s'=>b.1=none/\s'=⟨hp,g,d,tk,os⟩/\∃ (vs ws:List Value) (Ud Uh:List Int),rest=vs.zip ws /\
   nG vs Ud/\nG ws Uh/\Ud.length+mJ.size=Uh.length+items.size/\R (.ok (.ret (.bool (lexLt Ud Uh)))) ⟨hp,g,d,tk,os⟩) _
  case turn =>
   rintro⟨y,x⟩ rest b s' ⟨Y4,rfl,vs,ws,Ud,Uh,hz,Yy,WD,hlen,hR⟩;cases Yy with
   | nil=>rw [List.zip_nil_left] at hz; cases hz
   | cons a t Yx =>
    cases WD with
    | nil=>rw [List.zip_nil_right] at hz; cases hz
    | cons c u Yv =>
     rw [oE] at hz;injection hz with Yo Nz
     injection Yo with hy hx
     subst hy hx;rw [Gd] at hR;simp only [aj] at hlen;obtain⟨e,he,VH⟩:=N6 A.in1 ⟨hp,g,d,tk,os⟩ a t c u;refine ag (he prog w _ _ ?_);cases e with
     | true =>
      rw [if_pos (VH.mp rfl)] at hR
      wp_walk
      exact⟨rfl,rfl,_,_,_,_,Nz,Yx,Yv,by lia,hR⟩
     | false =>
      rw [if_neg (fun q=>absurd (VH.mpr q) iK)] at hR;have Vw:=C4 A.in1 ⟨hp,g,d,tk,os⟩ a t c u prog w
      wp_walk using Vw
      exact⟨_,rfl,by simpa using hR⟩
  case fin =>
   rintro⟨b1,b2⟩ s' ⟨Y4,rfl,vs,ws,Ud,Uh,hz,Yy,WD,hlen,hR⟩;simp only at Y4;subst Y4;have hv:lexLt Ud Uh=decide (items.size < mJ.size):=by
    cases Yy with
    | nil =>
     cases WD with
     | nil =>
      simp only [aF] at hlen;rw [zg];exact(decide_eq_false (by lia)).symm
     | cons c u hw =>
      simp only [aF,aj] at hlen;rw [xX];exact(decide_eq_true (by lia)).symm
    | cons a t hv =>
     cases WD with
     | nil =>
      simp only [aF,aj] at hlen;rw [xY];exact(decide_eq_false (by lia)).symm
     | cons c u hw =>
      rw [oE] at hz;cases hz
   rw [hv] at hR
   wp_walk
   exact⟨_,rfl,by simpa [sD] using hR⟩
  case h =>
   exact⟨rfl,rfl,items.toList,mJ.toList,ns,ms,rfl,hi,hj,by lia,h⟩
end
section
variable {prog:bJ} {w:World} {A:dj} {E:Value->av->Prop} {s:av}
theorem FY{l b:Addr}{items mJ:Array Value}{ns ms:List Int}{Q:Value->av->Prop}(hl:IsTup s.heap l items)(hb:IsTup s.heap b mJ)(hi:nG items.toList ns)(hj:nG mJ.toList ms)
  (hu:A.units < cLine) (h:Q (.bool (lexLt ns ms)) s):wpAny (model prog w) A (eY .Lt (.ref l) (.ref b)) Q E s:=by
 obtain⟨⟨cls,dd,data,sl⟩,ho,hc,n,hd⟩:=id hl;obtain⟨⟨Oq,Cm,data2,HM⟩,DU,Aw,n2,hd2⟩:=id hb;simp only at hc hd Aw hd2;subst hc hd Aw hd2;exact vM (op:=.Lt) ⟨_,ho,rfl⟩ ⟨_,DU,rfl⟩ kK qF (oY _ _) (zb l b items mJ n n2 dd Cm sl HM ns ms hi hj)
  ⟨ho,DU,show Value.bool (lexLt ns ms)≠Value.notImplemented/\Q (.bool (lexLt ns ms)) s from⟨(fun x=>nomatch x),h⟩⟩ hu
theorem QO{t b:Addr}{vs ws:List Value}{Q:Value->av->Prop}(ht:IsTup s.heap t vs.toArray)(hb:IsTup s.heap b ws.toArray)(hv:vs≠[])
  (h1:ws=[]->Q (.ref t) s) (h2:ws≠[]->Q (.ref s.heap.objs.size) { s with heap:=s.heap.push { cls:=.type "tuple",data:=.seq (vs++ws).toArray } })
  (hsz:vs.length+ws.length<=a8):wpAny (model prog w) A (iF .Add (.ref t) (.ref b)) Q E s:=by
 obtain⟨⟨cls,dd,data,sl⟩,ho,hc,n,hd⟩:=id ht;obtain⟨⟨Oq,Cm,data2,HM⟩,DU,Aw,n2,hd2⟩:=id hb;simp only at hc hd Aw hd2;subst hc hd Aw hd2;have e:vs.toArray++ws.toArray=(vs++ws).toArray:=by simp
 by_cases hw:ws=[]
 ·exact concat_meets ⟨_,ho,rfl⟩ ⟨_,DU,rfl⟩ noFill_tuple_add seq_tuple_add Hr E9 (EO _ _)
   (tuple_addW1 t b vs.toArray ws.toArray n n2 dd Cm sl HM (by simpa using hv) (by simp [hw])) ⟨ho,DU,h1 hw⟩
 ·refine concat_meets ⟨_,ho,rfl⟩ ⟨_,DU,rfl⟩ noFill_tuple_add seq_tuple_add Hr E9 (EO _ _)
   (tuple_addW2 t b vs.toArray ws.toArray n n2 dd Cm sl HM (by simpa using hv) (by simpa using hw) (by rw [aW,aW]; exact hsz)) ⟨ho,DU,?_⟩
  rw [e];exact h2 hw
noncomputable def iW(n d:Nat):Option Int->Nat
 | none=>d
 | some v=>if v < 0 then (v+(n:Int)).toNat else min v.toNat n
theorem Sw(n d:Nat)(hd:d<=n)(o:Option Int):iW n d o<=n:=by
 cases o with
 | none=>exact hd
 | some v =>
  show (if v < 0 then (v+(n:Int)).toNat else min v.toNat n)<=n;by_cases hv:v < 0
  ·rw [if_pos hv]; lia
  ·rw [if_neg hv]; exact Nat.min_le_right _ _
theorem Jg(v:Int)(n d:Nat):(if v < 0 then max (v+(n:Int)) 0 else min v (n:Int))=((iW n d (some v):Nat):Int):=by
 show (if v < 0 then max (v+(n:Int)) 0 else min v (n:Int))=(((if v < 0 then (v+(n:Int)).toNat else min v.toNat n):Nat):Int);by_cases hv:v < 0
 ·simp only [if_pos hv]; lia
 ·simp only [if_neg hv]; lia
theorem Hb(lo hi:Option Int)(n:Nat):lT lo hi 1 (n:Int)=(((iW n 0 lo:Nat):Int),((iW n n hi:Nat):Int)):=by
 have h1:¬ ((1:Int) < 0):=by lia
 unfold lT;simp only [h1,if_false];refine Prod.ext ?_ ?_
 ·cases lo with
  | none=>rfl
  | some v=>exact Jg v n 0
 ·cases hi with
  | none=>rfl
  | some v=>exact Jg v n n
theorem FH(i j:Nat):iJ (i:Int) (j:Int) 1=j - i:=by
 unfold iJ;have h1:(1:Int) > 0:=by lia
 simp only [h1,if_true,Int.ediv_one];split <;> lia
theorem wR{v:Value}{o:Option Int}{Q:Option Int->av->Prop}(p:IsPart v o)(h:Q o s):wpAny (model prog w) A (Builtin.Slice.slicePartIndex v) Q E s:=by
 cases p with
 | none=>exact slicePart_none h
 | int i t=>exact slicePart_int h
theorem uz{sl:Addr}{vl vu:Value}{lo hi:Option Int}{n:Nat}{Q:Int×Int×Nat->av->Prop}(hs:s.heap.IsSliceOf sl vl vu .none)(pl:IsPart vl lo)(pu:IsPart vu hi)
  (h:Q (((iW n 0 lo:Nat):Int),1,iW n n hi - iW n 0 lo) s):wpAny (model prog w) A (vW (.ref sl) (pure (n:Int))) Q E s:=by
 obtain⟨os,VA,VM,WJ⟩:=id hs;unfold vW Builtin.Slice.sliceFields;refine ag (ag (oR VA WJ (x:=vl) rfl (ag (oR VA WJ (x:=vu) rfl (ag (oR VA WJ (x:=.none) rfl (aA ?_)))))));refine ag (slicePart_none ?_);show wpAny _ _ (if ((1:Int) == 0)=true then _ else _) _ _ s;rw [if_neg (by decide)];refine ag (wR pl (ag (wR pu (ag (aA ?_)))));show wpAny _ _ (match lT lo hi 1 (n:Int) with | (lo,hi)=>pure (lo,(1:Int),iJ lo hi 1)) _ _ s;rw [Hb lo hi n];show wpAny _ _ (pure (((iW n 0 lo:Nat):Int),(1:Int),iJ ((iW n 0 lo:Nat):Int) ((iW n n hi:Nat):Int) 1)) _ _ s;rw [FH];exact aA h
theorem Mw(xs:Array Value)(i k:Nat):((ij k).filterMap fun (m:Nat)=>xs[((i:Int)+(m:Int) * 1).toNat]?).toArray=((xs.toList.drop i).take k).toArray:=by
 have e:(fun (m:Nat)=>xs[((i:Int)+(m:Int) * 1).toNat]?)=fun m=>xs[i+m]?:=by
  funext m;have:((i:Int)+(m:Int) * 1).toNat=i+m:=by lia
  rw [this]
 rw [e];have:=pick_run xs i k;rw [List.filterMap_map] at this;have e2:((fun x=>xs[x]?)∘fun x=>i+x)=fun m=>xs[i+m]?:=rfl;rw [e2] at this;rw [this]
theorem tL{t sl:Addr}{items:Array Value}{vl vu:Value}{lo hi:Option Int}{Q:Value->av->Prop}(ht:IsTup s.heap t items)(hs:s.heap.IsSliceOf sl vl vu .none)(pl:IsPart vl lo)(pu:IsPart vu hi)
  (hw:¬ (iW items.size 0 lo=0/\iW items.size items.size hi=items.size))
  (h:Q (.ref s.heap.objs.size) { s with heap:=s.heap.push { cls:=.type "tuple",data:=.seq ((items.toList.drop (iW items.size 0 lo)).take (iW items.size items.size hi - iW items.size 0 lo)).toArray } })
  (hsz:items.size<=a8):wpAny (model prog w) A (getItem (.ref t) (.ref sl)) Q E s:=by
 have IP:sizeOk (.seq ((items.toList.drop (iW items.size 0 lo)).take (iW items.size items.size hi - iW items.size 0 lo)).toArray):=by
  show ((items.toList.drop (iW items.size 0 lo)).take (iW items.size items.size hi - iW items.size 0 lo)).toArray.size<=a8;rw [aW];exact aZ (aZ (List.length_take_le' _ _) (by rw [cV,eP]; exact Nat.sub_le _ _)) hsz
 have hj:iW items.size items.size hi<=items.size:=Sw _ _ (aE _) hi;obtain⟨os,VA,VM,WJ⟩:=id hs;have hTs:s.TypeIs (.ref sl) "slice":=⟨os,VA,VM⟩;unfold getItem
 try with_reducible refine eK ?_
 first | refine ag (aA ?_) | skip
 refine ag (wpAny_sequenceKey ht.typeIs (by decide) ?_);refine ag (iE (name:=uo "__getitem__") ht.typeIs ud
  (cX ud ht.typeIs entry_tuple_getitem ?_ (args_tuple_getitem _ _)))
 show wpAny _ _ (vV (.ref t) >>= _) _ _ s;refine ag (tupleItemsOf_ ht ?_);refine ag (wpAny_typeOf hTs ?_);rw [if_pos (by decide)];refine ag (uz hs pl pu ?_);have VB:¬ ((((iW items.size 0 lo:Nat):Int) == 0&&(1:Int) == 1&&(iW items.size items.size hi - iW items.size 0 lo) == items.size)=true):=by
  intro q;rw [aI,aI] at q;have q1:((iW items.size 0 lo:Nat):Int)=0:=eq_of_beq q.1.1;have q2:iW items.size items.size hi - iW items.size 0 lo=items.size:=eq_of_beq q.2;exact hw ⟨by lia,by lia⟩
 show wpAny _ _ (if (((iW items.size 0 lo:Nat):Int) == 0&&(1:Int) == 1&&(iW items.size items.size hi - iW items.size 0 lo) == items.size)=true then _ else _) _ _ s;rw [if_neg VB,Mw]
 first
  | exact ag (m:=iV _) (dg (aA ⟨_,rfl,aA h⟩) IP)
  | exact ag (m:=iV _) (dg (ag (aA (aA ⟨_,rfl,aA h⟩))) IP)
  | exact ag (ag (m:=iV _) (dg (aA (aA ⟨_,rfl,aA h⟩)) IP))
  | exact ag (ag (m:=iV _) (dg (aA ⟨_,rfl,aA h⟩) IP))
end
end HT
namespace L2
open PySem PySem.Spec PyProof.Rows
noncomputable abbrev TO:=St->Hp->(Option Int->Hp->Prop)->Prop
theorem intsAre_of{ns:List Int}:∀ {us:List Value},Vals (ns.map V.int) us->nG us ns:=by
 induction ns with
 | nil=>intro us r; rw [br] at r; cases r; exact .nil
 | cons n ns ih =>
  intro us r;rw [ak] at r;cases r with
  | cons r1 r2 =>
   obtain⟨t,e⟩:=r1;subst e;exact .cons n t (ih r2)
section
variable {X:Cx} {e:Expr} {te:TE} {lo hi:Option Expr} {tl th:TO} {pos p2:Pos}
noncomputable def Zv(X:Cx)(r:V->Option Int->Option Int->Hp->VK->Prop):Prop :=
 ∀ (pins:List (Addr×Obj)) (s:av) (σ:St) (H:Hp) (x:V) (v vl vu:Value) (lo hi:Option Int) (sl:Addr) (Q:VK),Inv X pins σ H s->RelV x v->s.heap.IsSliceOf sl vl vu .none->IsPart vl lo->IsPart vu hi->r x lo hi H Q ->
  ∃ T id,typeLookup (.type T) "__getitem__" = pure (some (.builtin id))/\s.TypeIs v T/\wpAny (model X.prog X.w) X.A (getItem v (.ref sl)) (EP X pins σ Q) X.xe s
noncomputable def Es(xs:List V)(lo hi:Option Int):List V:=(xs.drop (HT.iW xs.length 0 lo)).take (HT.iW xs.length xs.length hi - HT.iW xs.length 0 lo)
theorem vH(xs:List V)(lo hi:Option Int):(Es xs lo hi).length<=xs.length:=by
 unfold Es;rw [eF,cV];lia
noncomputable def Xu(K:ai):V->Option Int->Option Int->Hp->VK->Prop:=fun x lo hi H Q=>∃ a xs,x=.ref a/\wo K H a xs /\
 ¬ (HT.iW xs.length 0 lo=0/\HT.iW xs.length xs.length hi=xs.length)/\∀ p,H p=none->Q (.ref p) (upd H p (.tup (Es xs lo hi)))
theorem Ss:Zv X (Xu X.K):=by
 intro pins s σ H x v vl vu lo hi sl Q I rx hs pl pu h;obtain⟨a,xs,rfl,hx,hw,q⟩:=h;cases rx;obtain⟨bS,r,ht,hz⟩:=I.tuple hx;have hlen:bS.toArray.size=xs.length:=by rw [aW]; exact r.length.symm
 refine⟨"tuple",_,PyProof.Rows.slot_tuple_getitem.lookup,ht.typeIs,?_⟩;refine HT.tL ht hs pl pu (by rw [hlen]; exact hw) ?_ (by rw [hlen]; exact hz);rw [hlen];refine⟨.ref s.heap.objs.size,_,I.laid (t':=s.toks) (o:=.tup (Es xs lo hi)) (fun b ob q=>aJ _ q) (aE _) ?_,rfl,q _ (I.cD.fresh (aE _))⟩;exact⟨aZ (vH xs lo hi) hz,_,(r.drop (HT.iW xs.length 0 lo)).take (HT.iW xs.length xs.length hi - HT.iW xs.length 0 lo),IsTup.new _ _⟩
noncomputable def Xx(K:ai):R2:=fun x y H Q=>∃ a b ns ms,x=.ref a/\y=.ref b/\wo K H a (ns.map V.int)/\wo K H b (ms.map V.int)/\Q (.bl (HT.lexLt ns ms)) H
theorem SW(hu:X.A.units < cLine):KU X (eY .Lt) (Xx X.K):=by
 intro pins s σ H x y v u Q I rx ry h;obtain⟨a,b,ns,ms,rfl,rfl,ha,hb,q⟩:=h;cases rx;cases ry;obtain⟨bS,r1,p1,_⟩:=I.tuple ha;obtain⟨uM,r2,p2,_⟩:=I.tuple hb;have i1:nG bS.toArray.toList ns:=intsAre_of r1;have i2:nG uM.toArray.toList ms:=intsAre_of r2;exact HT.FY p1 p2 i1 i2 hu ⟨.bl (HT.lexLt ns ms),H,I,rfl,q⟩
noncomputable def UW(K:ai):R2:=fun x y H Q=>∃ a b xs ys,x=.ref a/\y=.ref b/\wo K H a xs/\wo K H b ys/\xs≠[]/\xs.length+ys.length<=a8 /\
 (ys=[]->Q (.ref a) H)/\(ys≠[]->∀ p,H p=none->Q (.ref p) (upd H p (.tup (xs++ys))))
theorem Vals.Bo{xs:List V}{us:List Value}(r:Vals xs us):us=[]↔xs=[]:=by
 cases r with
 | nil=>simp
 | cons _ _=>simp
theorem P2:KU X (iF .Add) (UW X.K):=by
 intro pins s σ H x y v u Q I rx ry h;obtain⟨a,b,xs,ys,rfl,rfl,ha,hb,hx,hz,q1,q2⟩:=h;cases rx;cases ry;obtain⟨bS,r1,p1,_⟩:=I.tuple ha;obtain⟨uM,r2,p2,_⟩:=I.tuple hb;refine HT.QO p1 p2 (fun z=>hx (r1.Bo.mp z)) (fun z=>⟨.ref a,H,I,rfl,q1 (r2.Bo.mp z)⟩) (fun z=>?_) (by rw [<-r1.length,<-r2.length]; exact hz);refine⟨.ref s.heap.objs.size,_,I.laid (t':=s.toks) (o:=.tup (xs++ys)) (fun b ob q=>aJ _ q) (aE _) ?_,rfl,q2 (fun w=>z (r2.Bo.mpr w)) _ (I.cD.fresh (aE _))⟩;exact⟨by rw [aG]; exact hz,_,r1.append r2,IsTup.new _ _⟩
end
noncomputable def II(n:Nat)(i:Int):Option Nat:=if 0<=i then (if i < n then some i.toNat else none) else if -(n:Int)<=i then some (i+n).toNat else none
noncomputable def u7{α:Type}(xs:List α)(i:Int):Option α:=(II xs.length i).bind fun j=>xs[j]?
theorem IH{n:Nat}{i:Int}{j:Nat}(h:II n i=some j):seqIndex? i n=some j/\j < n/\-(n:Int)<=i/\i < n:=by
 unfold II at h;by_cases h0:0<=i
 ·rw [if_pos h0] at h;by_cases h1:i < n
  ·rw [if_pos h1] at h;have e:i.toNat=j:=aX h;exact⟨by rw [seqIndex_of h0 h1,e],by lia,by lia,h1⟩
  ·rw [if_neg h1] at h; cases h
 ·rw [if_neg h0] at h;by_cases h1:-(n:Int)<=i
  ·rw [if_pos h1] at h;have e:(i+n).toNat=j:=aX h;exact⟨by rw [seqIndex_neg (by lia) h1,e],by lia,h1,by lia⟩
  ·rw [if_neg h1] at h; cases h
theorem Jk{α:Type}{xs:List α}{i:Int}{v:α}(h:u7 xs i=some v):∃ j,seqIndex? i xs.length=some j/\xs[j]?=some v/\j < xs.length/\-(xs.length:Int)<=i/\i < xs.length:=by
 unfold u7 at h;cases e:II xs.length i with
 | none=>rw [e] at h; cases h
 | some j =>
  rw [e] at h;obtain⟨h1,h2,h3,h4⟩:=IH e;exact⟨j,h1,h,h2,h3,h4⟩
noncomputable def QZ(b:Expr):Prop:=∀ o i,subscripted b false o i=operate [o,i] (getItem o i)
noncomputable def ZD(X:Cx)(r:R2):Prop :=
 ∀ (value slice:Expr) (pins:List (Addr×Obj)) (s:av) (σ:St) (H:Hp) (x y:V) (v u:Value) (Q:VK),Inv X pins σ H s->RelV x v->RelV y u->r x y H Q ->
  subscripted slice false v u=operate [v,u] (getItem v u)->wpAny (model X.prog X.w) X.A (subscriptTail value slice v u) (EP X pins σ Q) X.xe s
noncomputable def MtR(X:Cx)(id:String)(r:V->List V->Hp->VK->Prop):Prop :=
 ∀ (pins:List (Addr×Obj)) (s:av) (σ:St) (H:Hp) (x:V) (xs:List V) (v:Value) (us:List Value) (Q:VK),Inv X pins σ H s->RelV x v->Vals xs us->r x xs H Q ->
  wpAny (model X.prog X.w) X.A (call (.builtin id) (v :: us)) (EP X pins σ Q) X.xe s
section
variable {X:Cx} {a b:Expr} {ta tb:TE} {pos:Pos}
noncomputable def Xz(K:ai):R2:=fun x y H Q=>∃ p xs i v,x=.ref p/\y=.int i/\qc K H p xs/\u7 xs i=some v/\Q v H
noncomputable def Xy(K:ai):R2:=fun x y H Q=>∃ p xs i v,x=.ref p/\y=.int i/\wo K H p xs/\u7 xs i=some v/\Q v H
theorem IG:ZD X (Xz X.K):=by
 intro value slice pins s σ H x y v u Q I rx ry h hs;obtain⟨p,xs,i,z,rfl,rfl,hq,he,q⟩:=h;cases rx;obtain⟨t,rfl⟩:=ry;obtain⟨bS,r,pl,hz⟩:=I.list hq;obtain⟨j,h1,h2,h3,h4,h5⟩:=Jk he;obtain⟨w,ew,qJ⟩:=r.get h2;have hl:=r.length;have hn:=xW;have fin:EP X pins σ Q w s:=⟨z,H,I,qJ,q⟩;by_cases h0:0<=i
 ·have hj:i.toNat=j:=by
   rw [seqIndex_of h0 h5] at h1;exact aX h1
  exact item_listR pl.isList h0 (by lia) (by rw [hj]; simpa using ew) fin hs
 ·have hj:(i+(bS.toArray.size:Int)).toNat=j:=by
   rw [seqIndex_neg (by lia) h4] at h1;rw [aW,<-hl];exact aX h1
  exact subscriptTail_builtinR (x:=w) pl.isList.typeIs slot_list_getitem.lookup
   (wpAny_getItem_list_neg (Q:=fun r s'=>r=w/\EP X pins σ Q r s') pl.isList (by lia) (by rw [aW] <;> lia) (by lia) (by rw [hj]; simpa using ew) ⟨rfl,fin⟩) hs
theorem Tf:ZD X (Xy X.K):=by
 intro value slice pins s σ H x y v u Q I rx ry h hs;obtain⟨p,xs,i,z,rfl,rfl,hq,he,q⟩:=h;cases rx;obtain⟨t,rfl⟩:=ry;obtain⟨bS,r,pl,hz⟩:=I.tuple hq;obtain⟨j,h1,h2,h3,h4,h5⟩:=Jk he;obtain⟨w,ew,qJ⟩:=r.get h2;have hl:=r.length;have hn:=xW;have fin:EP X pins σ Q w s:=⟨z,H,I,qJ,q⟩;exact subscriptTail_builtinR (x:=w) pl.typeIs slot_tuple_getitem.lookup
  (getItem_tuple (j:=j) (Q:=fun r s'=>r=w/\EP X pins σ Q r s') pl (by lia) (by lia) (by rw [aW,<-hl]; exact h1) (by simpa using ew) ⟨rfl,fin⟩) hs
theorem FX (bS:List Value) (n j:Nat) (u:Value):iD (·.setIfInBounds j u) { cls:=.type "list",data:=.seq bS.toArray n } = { cls:=.type "list",data:=.seq (bS.set j u).toArray n }:=by
 simp [iD]
theorem Inv.lst{pins:List (Addr×Obj)}{σ:St}{H:Hp}{s:av}{p:Addr}{xs:List V}(I:Inv X pins σ H s)(h:H p=some (.lst xs)) :
  ∃ (bS:List Value) (n:Nat),Vals xs bS/\s.heap.get? p=some { cls:=.type "list",data:=.seq bS.toArray n }/\xs.length<=a8:=by
 obtain⟨z,bS,n,r,e⟩:=I.cD p _ h;exact⟨bS,n,r,e,z⟩
theorem Inv.S6{pins:List (Addr×Obj)}{σ:St}{H:Hp}{s:av}{p:Addr}{xs ys:List V}{bS its':List Value}{n n':Nat}{f:Obj->Obj}(I:Inv X pins σ H s)(h:H p=some (.lst xs))
  (ho:s.heap.get? p=some { cls:=.type "list",data:=.seq bS.toArray n }) (hf:f { cls:=.type "list",data:=.seq bS.toArray n } = { cls:=.type "list",data:=.seq its'.toArray n' }) (r:Vals ys its') (hz:ys.length<=a8) (t:Nat) :
  Inv X pins σ (upd H p (.lst ys)) { s with heap:=s.heap.update p f,toks:=t }:=by
 have e:(s.heap.update p f).get? p=some { cls:=.type "list",data:=.seq its'.toArray n' }:=by
  rw [ui f ho (by rw [hf] <;> rfl),hf]
 refine I.write (x:=p) (e:=p) (by rw [h]; trivial) (.inl rfl) (fun b u hb q=>(LF _ _ (gf hb)).trans q) ⟨_,e⟩ ?_;exact⟨hz,its',n',r,e⟩
noncomputable def UT:V->V->V->Hp->(Hp->Prop)->Prop:=fun o i v H Q=>∃ p xs k j,o=.ref p/\i=.int k/\H p=some (.lst xs)/\II xs.length k=some j/\Q (upd H p (.lst (xs.set j v)))
theorem set_list:Zw X UT:=by
 intro pins s σ H o i v ov iv u Q I ro ri rv h;obtain⟨p,xs,k,j,rfl,rfl,hp,hj,q⟩:=h;cases ro;obtain⟨t,rfl⟩:=ri;obtain⟨bS,n,r,ho,hz⟩:=I.lst hp;obtain⟨h1,h2,h3,h4⟩:=IH hj;have hl:=r.length;have hn:=xW;have I':Inv X pins σ (upd H p (.lst (xs.set j v))) { s with heap:=s.heap.update p (iD (·.setIfInBounds j u)) } :=
  I.S6 hp ho (FX bS n j u) (r.set rv j) (by rw [du]; exact hz) s.toks
 by_cases h0:0<=k
 ·have hk:k.toNat=j:=by
   rw [seqIndex_of h0 h4] at h1;exact aX h1
  exact PySem.W.ki_setAt ho h0 (by lia) (by rw [aW,<-hl]; exact h4) (by rw [hk]; exact⟨_,I',q⟩)
 ·have hk:(k+(bS.toArray.size:Int)).toNat=j:=by
   rw [seqIndex_neg (by lia) h3] at h1;rw [aW,<-hl];exact aX h1
  exact PySem.W.ki_setBack ho (by lia) (by rw [aW,<-hl]; exact h3) (by lia) (by rw [hk]; exact⟨_,I',q⟩)
theorem A7(lo hi:Option Int)(n:Nat):(oS lo hi none n).1=((HT.iW n 0 lo:Nat):Int)/\(oS lo hi none n).2.1=((HT.iW n n hi:Nat):Int)/\(oS lo hi none n).2.2=1:=by
 refine⟨?_,?_,rfl⟩
 ·cases lo with
  | none=>simp [oS,HT.iW]
  | some i =>
   simp only [oS,HT.iW,zG,show (1:Int) > 0 by decide,if_true];by_cases h:i < 0
   ·simp only [h,if_true] <;> lia
   ·simp only [h,if_false] <;> lia
 ·cases hi with
  | none=>simp [oS,HT.iW]
  | some i =>
   simp only [oS,HT.iW,zG,show (1:Int) > 0 by decide,if_true];by_cases h:i < 0
   ·simp only [h,if_true] <;> lia
   ·simp only [h,if_false] <;> lia
theorem zd(bS:List Value)(lo hi:Option Int):slicePick bS.toArray lo hi none=((bS.drop (HT.iW bS.length 0 lo)).take (HT.iW bS.length bS.length hi - HT.iW bS.length 0 lo)).toArray:=by
 obtain⟨h1,h2,h3⟩:=A7 lo hi bS.toArray.size;unfold slicePick;rw [h1,h2,h3];simp only [sliceRange_one,pick_run,aW] <;> rfl
noncomputable def Xv(K:ai):V->Option Int->Option Int->Hp->VK->Prop:=fun x lo hi H Q=>∃ a xs,x=.ref a/\qc K H a xs/\∀ p,H p=none->Q (.ref p) (upd H p (.lst (Es xs lo hi)))
theorem HK:Zv X (Xv X.K):=by
 intro pins s σ H x v vl vu lo hi sl Q I rx hs pl pu h;obtain⟨a,xs,rfl,hx,q⟩:=h;cases rx;obtain⟨bS,r,ht,hz⟩:=I.list hx;have hlen:=r.length;refine⟨"list",_,slot_list_getitem.lookup,ht.isList.typeIs,?_⟩;refine wpAny_getItem_list_slice ht.isList hs pl pu .none (by simp) ?_ (by rw [aW] <;> lia);rw [zd,<-hlen];refine⟨.ref s.heap.objs.size,_,I.laid (t':=s.toks) (o:=.lst (Es xs lo hi)) (fun b ob q=>aJ _ q) (aE _) ?_,rfl,q _ (I.cD.fresh (aE _))⟩;exact⟨aZ (vH xs lo hi) hz,_,0,(r.drop (HT.iW xs.length 0 lo)).take (HT.iW xs.length xs.length hi - HT.iW xs.length 0 lo),bz _ rfl⟩
theorem B2:OL X (.type "list") (fun xs H Q=>∃ p ys,xs=[.ref p]/\(qc X.K H p ys\/wo X.K H p ys)/\∀ l,H l=none->Q (.ref l) (upd H l (.lst ys))):=by
 intro pins s σ H xs us Q I r h;obtain⟨p,ys,rfl,hq,q⟩:=h;obtain⟨u,rfl,rx⟩:=vals1 r;cases rx;have fin:∀ (bS:List Value),Vals ys bS->ys.length<=a8->∀ (h':Heap) (c':Nat),(∀ b o',s.heap.get? b=some o'->h'.get? b=some o') ->
   h'.get? s.heap.objs.size=some { cls:=.type "list",dict:=none,data:=.seq bS.toArray c',slots:=#[] }->EP X pins σ Q (.ref s.heap.objs.size) { s with heap:=h' }:=fun bS r' hz h' c' kp e =>
  ⟨.ref s.heap.objs.size,_,I.laid (t':=s.toks) kp (aE _) (show fB X.prog X.w _ h' _ (.lst ys) from⟨hz,bS,c',r',e⟩),rfl,q _ (I.cD.fresh (aE _))⟩
 rcases hq with hq | hq
 ·obtain⟨bS,r',pl,hz⟩:=I.list hq;have hlen:=r'.length;obtain⟨o,ho,hc,n,hd⟩:=pl.isList;exact call_list_seq p (.inl rfl) ho hc hd (fun h' c' kp e=>fin bS r' hz h' c' kp e) (by simp only [aW] <;> lia)
 ·obtain⟨bS,r',pl,hz⟩:=I.tuple hq;have hlen:=r'.length;obtain⟨o,ho,hc,n,hd⟩:=pl;exact call_list_seq p (.inr rfl) ho hc hd (fun h' c' kp e=>fin bS r' hz h' c' kp e) (by simp only [aW] <;> lia)
theorem zA:OL X (.type "tuple") (fun xs H Q=>∃ p ys,xs=[.ref p]/\((qc X.K H p ys/\∀ l,H l=none->Q (.ref l) (upd H l (.tup ys)))\/(wo X.K H p ys/\Q (.ref p) H))):=by
 intro pins s σ H xs us Q I r h;obtain⟨p,ys,rfl,h⟩:=h;obtain⟨u,rfl,rx⟩:=vals1 r;cases rx;rcases h with ⟨hq,q⟩ | ⟨hq,q⟩
 ·obtain⟨bS,r',pl,hz⟩:=I.list hq;have hlen:=r'.length;refine call_tuple_list pl.isList (fun h' kp=>?_) (by simp only [aW] <;> lia);have I1:Inv X pins σ H { s with heap:=h' }:=I.kept (t':=s.toks) kp;have I2:Inv X pins σ (upd H h'.objs.size (.tup ys)) { s with heap:=h'.push { cls:=.type "tuple",data:=.seq bS.toArray } } :=
   I1.laid (t':=s.toks) (fun b o e=>aJ _ e) (aE _) (show fB X.prog X.w _ _ _ (.tup ys) from⟨hz,bS,r',IsTup.new _ _⟩)
  exact⟨.ref h'.objs.size,_,I2,rfl,q _ (I1.cD.fresh (aE _))⟩
 ·obtain⟨bS,r',pl,hz⟩:=I.tuple hq;exact call_tuple_same pl ⟨.ref p,H,I,rfl,q⟩
noncomputable def tyV(K:ai)(T:String)(x:V)(H:Hp):Prop:=match x with
 | .str _=>T = "str"
 | .int _=>T = "int"
 | .ref p=>(T = "list"/\∃ xs,qc K H p xs)\/(T = "tuple"/\∃ o,K.lookup p=some o/\o.cls=.type "tuple"/\o.dict=none) \/
   (T = "dict"/\((∃ kvs,H p=some (.dK kvs))\/∃ kvs,H p=some (.dT kvs)))\/(T = "set"/\∃ S n,H p=some (.set S n))
 | _=>False
theorem A3{pins:List (Addr×Obj)}{σ:St}{H:Hp}{s:av}{T:String}{x:V}{v:Value}(I:Inv X pins σ H s)(r:RelV x v)(ty:tyV X.K T x H) :
  s.TypeIs v T/\∀ a,v=.ref a->∃ ob,s.heap.get? a=some ob/\ob.dict=none:=by
 cases x with
 | str z =>
  obtain⟨t,rfl⟩:=r;cases (show T = "str" from ty);exact⟨typeIs_str s z t,fun _ e=>nomatch e⟩
 | int i =>
  obtain⟨t,rfl⟩:=r;cases (show T = "int" from ty);exact⟨typeIs_int s i t,fun _ e=>nomatch e⟩
 | ref p =>
  cases r;rcases ty with ⟨rfl,xs,hq⟩ | ⟨rfl,o,hk,hc,hd⟩ | ⟨rfl,hk⟩ | ⟨rfl,S,n,hk⟩
  ·obtain⟨bS,_,pl,_⟩:=I.list hq;refine⟨pl.isList.typeIs,fun a e=>?_⟩;cases e;obtain⟨o,n,e,c,hd,_⟩:=pl;exact⟨o,e,hd⟩
  ·refine⟨⟨o,I.ID p o hk,hc⟩,fun a e=>?_⟩;cases e;exact⟨o,I.ID _ o hk,hd⟩
  ·have z:∃ o,s.heap.get? p=some o/\o.ExactDict:=by
    rcases hk with ⟨kvs,hk⟩ | ⟨kvs,hk⟩
    ·obtain⟨_,_,_,_,o,_,_,e,ex,_⟩:=I.cD p _ hk;exact⟨o,e,ex⟩
    ·obtain⟨_,_,_,_,o,_,_,e,ex,_⟩:=I.cD p _ hk;exact⟨o,e,ex⟩
   obtain⟨o,e,ex⟩:=z;refine⟨⟨o,e,ex.1⟩,fun a e2=>?_⟩;cases e2;exact⟨o,e,ex.2.1⟩
  ·obtain⟨o,_,_,_,e,ex,_⟩:=I.cD p _ hk;refine⟨⟨o,e,ex.1⟩,fun a e2=>?_⟩;cases e2;exact⟨o,e,ex.2.1⟩
 | _=>exact bO ty
variable {o e:Expr} {es:List Expr} {to:TE} {t:TA} {name:Str} {apos jk:Pos} {T id:String} {r:V->List V->Hp->VK->Prop}
/- xs.append(e),list.index on a Vj tuple .. are MtR facts of 06m -/
end
noncomputable def MtM(X:Cx)(id:String)(r:V->List V->Hp->VK->Prop):Prop :=
 ∀ (pins:List (Addr×Obj)) (s:av) (σ:St) (H:Hp) (x:V) (xs:List V) (v:Value) (us:List Value) (Q:VK),Inv X pins σ H s->RelV x v->Vals xs us->r x xs H Q ->
  wpAny (model X.prog X.w) X.A (call (.builtin id) (v :: us)) (EP X pins σ Q) X.xe s
theorem Vals.one:∀ {x:V} {us:List Value},Vals [x] us->∃ u,us=[u]/\RelV x u:=by
 intro x us h;cases h with
 | cons r t=>cases t; exact⟨_,rfl,r⟩
section
variable {X:Cx} {pins:List (Addr×Obj)} {σ:St} {H:Hp} {s:av} {l b:Addr} {xs ys zs:List V}
theorem Inv.Vl{bS its':List Value}{n:Nat}{f:Array Value->Array Value}{t':Nat}(I:Inv X pins σ H s)(hH:H l=some (.lst xs))
  (e:s.heap.get? l=some { cls:=.type "list",data:=.seq bS.toArray n }) (hf:f bS.toArray=its'.toArray) (hv:Vals ys its') (hz:ys.length<=a8) :
  Inv X pins σ (upd H l (.lst ys)) { s with heap:=s.heap.update l (iD f),toks:=t' }:=by
 have q:=PySem.IsL.update e f;rw [hf] at q;refine I.write (x:=l) (e:=l) (by rw [hH]; exact trivial) (.inl rfl) (fun b' u hb hu=>(LF s.heap (iD f) (gf hb)).trans hu) ⟨_,q⟩ ?_;exact⟨hz,its',_,hv,q⟩
theorem Inv.X7{bS:List Value}{t':Nat}(I:Inv X pins σ H s)(hv:Vals ys bS)(hz:ys.length<=a8) :
  Inv X pins σ (upd H s.heap.objs.size (.lst ys)) { s with heap:=s.heap.push { cls:=.type "list",data:=.seq bS.toArray },toks:=t' } :=
 I.laid (fun _ _ q=>aJ _ q) (aE _) ⟨hz,bS,0,hv,bz _ rfl⟩
theorem Inv.Vk (I:Inv X pins σ H s) (hH:H l=some (.lst xs)):xs.length<=a8/\∃ (bS:List Value) (n:Nat),Vals xs bS/\xs.length=bS.length/\s.heap.get? l=some { cls:=.type "list",data:=.seq bS.toArray n }:=by
 obtain⟨z,bS,n,r,e⟩:=I.cD l _ hH;exact⟨z,bS,n,r,r.length,e⟩
theorem MM{n:Nat}(h:n<=a8):i6 n=false:=by
 unfold i6;exact decide_eq_false (by lia)
end
section
variable {X:Cx}
noncomputable def PG:V->List V->Hp->VK->Prop:=fun x vs H Q=>∃ l xs y,x=.ref l/\vs=[y]/\H l=some (.lst xs)/\xs.length < a8/\Q .eh (upd H l (.lst (xs++[y])))
theorem z8:MtM X "list.append" PG:=by
 intro pins s σ H x vs v us Q I rx rv h;obtain⟨l,xs,y,rfl,rfl,hH,hz,q⟩:=h;cases rx;obtain⟨u,rfl,ru⟩:=rv.one;obtain⟨z,bS,n,r,hl,e⟩:=I.Vk hH;refine call_meets F.slot_list_append ⟨_,e,rfl⟩ F.entry_list_append (F.args_list_append_2 _ _) (PySem.list_append l bS.toArray n u (by rw [aW]; lia)) ⟨e,?_⟩;refine⟨.eh,_,I.Vl (its':=bS++[u]) hH e (by simp) (r.append (.cons ru .nil)) ?_,rfl,q⟩;rw [aG,dq];lia
end
section
variable {κ:Type} [DecidableEq κ]
noncomputable def kM(kvs:List (κ×V))(k:κ):Option V:=(kvs.find? fun kv=>decide (kv.1=k)).map (·.2)
noncomputable def putK(kvs:List (κ×V))(k:κ)(v:V):List (κ×V) :=
 if (kvs.any fun kv=>decide (kv.1=k))=true then kvs.map (fun kv=>if kv.1=k then (kv.1,v) else kv) else kvs++[(k,v)]
theorem o6{p:κ×V}{r:List (κ×V)}{k:κ}(e:p.1=k):kM (p :: r) k=some p.2:=by simp [kM,dO,e]
theorem o7{p:κ×V}{r:List (κ×V)}{k:κ}(e:¬ p.1=k):kM (p :: r) k=kM r k:=by simp [kM,dO,e]
theorem CG(k:κ):∀ kvs:List (κ×V),(kvs.any fun kv=>decide (kv.1=k))=(kM kvs k).isSome
 | []=>rfl
 | p :: r=>by
  rw [ku];by_cases e:p.1=k
  ·simp only [o6 e,decide_eq_true e,Bool.true_or,Option.isSome_some]
  ·rw [o7 e,decide_eq_false e,K9]; exact CG k r
theorem vD(kvs:List (κ×V))(k:κ)(v:V):(putK kvs k v).length<=kvs.length+1:=by
 unfold putK;split
 ·rw [aB]; lia
 ·rw [aG,aj,aF]; lia
theorem vc.nc{o:Option V}{u:Option Value}(r:vc o u):o.isSome=u.isSome:=by
 cases o with
 | none=>cases u with
  | none=>rfl
  | some _=>exact(show False from r).elim
 | some _=>cases u with
  | none=>exact(show False from r).elim
  | some _=>rfl
theorem vc.getD{o:Option V}{u:Option Value}{d:V}{d':Value}(r:vc o u)(rd:RelV d d'):RelV (o.getD d) (u.getD d'):=by
 cases o with
 | none=>cases u with
  | none=>exact rd
  | some _=>exact(show False from r).elim
 | some _=>cases u with
  | none=>exact(show False from r).elim
  | some _=>exact r
theorem KV.val{kvs:List (κ×V)}{vs:List (κ×Value)}(r:KV kvs vs)(k:κ):vc (kM kvs k) (Lr vs k):=by
 unfold KV at r;induction r with
 | nil=>exact fI
 | @cons p q ps qs h t ih =>
  obtain⟨h1,h2⟩:=h;by_cases e:p.1=k
  ·have e':q.1=k:=h1.symm.trans e;have b:Lr (q :: qs) k=some q.2:=by simp [Lr,dO,e']
   rw [o6 e,b]; exact h2
  ·have e':¬ q.1=k:=fun z=>e (h1.trans z);have b:Lr (q :: qs) k=Lr qs k:=by simp [Lr,dO,e']
   rw [o7 e,b]; exact ih
theorem KV.any{kvs:List (κ×V)}{vs:List (κ×Value)}(r:KV kvs vs)(k:κ):(kvs.any fun kv=>decide (kv.1=k))=vs.any fun kv=>decide (kv.1=k):=by
 unfold KV at r;induction r with
 | nil=>rfl
 | cons h t ih=>rw [ku,ku,ih,h.1]
theorem KV.Mi{kvs:List (κ×V)}{vs:List (κ×Value)}(r:KV kvs vs)(k:κ){y:V}{u:Value}(ry:RelV y u) :
  KV (kvs.map fun kv=>if kv.1=k then (kv.1,y) else kv) (vs.map fun kv=>if kv.1=k then (kv.1,u) else kv):=by
 unfold KV at r ⊢;induction r with
 | nil=>exact .nil
 | @cons p q ps qs h t ih =>
  rw [ak,ak];refine .cons ?_ ih;obtain⟨h1,h2⟩:=h;by_cases e:p.1=k
  ·rw [if_pos e,if_pos (h1.symm.trans e)]; exact⟨h1,ry⟩
  ·rw [if_neg e,if_neg (fun z=>e (h1.trans z))]; exact⟨h1,h2⟩
theorem KV.put{kvs:List (κ×V)}{vs:List (κ×Value)}(r:KV kvs vs)(k:κ){y:V}{u:Value}(ry:RelV y u):KV (putK kvs k y) (stored vs k u):=by
 unfold putK stored;rw [r.any k];by_cases e:(vs.any fun kv=>decide (kv.1=k))=true
 ·rw [if_pos e,if_pos e]; exact r.Mi k ry
 ·rw [if_neg e,if_neg e]; exact ON r ⟨rfl,ry⟩
theorem KV.length{kvs:List (κ×V)}{vs:List (κ×Value)}(r:KV kvs vs):kvs.length=vs.length:=gX r
end
theorem xZ{P:bJ}{w:World}{k:Key}{u:Value}(r:RelV (kV k) u):(cK P w).is k u=true:=by
 cases k with
 | inl i=>obtain⟨t,e⟩:=(show ∃ t,u=dW i t from r); subst e; exact Dy P w i t
 | inr x=>obtain⟨t,e⟩:=(show ∃ t,u=Value.str x t from r); subst e; exact Dx P w x t
theorem Ap{P:bJ}{w:World}:∀ {ks:List Key} {us:List Value},Vals (ks.map kV) us->ItemsAre (cK P w) ks us
 | [],_,r=>by rw [br] at r; cases r; exact .nil
 | k :: ks,_,r=>by
  rw [ak] at r;cases r with
  | cons h t=>exact .cons (xZ h) (Ap t)
noncomputable abbrev KT(H:Hp):List (List Key×V)->List (List Key×Addr×Value)->Prop:=jH fun p q=>p.1=q.1/\H q.2.1=some (.tup (p.1.map kV))/\RelV p.2 q.2.2
theorem KT.val{H:Hp}{kvs:List (List Key×V)}{xs:List (List Key×Addr×Value)}(r:KT H kvs xs)(k:List Key):vc (kM kvs k) ((atKey xs k).map (·.2)):=by
 induction r with
 | nil=>exact fI
 | @cons p q ps qs h t ih =>
  obtain⟨h1,_,h2⟩:=h;by_cases e:p.1=k
  ·have e':q.1=k:=h1.symm.trans e;have b:atKey (q :: qs) k=some q.2:=by simp [atKey,dO,e']
   rw [o6 e,b]; exact h2
  ·have e':¬ q.1=k:=fun z=>e (h1.trans z);have b:atKey (q :: qs) k=atKey qs k:=by simp [atKey,dO,e']
   rw [o7 e,b]; exact ih
theorem KT.Mi{H:Hp}{kvs:List (List Key×V)}{xs:List (List Key×Addr×Value)}(r:KT H kvs xs)(k:List Key){y:V}{u:Value}(ry:RelV y u) :
  KT H (kvs.map fun kv=>if kv.1=k then (kv.1,y) else kv) (xs.map (putAt k u)):=by
 induction r with
 | nil=>exact .nil
 | @cons p q ps qs h t ih =>
  rw [ak,ak];refine .cons ?_ ih;obtain⟨h1,h2,h3⟩:=h;unfold putAt;by_cases e:p.1=k
  ·rw [if_pos e,if_pos (h1.symm.trans e)]; exact⟨h1,h2,ry⟩
  ·rw [if_neg e,if_neg (fun z=>e (h1.trans z))]; exact⟨h1,h2,h3⟩
theorem KT.put{H:Hp}{kvs:List (List Key×V)}{xs:List (List Key×Addr×Value)}(r:KT H kvs xs)(k:List Key){b:Addr}{y:V}{u:Value}(hb:H b=some (.tup (k.map kV)))(ry:RelV y u) :
  KT H (putK kvs k y) (E2 xs k b u):=by
 have e:(kvs.any fun kv=>decide (kv.1=k))=(atKey xs k).isSome:=by
  rw [CG,(r.val k).nc,yT]
 unfold putK E2;rw [e];by_cases q:(atKey xs k).isSome=true
 ·rw [if_pos q,if_pos q]; exact r.Mi k ry
 ·rw [if_neg q,if_neg q]; exact ON r ⟨rfl,hb,ry⟩
theorem KT.keeps{H H':Hp}{kvs:List (List Key×V)}{xs:List (List Key×Addr×Value)}(r:KT H kvs xs)(ht:∀ b ys,H b=some (.tup ys)->H' b=some (.tup ys)):KT H' kvs xs :=
 Paired.S5 r fun _ _ z=>⟨z.1,ht _ _ z.2.1,z.2.2⟩
section
variable {P:bJ} {w:World} {H:Hp} {h:Heap} {a:Addr}
theorem Ri{u:HO}(ok:oB P w H h)(e:Rd H a u):fB P w H h a u:=e.ok ok
theorem rg{kvs:List (Key×V)}(ok:oB P w H h)(e:Rd H a (.dK kvs)):kvs.length<=a8/\(a == cY)=false/\∃ vs,KV kvs vs/\h.DictOf (cK P w) a vs :=
 show fB P w H h a (.dK kvs) from Ri ok e
theorem AG{kvs:List (Key×V)}(ok:oB P w H h)(e:H a=some (.dK kvs)):kvs.length<=a8/\(a == cY)=false/\∃ vs,KV kvs vs/\h.DictOf (cK P w) a vs:=rg ok (.inl e)
theorem uL{ks:List Key}(ok:oB P w H h)(e:H a=some (.tup (ks.map kV))):(hU (cK P w)).is h ks a:=by
 obtain⟨_,bS,r,o,h1,h2,n,h3⟩:=(show fB P w H h a (.tup (ks.map kV)) from ok a _ e);exact⟨o,bS.toArray,n,h1,h2,h3,by simpa using Ap r⟩
theorem yv{kvs:List (List Key×V)}(ok:oB P w H h)(e:Rd H a (.dT kvs)):kvs.length<=a8/\(a == cY)=false /\
  ∃ xs,KT H kvs xs/\h.DictOfH (hU (cK P w)) a xs:=by
 obtain⟨z,y,xs,r,o,es,ep,h1,h2,h3,h4,h5⟩:=(show fB P w H h a (.dT kvs) from Ri ok e);refine⟨z,y,xs,r,o,es,ep,h1,h2,h3,h4,fun x hx=>?_,h5⟩;have all:∀ {l:List (List Key×V)} {m:List (List Key×Addr×Value)},KT H l m->∀ x∈m,(hU (cK P w)).is h x.1 x.2.1:=by
  intro l m q;induction q with
  | nil=>intro x hx; exact nomatch hx
  | @cons p q ps qs hq t ih =>
   intro x hx;rcases List.mem_cons.mp hx with e | hx
   ·subst e;exact uL ok (by rw [<-hq.1]; exact hq.2.1)
   ·exact ih x hx
 exact all r x hx
theorem N7{kvs:List (List Key×V)}(ok:oB P w H h)(e:H a=some (.dT kvs)):kvs.length<=a8/\(a == cY)=false /\
  ∃ xs,KT H kvs xs/\h.DictOfH (hU (cK P w)) a xs:=yv ok (.inl e)
end
noncomputable def yO(H:Hp)(a:Addr)(y:V)(r:Option V):Prop :=
 (∃ kvs k,Rd H a (.dK kvs)/\y=kV k/\r=kM kvs k)\/∃ kvs k b,Rd H a (.dT kvs)/\y=.ref b/\H b=some (.tup (k.map kV))/\r=kM kvs k
noncomputable def K4(H:Hp)(a:Addr)(y v:V)(H':Hp):Prop :=
 (∃ kvs k,H a=some (.dK kvs)/\y=kV k/\kvs.length < a8/\H'=upd H a (.dK (putK kvs k v))) \/
 ∃ kvs k b,H a=some (.dT kvs)/\y=.ref b/\H b=some (.tup (k.map kV))/\kvs.length < a8/\H'=upd H a (.dT (putK kvs k v))
theorem yO.k{H:Hp}{a:Addr}{kvs:List (Key×V)}{k:Key}(e:H a=some (.dK kvs)):yO H a (kV k) (kM kvs k):=.inl ⟨kvs,k,.inl e,rfl,rfl⟩
theorem yO.t{H:Hp}{a b:Addr}{kvs:List (List Key×V)}{k:List Key}(e:H a=some (.dT kvs))(eb:H b=some (.tup (k.map kV))):yO H a (.ref b) (kM kvs k):=.inr ⟨kvs,k,b,.inl e,rfl,eb,rfl⟩
theorem K4.k{H:Hp}{a:Addr}{kvs:List (Key×V)}{k:Key}{v:V}(e:H a=some (.dK kvs))(hl:kvs.length < a8):K4 H a (kV k) v (upd H a (.dK (putK kvs k v))):=.inl ⟨kvs,k,e,rfl,hl,rfl⟩
theorem K4.t{H:Hp}{a b:Addr}{kvs:List (List Key×V)}{k:List Key}{v:V}(e:H a=some (.dT kvs))(eb:H b=some (.tup (k.map kV)))(hl:kvs.length < a8) :
  K4 H a (.ref b) v (upd H a (.dT (putK kvs k v))):=.inr ⟨kvs,k,b,e,rfl,eb,hl,rfl⟩
section
variable {X:Cx} {pins:List (Addr×Obj)} {σ:St} {H:Hp} {s:av} {a:Addr} {y v:V} {u r:Value} {o:Option V} {A:dj} {E:Value->av->Prop}
theorem Inv.big(I:Inv X pins σ H s):cY < s.heap.objs.size:=by
 have h:bP < s.heap.objs.size:=(I.mod.glob.keeps I.bk).lt;exact Nat.lt_trans (by decide) h
theorem u0{Q:Value->av->Prop}(hu:A.units+1 < cLine)(I:Inv X pins σ H s)(g:yO H a y (some v))(ry:RelV y u)(h:∀ w' s',Inv X pins σ H s'->RelV v w'->Q w' s') :
  wpAny (model X.prog X.w) A (getItem (.ref a) u) Q E s:=by
 rcases g with ⟨kvs,k,e,ey,l⟩ | ⟨kvs,k,b,e,ey,eb,l⟩
 ·subst ey;obtain⟨z,hd,vs,rel,dd⟩:=rg I.cD e;obtain⟨w',hw,qJ⟩:=vc.some_of (v:=v) (o:=Lr vs k) (by rw [l]; exact rel.val k);exact wpAny_getItem_of (xZ ry) dd.mapOf hw (h w' _ (I.tok _) qJ)
 ·subst ey;cases (show u=fk b from ry);obtain⟨z,hd,xs,rel,dd⟩:=yv I.cD e;obtain⟨w',hw,qJ⟩:=vc.some_of (v:=v) (o:=(atKey xs k).map (·.2)) (by rw [l]; exact rel.val k);obtain⟨p,hp,oQ⟩:=Option.map_eq_some_iff.mp hw;refine wpAny_getItem_heap (lx hu) (uL I.cD eb) dd hp ?_;rw [oQ];exact h w' _ (I.tok _) qJ
theorem V0{Q:Value->av->Prop}(hu:A.units+1 < cLine)(I:Inv X pins σ H s)(g:yO H a y o)(ry:RelV y u)(h:∀ s',Inv X pins σ H s'->Q (.bool o.isSome) s') :
  wpAny (model X.prog X.w) A (eY .In u (.ref a)) Q E s:=by
 rcases g with ⟨kvs,k,e,ey,l⟩ | ⟨kvs,k,b,e,ey,eb,l⟩
 ·subst ey;obtain⟨z,hd,vs,rel,dd⟩:=rg I.cD e;refine wpAny_in_of (xZ ry) hd dd.mapOf ?_;rw [<-(rel.val k).nc,<-l];exact h _ (I.tok _)
 ·subst ey;cases (show u=fk b from ry);obtain⟨z,hd,xs,rel,dd⟩:=yv I.cD e;refine wpAny_in_heap (lx hu) (uL I.cD eb) hd dd ?_;have q:=(rel.val k).nc;rw [yT] at q;rw [<-q,<-l];exact h _ (I.tok _)
theorem Jd{Q:Value->av->Prop}(hu:A.units+1 < cLine)(I:Inv X pins σ H s)(g:yO H a y o)(ry:RelV y u)(h:∀ s',Inv X pins σ H s'->Q (.bool (!o.isSome)) s') :
  wpAny (model X.prog X.w) A (eY .NotIn u (.ref a)) Q E s:=by
 rcases g with ⟨kvs,k,e,ey,l⟩ | ⟨kvs,k,b,e,ey,eb,l⟩
 ·subst ey;obtain⟨z,hd,vs,rel,dd⟩:=rg I.cD e;refine wpAny_notIn_of (xZ ry) hd dd.mapOf ?_;rw [<-(rel.val k).nc,<-l];exact h _ (I.tok _)
 ·subst ey;cases (show u=fk b from ry);obtain⟨z,hd,xs,rel,dd⟩:=yv I.cD e;refine wpAny_notIn_heap (lx hu) (uL I.cD eb) hd dd ?_;have q:=(rel.val k).nc;rw [yT] at q;rw [<-q,<-l];exact h _ (I.tok _)
theorem qA{h':Heap}{t':Nat}{ob:HO}(I:Inv X pins σ H s)(mu:Wf (H a))(hs:fc a s.heap h')(he:∃ q,h'.get? a=some q)(new:fB X.prog X.w (upd H a ob) h' a ob) :
  Inv X pins σ (upd H a ob) { s with heap:=h',toks:=t' } :=
 I.write (x:=a) (e:=a) mu (.inl rfl) (fun b q hb z=>(hs.2 b hb).trans z) he new
theorem BQ{P:bJ}{w:World}{H':Hp}{h':Heap}{kvs:List (Key×V)}{vs:List (Key×Value)}(z:kvs.length<=a8)(hd:(a == cY)=false)(rel:KV kvs vs)(dd:h'.DictOf (cK P w) a vs) :
  fB P w H' h' a (.dK kvs):=⟨z,hd,vs,rel,dd⟩
theorem KG{H':Hp}{Q:Unit->av->Prop}(hu:A.units+1 < cLine)(I:Inv X pins σ H s)(g:K4 H a y v H')(ry:RelV y u)(rv:RelV v r)(h:∀ s',Inv X pins σ H' s'->Q () s') :
  wpAny (model X.prog X.w) A (setItem (.ref a) u r) Q E s:=by
 rcases g with ⟨kvs,k,e,ey,l,eH⟩ | ⟨kvs,k,b,e,ey,eb,l,eH⟩
 ·subst ey eH;obtain⟨z,hd,vs,rel,dd⟩:=AG I.cD e;have hz:vs.length<=a8:=by rw [<-rel.length]; exact z
  have hl:(putK kvs k v).length<=a8:=by have:=vD kvs k v; lia
  refine wpAny_setItem_pairs (hsz:=hz) (xZ ry) dd fun h' AJ hs=>h _ ?_;have he:∃ q,h'.get? a=some q:=let ⟨q,_,_,hq,_⟩:=AJ; ⟨q,hq⟩
  exact qA I (by rw [e]; exact fI) hs he (BQ hl hd (rel.put k rv) AJ)
 ·subst ey eH;cases (show u=fk b from ry);obtain⟨z,hd,xs,rel,dd⟩:=N7 I.cD e;have hz:xs.length<=a8:=by rw [<-gX rel]; exact z
  have hl:(putK kvs k v).length<=a8:=by have:=vD kvs k v; lia
  refine wpAny_setItem_heap (hsz:=hz) (lx hu) (uL I.cD eb) dd fun h' AJ hs=>h _ ?_;obtain⟨q,es,ep,hq,h2,h3,h4,_,h5⟩:=AJ;refine qA I (by rw [e]; exact fI) hs ⟨q,hq⟩ ⟨hl,hd,_,(rel.put k eb rv).keeps fun c ys ec=>?_,q,es,ep,hq,h2,h3,h4,h5⟩;rw [bL (Rq ec e (fun z=>nomatch z))];exact ec
end
section
variable {X:Cx} {pins:List (Addr×Obj)} {σ:St} {H:Hp} {s:av} {a:Addr} {kvs:List (Key×V)} {k:Key} {u:Value} {A:dj} {E:Value->av->Prop}
theorem RP {Q:Value->av->Prop} (I:Inv X pins σ H s) (e:Rd H a (.dK kvs)) (h:∀ t s',Inv X pins σ H s'->Q (.int kvs.length t) s'):wpAny (model X.prog X.w) A (call (.builtin "len") [.ref a]) Q E s:=by
 obtain⟨z,hd,vs,rel,dd⟩:=rg I.cD e;refine call_len_dict hd dd (by rw [<-rel.length]; rw [cS] at z; lia) ?_;rw [<-rel.length];exact h _ _ (I.tok _)
theorem QB{Q:Bool->av->Prop}(I:Inv X pins σ H s)(e:Rd H a (.dK kvs))(h:∀ s',Inv X pins σ H s'->Q (!kvs.isEmpty) s'):wpAny (model X.prog X.w) A (truthy (.ref a)) Q E s:=by
 obtain⟨z,hd,vs,rel,dd⟩:=rg I.cD e;refine E1 hd dd (by rw [<-rel.length]; rw [cS] at z; lia) ?_;have q:kvs.isEmpty=vs.isEmpty:=by cases rel <;> rfl
 rw [<-q];exact h _ (I.tok _)
end
theorem pV {X:Cx} {pins:List (Addr×Obj)} {σ:St} {H:Hp} {s:av} {a:Addr} {y:V} {o:Option V} (I:Inv X pins σ H s) (g:yO H a y o):s.TypeIs (.ref a) "dict":=by
 rcases g with ⟨kvs,k,e,_,_⟩ | ⟨kvs,k,b,e,_,_,_⟩
 ·obtain⟨_,_,vs,_,dd⟩:=rg I.cD e;exact dd.typeIs
 ·obtain⟨_,_,xs,_,dd⟩:=yv I.cD e;exact dd.typeIs
theorem Ee {P:bJ} {w:World} {H:Hp} (h:Heap) (hb:cY < h.objs.size):fB P w H (h.push { cls:=.type "dict",data:=.dict #[] }) h.objs.size (.dK []) :=
 ⟨cE _,beq_eq_false_iff_ne.mpr (gf (bK hb)),[],.nil,Heap.DictOf.new h⟩
noncomputable def Sg:TE:=fun _ H Q=>∀ p,H p=none->Q (.ref p) (upd H p (.dK []))
section
variable {X:Cx} {pos:Pos}
theorem Mz:PE X (.Dict [] [] pos) Sg:=fun pins s σ H Q I h =>
 wpAny_Dict_empty ⟨.ref s.heap.objs.size,_,I.laid (a:=s.heap.objs.size) (o:=.dK []) (t':=s.toks) (fun _ _ q=>aJ _ q) (aE _) (Ee s.heap I.big),rfl,h _ (I.cD.fresh (aE _))⟩
end
noncomputable abbrev VV:List (V×V)->List (Value×Value)->Prop:=jH fun p q=>RelV p.1 q.1/\RelV p.2 q.2
noncomputable def FV(kvs more:List (Key×V)):List (Key×V):=more.foldl (fun acc kv=>putK acc kv.1 kv.2) kvs
theorem KV.merge:∀ {more:List (Key×V)} {rs:List (Key×Value)} {kvs:List (Key×V)} {vs:List (Key×Value)},KV more rs->KV kvs vs->KV (FV kvs more) (merged vs rs):=by
 intro more rs kvs vs r;unfold KV at r;induction r generalizing kvs vs with
 | nil=>intro q; exact q
 | @cons p q ps qs h t ih =>
  intro r0;have e:KV (putK kvs p.1 p.2) (stored vs q.1 q.2):=by
   have:=r0.put p.1 h.2;rw [<-h.1]; exact this
  exact ih e
theorem yD{P:bJ}{w:World}:∀ {kvs:List (Key×V)} {ws:List (Value×Value)},VV (kvs.map fun kv=>(kV kv.1,kv.2)) ws->∃ rs,Carries (cK P w) ws rs/\KV kvs rs
 | [],_,r=>by rw [br] at r; cases r; exact⟨[],fI,.nil⟩
 | p :: kvs,_,r=>by
  rw [ak] at r;cases r with
  | @cons a b as bs h t =>
   obtain⟨rs,c,q⟩:=yD (P:=P) (w:=w) t;obtain⟨b1,b2⟩:=b;exact⟨(p.1,b2) :: rs,⟨xZ h.1,rfl,c⟩,.cons ⟨rfl,h.2⟩ q⟩
structure M1(X:Cx)(o:Expr)(m:Str)(apos:Pos)(e:Expr)(jk:Pos):Prop where
 base:oC o m X.env (eval o X.env)=eval o X.env
 D7:((oU jk (cU [e] X.env)).all (fun x=>!x.1)&&(backToKw jk (keywordEach [] X.env)).all (fun x=>x.1.isSome)
  && decide (([e]:List Expr).length+([]:List LC).length+(if ([]:List LC).isEmpty then 0 else 1) < 30))=true
 line:(apos.endLine == jk.line)=true
 trees:oU jk (cU [e] X.env)=[(false,eval e X.env)]
structure M2(X:Cx)(o:Expr)(m:Str)(apos:Pos)(e f:Expr)(jk:Pos):Prop where
 base:oC o m X.env (eval o X.env)=eval o X.env
 D7:((oU jk (cU [e,f] X.env)).all (fun x=>!x.1)&&(backToKw jk (keywordEach [] X.env)).all (fun x=>x.1.isSome)
  && decide (([e,f]:List Expr).length+([]:List LC).length+(if ([]:List LC).isEmpty then 0 else 1) < 30))=true
 line:(apos.endLine == jk.line)=true
 trees:oU jk (cU [e,f] X.env)=[(false,eval e X.env),(false,eval f X.env)]
noncomputable def IsD(H:Hp)(a:Addr):Prop:=(∃ kvs,Rd H a (.dK kvs))\/∃ kvs,Rd H a (.dT kvs)
theorem Nk{X:Cx}{pins:List (Addr×Obj)}{σ:St}{H:Hp}{s:av}{a:Addr}(I:Inv X pins σ H s)(d:IsD H a) :
  s.TypeIs (.ref a) "dict"/\(∀ b,fk a=.ref b->∃ ob,s.heap.get? b=some ob/\ob.dict=none)/\(a == cY)=false:=by
 rcases d with ⟨kvs,e⟩ | ⟨kvs,e⟩
 ·obtain⟨_,hd,vs,_,dd⟩:=rg I.cD e;refine⟨dd.typeIs,fun b q=>?_,hd⟩;cases q;obtain⟨ob,_,_,h1,h2,_⟩:=dd;exact⟨ob,h1,h2.2.1⟩
 ·obtain⟨_,hd,xs,_,dd⟩:=yv I.cD e;refine⟨dd.typeIs,fun b q=>?_,hd⟩;cases q;obtain⟨ob,_,_,h1,h2,_⟩:=dd;exact⟨ob,h1,h2.2.1⟩
end L2
namespace Att
open PySem PySem.W PySem.Calls PyProof.Rows
theorem vT{P:Params}{h:Heap}:∀ (ns:List Int) (vs:List Value),WellAll P h vs (ns.map WData.int)->nG vs ns:=by
 intro ns;induction ns with
 | nil =>
  intro vs w;rw [br] at w;cases w;exact .nil
 | cons n ns ih =>
  intro vs w;rw [ak] at w;cases w with
  | cons a b =>
   cases a;exact .cons _ _ (ih _ b)
theorem JG{l:OpenLaw}{n:Nat}(hn:l.most=some n){P:Params}{h:Heap}{args:List WData}{vals:List Value}
  (Qo:l.row.toRowW.claim.pre args=true) (Yu:WellAll P h vals args) :
  ∃ a vs ns,vals=[fk a]/\args=[WData.list (ns.map WData.int)]/\h.get? a=some { cls:=.type "list",data:=.seq vs.toArray }/\nG vs ns/\ns.length<=n:=by
 have hsh:WShape.hasAll [] args [.list .int]=true:=(pre_splitW Qo).1;have hc:l.pre.holds [] { args:=args } = true:=(pre_splitW Qo).2;obtain⟨d,r,rfl,h1,h2⟩:=hasAllW_cons hsh;obtain rfl:=hasAllW_nil h2;obtain⟨xs,rfl,h3⟩:=hasW_list h1;obtain⟨ns,rfl⟩:=items_int h3;have hlen:ns.length<=n:=by
  unfold OpenLaw.pre at hc;have h4:(WTm.not (.lt (.lit (.int (n:Int))) (.len (.arg 0)))).holds [] { args:=[.list (ns.map .int)] } = true:=by
   have h4:=(holds_andW hc).1;rw [hn] at h4;exact h4
  have h5:=condW_of h4 (w_not (w_lt w_lit (w_len_list (w_arg rfl))));rw [aB] at h5;refine Nat.le_of_not_lt fun q=>?_;have q':(n:Int) < ((ns.length:Nat):Int):=by lia
  first
   | (rw [decide_eq_true q'] at h5; exact absurd h5 (by decide))
   | (simp at h5; lia)
 cases Yu with
 | cons w1 w2 =>
  cases w2;cases w1 with
  | list ho zh=>exact⟨_,_,ns,rfl,rfl,ho,vT ns _ zh,hlen⟩
theorem JU(l:OpenLaw)(args:List WData):l.row.toRowW.claim.post args (.bool true) args=true :=
 postW_of (r:=l.row.toRowW) (X:=(true == true))
  (show WShape.has [] (.bool true) .bool=true by first | rfl | decide | simp [WShape.has,WShape.arms,WShape.armsAll])
  (show (WTm.eq .res (.lit (.bool true))).value [] { args:=args,res:=some (.bool true),after:=args } = some (.bool (true == true)) from w_eq_bool (w_res rfl) w_lit) rfl
theorem EA{l:OpenLaw}{n:Nat}{q:bJ}{loose:List Str}{XP:(Str->Option Value)->Heap->Prop}{YP:World->Heap->Prop}{d:DefRec}
  (hn:l.most=some n) (VL:d.params.defaults=[])
  (call:∀ (w:World) (lU ft:av) (mg mb:Str->Option Value) (fa:Addr) (o:Obj) (pm cd doc:Value) (a:Addr) (vs:List Value) (ns:List Int),
   Ground q loose [] XP w lU mg mb ft.heap->YP w ft.heap ->
   ft.heap.get? fa=some o->o.data=.func (docDef d.name d.params d.body d.scope pm cd doc)->ft.heap.CodeRec cd d.name->mg d.name=some (.ref fa) ->
   ft.heap.get? a=some { cls:=.type "list",data:=.seq vs.toArray }->nG vs ns->ns.length<=n->ft.gens=#[] ->
   E5 (model l.prog w) E6 (.call (.ref fa) ⟨[.ref a],[]⟩) (fun r s'=>r=.ok (.ret (.bool true))/\OldK ft.heap s'.heap/\s'.os=ft.os/\A0 s'.gens) ft) :
  WalkO q loose XP YP l.row.toRowW d [] (fun f vs=>Ho f vs):=by
 intro w lU ft mg mb G Y fa o pm cd doc dV kV ho hd IS hD VD hg args vals as Qo ach hrd Yu hlo;obtain rfl:dV=.none:=Dflts.none hD VL;obtain rfl:kV=.none:=Dflts.noKw hD;obtain⟨a,vs,ns,rfl,rfl,Tj,hints,hlen⟩:=JG hn Qo Yu;refine enter_call (codeAny_mono (call w lU ft mg mb fa o pm cd doc a vs ns G Y ho (fd_plain hd) IS VD Tj hints hlen hg) fun r s' hq=>?_);obtain⟨rfl,h2,h3,h4⟩:=hq;exact⟨.inl ⟨.bool true,.bool true,[],rfl,fun _=>rfl,.bool true,JU l _,fun _=>⟨List.Pairwise.nil,fun _ hm=>(nomatch hm)⟩⟩,h2,h3,h4⟩
end Att
namespace L2
open PySem PySem.Spec PyProof.Rows
theorem zJ:∀ {vs:List Value} {ns:List Int},nG vs ns->Vals (ns.map V.int) vs
 | _,_,.nil=>.nil
 | _,_,.cons n t h=>.cons ⟨t,rfl⟩ (zJ h)
noncomputable def Q4(H:Hp):Prop:=∀ b,H b=none\/∃ o xs,H b=some (.jl o (.lst xs))
theorem M3{P:bJ}{w:World}{K:ai}{mg mb:Str->Option Value}{CX:K5}{k:Nat}{fa a:Addr}{fd:aC}{x:Str}{sp:Sp}{ft:av}{vs:List Value}{ns:List Int}
  (KX:K.In ft.heap) (OY:ft.heap.Ns bP mg) (hb:ft.heap.Ns builtinsNs mb) (hbb:∀ x:Str,x≠"__name__"->mb x=eC x) (YQ:ft.heap.NoLimit) (hg:ft.gens=#[])
  (ha:ft.heap.get? a=some { cls:=.type "list",data:=.seq vs.toArray }) (hi:nG vs ns) (hl:ns.length<=a8) (hr:lO k E6)
  (F:∀ base:Heap,K.In base->base.Ns bP mg->fH P w K mg base CX k fa fd [x] sp) (VO:∀ (s:av) (u:Value),LG s fd ⟨[u],[]⟩ [(x,u)])
  (RC:∀ H:Hp,Q4 H->qc K H a (ns.map V.int)->sp [.ref a] H (fun v _=>v=.bl true) fun _ _ _=>False)
  (Y8:∀ H e s',CX [] H ft (fun _ _ _=>False) e s'->False) :
  E5 (model P w) E6 (.call (.ref fa) ⟨[.ref a],[]⟩) (fun r s'=>r=.ok (.ret (.bool true))/\OldK ft.heap s'.heap/\s'.os=ft.os/\A0 s'.gens) ft:=by
 have rv:=zJ hi;have X9:=hi.length;have core:∀ H:Hp,Q4 H->qc K H a (ns.map V.int)->oB P w H ft.heap->(∀ b,H b≠none->b=a)->(H a≠none->K.lookup a=none) ->
   E5 (model P w) E6 (.call (.ref fa) ⟨[.ref a],[]⟩) (fun r s'=>r=.ok (.ret (.bool true))/\OldK ft.heap s'.heap/\s'.os=ft.os/\A0 s'.gens) ft:=by
  intro H hO hS cD hA hK;have Jj:∀ {b:Addr} {o:Obj},ft.heap.get? b=some o->H b=none->(By ft.heap H).get? b=some o:=fun e n=>NC e n;have Vh:∀ {b:Addr} {o:Obj} {es:Array eZ} {ep:Nat},ft.heap.get? b=some o->o.data=.dict es ep->H b=none:=fun {b o es ep} e d=>by
   cases q:H b with
   | none=>rfl
   | some u =>
    have e':b=a:=hA b (by rw [q]; simp);subst e';rw [ha] at e; cases e;have d':Data.seq vs.toArray _=Data.dict es ep:=d;cases d'
  have Ww:∀ {b:Addr} {m:Str->Option Value},ft.heap.Ns b m->(By ft.heap H).Ns b m:=fun {b m} ⟨o,es,ep,e,d,r⟩=>⟨o,es,ep,Jj e (Vh e d),d,r⟩;have hKb:K.In (By ft.heap H):=fun b o e=>Jj (KX b o e) (by
   cases q:H b with
   | none=>rfl
   | some u =>
    have e':b=a:=hA b (by rw [q]; simp);subst e';rw [hK (by rw [q]; simp)] at e; cases e)
  have hM:Mod K mg (By ft.heap H):=⟨hKb,Ww OY,⟨mb,Ww hb,hbb⟩,let ⟨mc,h1,h2⟩:=YQ; ⟨mc,Ww h1,h2⟩⟩;have e0:Q5 P w K mg (By ft.heap H) E6 [] ft H:=⟨rfl,hM,fun b o e=>P8 e,Nat.le_of_eq (Kq _ _),trivial,fun b hb=>absurd (show b∈([]:List Addr) from hb) (by simp),cD,.of_eq hg⟩;refine codeAny_mono ((F _ hKb (Ww OY)).run E6 [] ft H ⟨[.ref a],[]⟩ [.ref a] [.ref a] _ _ hr e0 (VO ft (.ref a)) (.cons rfl .nil) (RC H hO hS)) fun r s' h=>?_;cases r with
  | error e=>exact(Y8 H e s' h).elim
  | ok fl =>
   cases fl with
   | next=>exact bO h
   | brk=>exact bO h
   | cont=>exact bO h
   | ret u =>
    obtain⟨v,H',os,bare,un,YH,r',q⟩:=h;have q':v=.bl true:=q;subst q';obtain rfl:u=Value.bool true:=r';refine⟨rfl,OldK.of_keep fun b o e=>?_,os,bare⟩;cases q:H b with
    | none=>exact un.keep b o e q (by intro z; exact absurd (show b∈([]:List Addr) from z) (by simp)) (by simp)
    | some u =>
     rcases hO b with z | ⟨ob,xs,z⟩
     ·rw [q] at z; cases z
     ·have z2:=un.ye b ob _ z;obtain⟨e1,_⟩:=cD b _ z;obtain⟨e2,_⟩:=YH b _ z2;rw [e] at e1; cases e1;exact e2
 cases hk:K.lookup a with
 | some o =>
  have e:=KX a o hk;rw [ha] at e;cases e;refine core (fun _=>none) (fun _=>.inl rfl) (.inr ⟨_,vs.toArray,_,hk,rfl,rfl,rfl,by rw [aW,X9]; exact hl,by simpa using rv⟩) (fun b u z=>by have z':(none:Option HO)=some u:=z; cases z') (fun b z=>absurd rfl z) fun z=>absurd rfl z
 | none =>
  refine core (fun b=>if b=a then some (.jl { cls:=.type "list",data:=.seq vs.toArray } (.lst (ns.map V.int))) else none) (fun b=>?_) (.inl (.inr ⟨{ cls:=.type "list",data:=.seq vs.toArray },if_pos rfl⟩)) (fun b u z=>?_) (fun b z=>?_) fun _=>hk
  ·by_cases hb:b=a
   ·exact .inr ⟨_,_,if_pos hb⟩
   ·exact .inl (if_neg hb)
  ·by_cases hb:b=a
   ·have z':=(if_pos hb).symm.trans z;cases z';subst hb;exact⟨ha,by rw [aB]; exact hl,vs,_,rv,ha⟩
   ·have z':=(if_neg hb).symm.trans z;cases z'
  ·by_cases hb:b=a
   ·exact hb
   ·exact absurd (if_neg hb) z
theorem Pc{l:AX}{n k:Nat}{q:bJ}{loose:List Str}{XP:(Str->Option Value)->Heap->Prop}{YP:World->Heap->Prop}{d:DefRec}{K:Params->ai}{CX:World->K5}{sp:World->Sp}{x:Str}
  (hn:l.most=some n) (hn2:n<=a8) (VL:d.params.defaults=[]) (hr:lO k E6)
  (hY:∀ (w:World) (h:Heap),YP w h->(K w.params).In h)
  (F:∀ (w:World) (mg:Str->Option Value) (fa:Addr) (h:Heap),(K w.params).In h->h.Ns bP mg->mg d.name=some (.ref fa) ->
   ∃ fd:aC,(∀ (s:av) (u:Value),LG s fd ⟨[u],[]⟩ [(x,u)]) /\
    ∀ base:Heap,(K w.params).In base->base.Ns bP mg->fH l.prog w (K w.params) mg base (CX w) k fa fd [x] (sp w))
  (RC:∀ (w:World) (H:Hp) (a:Addr) (ns:List Int),ns.length<=n->Q4 H->qc (K w.params) H a (ns.map V.int)->sp w [.ref a] H (fun v _=>v=.bl true) fun _ _ _=>False)
  (Y8:∀ (w:World) (H:Hp) (s:av) (e:Value) (s':av),CX w [] H s (fun _ _ _=>False) e s'->False) :
  PySem.W.WalkO q loose XP YP l.row.toRowW d [] (fun f vs=>Ho f vs):=by
 refine Att.EA hn VL fun w lU ft mg mb fa o pm cd doc a vs ns G Y ho hd IS VD Tj hints hlen hg=>?_;have KX:=hY w _ Y;obtain⟨fd,hb,hF⟩:=F w mg fa _ KX G.T.g VD;exact M3 KX G.T.g G.T.b G.T.builtins G.T.nolimit hg Tj hints (aZ hlen hn2) hr hF hb (fun H hO hS=>RC w H a ns hlen hO hS) fun H e s'=>Y8 w H ft e s'
end L2
/- THE ad4 WU (shape; LID,My.* are ZH):
   My.Adr: a structure of Xi addresses aa7 aa2 aaa names (classes,Um); My.Txt K t: a structure (Prop) of Xi equations over K;
   My.Xh:{K} {implicit addresses ..} (e1:nsIn K bP "law" = some (some (.ref f))) (e2:K.lookup f=some ⟨oc,od,.func (fnOf "law" "law" params body scope dV kV doc pm an nB ct),sl⟩) (e3:codeIn K nB "law" = true) ..:∃ t,My.Txt K t
(Xi tactic k_is has no namespace: write k_is) -/
namespace L2
open PySem PySem.Spec PyProof.Rows
noncomputable def mj(s:Stmt):Arguments:=match s with
 | .FunctionDef _ a _ _ _ _ _ _ _ _=>a
 | _=>{ posonlyargs:=[],args:=[],vararg:=none,kwonlyargs:=[],kw_defaults:=[],kwarg:=none,defaults:=[] }
noncomputable def jB(s:Stmt):List Stmt:=match s with
 | .FunctionDef _ _ b _ _ _ _ _ _ _=>b
 | _=>[]
noncomputable def bc(s:Stmt):Scope:=match s with
 | .FunctionDef _ _ _ _ _ _ sc _ _ _=>sc
 | _=>{ kind:=.function,names:=[],isGenerator:=false,isCoroutine:=false }
noncomputable abbrev fD:K5:=fun _ _ _ _ _ _=>False
noncomputable abbrev E0:XK:=fun _ _ _=>False
theorem U0{X:Cx}:Passes fD X E0:=fun _ _ _ _ _ _ _ h=>h.elim
structure nu(K:ai)(x qual:Str)(st:Stmt)(f:Addr)(fd:aC):Prop where
 ex:∃ (oc:Value) (od:Option Addr) (kV doc pm:Value) (an:Option Addr) (nB ct:Value) (MG:Array (Option Value)),
  fd=jE x qual (mj st) (jB st) (bc st) .none kV doc pm an nB ct/\K.lookup f=some ⟨oc,od,.func fd,MG⟩/\Cv K nB qual=true
 kp:kF K (.ref f)=true
section
variable {P:bJ} {w:World} {K:ai} {mg:Str->Option Value} {base:Heap}
theorem nu.ok{x qual:Str}{st:Stmt}{f:Addr}{fd:aC}{N ps:List Str}{k:Nat}{sp:Sp}(F:nu K x qual st f fd)(S:cA N ps (bc st))(len:∀ vs H Q E,sp vs H Q E->vs.length=ps.length)
  (NI:∀ (nB:Value) (A:dj) (outer:List Env) (s:av) (H:Hp) (vs:List V) (Q:VK) (E:XK),lO k (A.deeper (Cu qual (bc st) s.heap.objs.size f nB))->sp vs H Q E ->
   ∃ t,Ut (Ep fD P w K mg base N qual (bc st) f nB A outer s H E).Ue (jB st) t/\t { nx:=fun _ H'=>Q .eh H',rt:=Q } (start N vs) H):fH P w K mg base fD (k+1) f fd ps sp:=by
 obtain⟨oc,od,kV,doc,pm,an,nB,ct,MG,rfl,lk,IS⟩:=F.ex;refine VW lk IS S len fun A outer s H vs Q E hr RC=>?_;obtain⟨t,h,q⟩:=NI nB A outer s H vs Q E hr RC;exact⟨t,h.Ue,q⟩
theorem nu.binds{x qual:Str}{st:Stmt}{f:Addr}{fd:aC}{ps:List Str}(F:nu K x qual st f fd)
  (h:∀ (kV doc pm:Value) (an:Option Addr) (nB ct:Value) (us:List Value),us.length=ps.length->bindArgs (jE x qual (mj st) (jB st) (bc st) .none kV doc pm an nB ct) ⟨us,[]⟩=pure (ps.zip us)):Binds K fd ps []:=by
 obtain⟨oc,od,kV,doc,pm,an,nB,ct,MG,rfl,lk,IS⟩:=F.ex;exact .all (h kV doc pm an nB ct)
theorem Tx{x qual:Str}{st:Stmt}{f:Addr}{oc:Value}{od an:Option Addr}{MG:Array (Option Value)}{kV doc pm nB ct:Value}(l:K.lookup f=some ⟨oc,od,.func (jE x qual (mj st) (jB st) (bc st) .none kV doc pm an nB ct),MG⟩)
  (c:Cv K nB qual=true) (k:kF K (.ref f)=true):nu K x qual st f (jE x qual (mj st) (jB st) (bc st) .none kV doc pm an nB ct):=⟨⟨oc,od,kV,doc,pm,an,nB,ct,MG,rfl,l,c⟩,k⟩
end
end L2
set_option autoImplicit false
section
namespace K2
open PySem (Str)
noncomputable abbrev PK:=List (List (List Int))
inductive D where
 | eh | bl (b:Bool) | int (i:Int) | str (x:Str) | tup (ds:List D) | dR (ds:List D) | ji (kvs:List (D×D)) | ref (a:Nat) | exc (c:Str) | EZ (c:Str) (ns:List Str) (ds:List D) | ny (kvs:List (PK×D))
 deriving Inhabited
inductive GO where
 | lst (ds:List D)
 | fZ (kvs:List (D×D))
 | ins (c:Str) (fs:List (Str×D))
 | qP (kvs:List (PK×D))
noncomputable abbrev Gp:=Nat->Option GO
noncomputable def eL(G:Gp)(a:Nat)(o:GO):Gp:=fun b=>if b=a then some o else G b
theorem aH{G:Gp}{a:Nat}{o:GO}:eL G a o a=some o:=by unfold eL; rw [if_pos rfl]
theorem dP{G:Gp}{a b:Nat}{o:GO}(h:b≠a):eL G a o b=G b:=by unfold eL; rw [if_neg h]
noncomputable abbrev SZ:Nat:=16777216
structure Ex where
 cls:Str
 acR:List (Str×D)
noncomputable abbrev kX:=Ex->Gp->Prop
noncomputable abbrev gZ:=List (Option D)
noncomputable abbrev DK:=D->Gp->Prop
noncomputable abbrev gb:=kX->gZ->Gp->DK->Prop
noncomputable abbrev vJ:=kX->gZ->Gp->(Bool->Gp->Prop)->Prop
noncomputable abbrev He:=kX->gZ->Gp->(List D->Gp->Prop)->Prop
structure kI where
 nx:gZ->Gp->Prop
 rt:DK
 bk:gZ->Gp->Prop
 ct:gZ->Gp->Prop
noncomputable abbrev gW:=kX->kI->gZ->Gp->Prop
noncomputable abbrev lR:=List D->Gp->DK->kX->Prop
noncomputable abbrev zC:=D->D->Gp->DK->Prop
noncomputable def II(n:Nat)(i:Int):Option Nat:=if 0<=i then (if i < n then some i.toNat else none) else if -(n:Int)<=i then some (i+n).toNat else none
noncomputable def u7{α:Type}(xs:List α)(i:Int):Option α:=(II xs.length i).bind fun j=>xs[j]?
noncomputable def iW(n d:Nat):Option Int->Nat
 | none=>d
 | some v=>if v < 0 then (v+(n:Int)).toNat else min v.toNat n
noncomputable def cut{α:Type}(xs:List α)(lo hi:Option Int):List α:=(xs.drop (iW xs.length 0 lo)).take (iW xs.length xs.length hi - iW xs.length 0 lo)
mutual
noncomputable def ig:D->D->Bool
 | .eh,.eh=>true
 | .bl a,.bl b=>a == b
 | .bl a,.int b=>(if a then 1 else 0) == b
 | .int a,.bl b=>a == (if b then 1 else 0)
 | .int a,.int b=>a == b
 | .str a,.str b=>a == b
 | .tup a,.tup b=>kg a b
 | .dR a,.dR b=>kg a b
 | _,_=>false
noncomputable def kg:List D->List D->Bool
 | [],[]=>true
 | a :: r,b :: t=>ig a b&&kg r t
 | _,_=>false
end
mutual
noncomputable def nr:D->Bool
 | .ref _=>false
 | .exc _=>false
 | .EZ _ _ _=>false
 | .ji _=>false
 | .ny _=>false
 | .str x=>x.cps.all (· < 0x110000)
 | .tup ds=>pK ds
 | .dR ds=>pK ds
 | _=>true
noncomputable def pK:List D->Bool
 | []=>true
 | d :: r=>nr d&&pK r
end
class inductive Sn (G:Gp):Nat->D->D->Prop
 | eh {n:Nat}:Sn G n .eh .eh
 | bl {n:Nat} (b:Bool):Sn G n (.bl b) (.bl b)
 | int {n:Nat} (i:Int):Sn G n (.int i) (.int i)
 | str {n:Nat} (x:Str) (h:x.cps.all (· < 0x110000)=true):Sn G n (.str x) (.str x)
 | Fm {n:Nat}:Sn G (n+1) (.tup []) (.tup [])
 | pb {n:Nat} {d s:D} {ds ss:List D}:Sn G n d s->Sn G (n+1) (.tup ds) (.tup ss)->Sn G (n+1) (.tup (d :: ds)) (.tup (s :: ss))
 | JM {n:Nat}:Sn G (n+1) (.dR []) (.dR [])
 | zU {n:Nat} {d s:D} {ds ss:List D}:Sn G n d s->Sn G (n+1) (.dR ds) (.dR ss)->Sn G (n+1) (.dR (d :: ds)) (.dR (s :: ss))
 | ref {n:Nat} {a:Nat} {ds ss:List D}:G a=some (.lst ds)->Sn G n (.dR ds) (.dR ss)->Sn G n (.ref a) (.dR ss)
noncomputable abbrev SN:Nat:=8
theorem Sn.nr{G:Gp}{n:Nat}{d t:D}(h:Sn G n d t):K2.nr t=true:=by
 induction h with
 | eh=>rfl
 | bl b=>rfl
 | int i=>rfl
 | str x h=>exact h
 | Fm=>rfl
 | pb _ _ Nu Nt =>
  show (K2.nr _&&K2.pK _)=true;rw [Nu];exact Nt
 | JM=>rfl
 | zU _ _ Nu Nt =>
  show (K2.nr _&&K2.pK _)=true;rw [Nu];exact Nt
 | ref _ _ ih=>exact ih
noncomputable def oq(k:PK):D:=.tup (k.map fun r=>.tup (r.map fun t=>.tup (t.map D.int)))
noncomputable def ef:D->Bool
 | .int _=>true
 | .str _=>true
 | _=>false
noncomputable def EV:D->Gp->Option Bool
 | .eh,_=>some false
 | .bl b,_=>some b
 | .int i,_=>some (i != 0)
 | .str x,_=>if x.length<=SZ then some ((x.length:Int) != 0) else none
 | .tup ds,_=>some (!ds.isEmpty)
 | .dR ds,_=>some (!ds.isEmpty)
 | .exc _,_=>none
 | .EZ _ _ _,_=>none
 | .ny _,_=>none
 | .ji kvs,_=>if (kvs.all fun p=>ef p.1)=true then some (!kvs.isEmpty) else none
 | .ref a,G=>match G a with
  | some (.lst ds)=>some (!ds.isEmpty)
  | some (.fZ kvs)=>if (kvs.all fun p=>ef p.1)=true then some (!kvs.isEmpty) else none
  | _=>none
noncomputable def aw(i:Nat):gb:=fun _ τ G Q=>match τ[i]? with
 | some (some d)=>Q d G
 | _=>False
noncomputable def dC(d:D):gb:=fun _ _ G Q=>Q d G
noncomputable def bq:He:=fun _ _ G Q=>Q [] G
noncomputable def ay(a:gb)(r:He):He:=fun E τ G Q=>a E τ G fun x G1=>r E τ G1 fun xs G2=>Q (x :: xs) G2
noncomputable def iM(t:He):gb:=fun E τ G Q=>t E τ G fun ds G1=>ds.length<=SZ/\Q (.tup ds) G1
noncomputable def oJ(t:He):gb:=fun E τ G Q=>t E τ G fun ds G1=>ds.length<=SZ/\∀ p,G1 p=none->Q (.ref p) (eL G1 p (.lst ds))
noncomputable def bG(r:zC)(a b:gb):gb:=fun E τ G Q=>a E τ G fun x G1=>b E τ G1 fun y G2=>r x y G2 Q
noncomputable def Oe(r:D->Gp->DK->Prop)(a:gb):gb:=fun E τ G Q=>a E τ G fun x G1=>r x G1 Q
noncomputable def gw(G:Gp)(o:GO)(Q:DK):Prop:=∀ p,G p=none->Q (.ref p) (eL G p o)
noncomputable def MulOk(i j:Int):Prop:=(-(2 ^ 64) < i/\i < 2 ^ 64)\/(-(2 ^ 64) < j/\j < 2 ^ 64)
noncomputable def pM:D->Gp->Option (List D)
 | .dR ds,_=>some ds
 | .ref a,G=>match G a with
  | some (.lst ds)=>some ds
  | _=>none
 | _,_=>none
noncomputable def Hd(x y:D)(G:Gp)(Q:DK):Prop:=match pM x G,pM y G with
 | some xs,some ys=>xs.length+ys.length<=SZ/\gw G (.lst (xs++ys)) Q
 | _,_=>False
noncomputable def jy:zC
 | .int i,.int j,G,Q=>Q (.int (i+j)) G
 | .str a,.str b,G,Q=>a.length+b.length<=SZ/\Q (.str (a++b)) G
 | .tup a,.tup b,G,Q=>a≠[]/\a.length+b.length<=SZ/\Q (.tup (a++b)) G
 | x,y,G,Q=>Hd x y G Q
noncomputable def JO:zC
 | .int i,.int j,G,Q=>Q (.int (i - j)) G
 | _,_,_,_=>False
noncomputable def xf:zC
 | .int i,.int j,G,Q=>MulOk i j/\Q (.int (i * j)) G
 | _,_,_,_=>False
noncomputable def qK:zC
 | .int i,.int j,G,Q=>0 < j/\Q (.int (i % j)) G
 | _,_,_,_=>False
noncomputable def HZ:zC
 | .int i,.int j,G,Q=>0 < j/\j < 2 ^ 30/\Q (.int (i / j)) G
 | _,_,_,_=>False
noncomputable def FD:D->Gp->DK->Prop
 | .int i,G,Q=>Q (.int (-i)) G
 | _,_,_=>False
noncomputable def H0(neg:Bool):zC:=fun x y G Q=>∃ a b,Sn G SN x a/\Sn G SN y b/\Q (.bl (if neg then !ig a b else ig a b)) G
noncomputable def lexLt:List Int->List Int->Bool
 | [],[]=>false
 | [],_ :: _=>true
 | _ :: _,[]=>false
 | x :: xs,y :: ys=>if x=y then lexLt xs ys else decide (x < y)
noncomputable def Ws:zC
 | .int i,.int j,G,Q=>Q (.bl (decide (i < j))) G
 | .tup a,.tup b,G,Q=>∃ xs ys,a=xs.map D.int/\b=ys.map D.int/\Q (.bl (lexLt xs ys)) G
 | _,_,_,_=>False
noncomputable def rLe:zC
 | .int i,.int j,G,Q=>Q (.bl (decide (i<=j))) G
 | _,_,_,_=>False
noncomputable def rGt:zC
 | .int i,.int j,G,Q=>Q (.bl (decide (i > j))) G
 | _,_,_,_=>False
noncomputable def rGe:zC
 | .int i,.int j,G,Q=>Q (.bl (decide (i>=j))) G
 | _,_,_,_=>False
noncomputable def itemsOf:D->Gp->Option (List D)
 | .tup ds,_=>some ds
 | .dR ds,_=>some ds
 | .ref a,G=>match G a with
  | some (.lst ds)=>some ds
  | _=>none
 | _,_=>none
noncomputable def jU:D->Bool
 | .tup ds=>ds.all ef
 | _=>false
noncomputable def gG(kvs:List (D×D))(k:D):Bool:=(ef k&&kvs.all fun p=>ef p.1)||(jU k&&kvs.all fun p=>jU p.1)
noncomputable def look(kvs:List (D×D))(k:D):Option D:=(kvs.find? fun p=>ig p.1 k).map (·.2)
noncomputable def put(kvs:List (D×D))(k v:D):List (D×D) :=
 if (kvs.any fun p=>ig p.1 k)=true then kvs.map (fun p=>if ig p.1 k=true then (p.1,v) else p) else kvs++[(k,v)]
noncomputable def PC(neg:Bool):zC:=fun x y G Q=>match y with
 | .ref a=>(match G a with
  | some (.fZ kvs)=>gG kvs x=true/\Q (.bl (if neg then !(look kvs x).isSome else (look kvs x).isSome)) G
  | some (.lst ds)=>∃ s ss,Sn G SN x s/\Sn G SN (.dR ds) (.dR ss)/\Q (.bl (if neg then !ss.any (ig · s) else ss.any (ig · s))) G
  | _=>False)
 | .ji kvs=>kvs≠[]/\gG kvs x=true/\Q (.bl (if neg then !(look kvs x).isSome else (look kvs x).isSome)) G
 | .tup ds=>∃ s ss,Sn G SN x s/\Sn G SN (.dR ds) (.dR ss)/\Q (.bl (if neg then !ss.any (ig · s) else ss.any (ig · s))) G
 | .dR ds=>∃ s ss,Sn G SN x s/\Sn G SN (.dR ds) (.dR ss)/\Q (.bl (if neg then !ss.any (ig · s) else ss.any (ig · s))) G
 | _=>False
noncomputable def oP:zC
 | .tup ds,.int i,G,Q=>(match u7 ds i with
  | some d=>Q d G
  | none=>False)
 | .dR ds,.int i,G,Q=>(match u7 ds i with
  | some d=>Q d G
  | none=>False)
 | .ji kvs,k,G,Q=>gG kvs k=true/\(match look kvs k with
  | some d=>Q d G
  | none=>False)
 | .ref a,k,G,Q=>(match G a with
  | some (.lst ds)=>(match k with
   | .int i=>(match u7 ds i with
    | some d=>Q d G
    | none=>False)
   | _=>False)
  | some (.fZ kvs)=>gG kvs k=true/\(match look kvs k with
   | some d=>Q d G
   | none=>False)
  | _=>False)
 | _,_,_,_=>False
noncomputable abbrev Wc:=kX->gZ->Gp->(Option Int->Gp->Prop)->Prop
noncomputable def jC:Wc:=fun _ _ G Q=>Q none G
noncomputable def rh(t:gb):Wc:=fun E τ G Q=>t E τ G fun x G1=>match x with
 | .int i=>Q (some i) G1
 | _=>False
noncomputable def SE:D->Option Int->Option Int->Gp->DK->Prop
 | .tup ds,lo,hi,G,Q=>¬ (iW ds.length 0 lo=0/\iW ds.length ds.length hi=ds.length)/\Q (.tup (cut ds lo hi)) G
 | .dR ds,lo,hi,G,Q=>gw G (.lst (cut ds lo hi)) Q
 | .ref a,lo,hi,G,Q=>(match G a with
  | some (.lst ds)=>gw G (.lst (cut ds lo hi)) Q
  | _=>False)
 | _,_,_,_,_=>False
noncomputable def KI(a:gb)(lo hi:Wc):gb:=fun E τ G Q=>a E τ G fun x G1=>lo E τ G1 fun l G2=>hi E τ G2 fun h G3=>SE x l h G3 Q
noncomputable def jj(a:gb):vJ:=fun E τ G Q=>a E τ G fun x G1=>match EV x G1 with
 | some b=>Q b G1
 | none=>False
noncomputable def Zm(a b:vJ):vJ:=fun E τ G Q=>a E τ G fun c G1=>if c=true then b E τ G1 Q else Q false G1
noncomputable def QE(a b:vJ):vJ:=fun E τ G Q=>a E τ G fun c G1=>if c=true then Q true G1 else b E τ G1 Q
noncomputable def tT(a:vJ):vJ:=fun E τ G Q=>a E τ G fun c G1=>Q (!c) G1
noncomputable def Jf(a b:gb):gb:=fun E τ G Q=>a E τ G fun x G1=>match EV x G1 with
 | some true=>b E τ G1 Q
 | some false=>Q x G1
 | none=>False
noncomputable def V2(a b:gb):gb:=fun E τ G Q=>a E τ G fun x G1=>match EV x G1 with
 | some true=>Q x G1
 | some false=>b E τ G1 Q
 | none=>False
noncomputable def Of(a:gb):gb:=fun E τ G Q=>a E τ G fun x G1=>match EV x G1 with
 | some c=>Q (.bl (!c)) G1
 | none=>False
noncomputable def V3(c:vJ)(a b:gb):gb:=fun E τ G Q=>c E τ G fun k G1=>if k=true then a E τ G1 Q else b E τ G1 Q
noncomputable def bC(sp:lR)(t:He):gb:=fun E τ G Q=>t E τ G fun ds G1=>sp ds G1 Q fun _ _=>False
noncomputable def zx(r:List D->Gp->DK->Prop)(t:He):gb:=fun E τ G Q=>t E τ G fun ds G1=>r ds G1 Q
noncomputable def Ld(x:D)(G:Gp):Prop:=match x with
 | .ref a=>(match G a with
  | some (.lst _)=>True
  | _=>False)
 | .dR _=>True
 | _=>False
noncomputable def Ph(x:D)(G:Gp):Prop:=match x with
 | .ji _=>True
 | .ref a=>(match G a with
  | some (.fZ _)=>True
  | _=>False)
 | _=>False
noncomputable def tyS(x:D)(_:Gp):Prop:=match x with
 | .str _=>True
 | _=>False
noncomputable def BX(ty:D->Gp->Prop)(r:D->List D->Gp->DK->Prop)(o:gb)(t:He):gb:=fun E τ G Q=>o E τ G fun x G1=>ty x G1/\t E τ G1 fun ds G2=>r x ds G2 Q
noncomputable def lenOf:D->Gp->Option Nat
 | .tup ds,_=>some ds.length
 | .dR ds,_=>some ds.length
 | .str x,_=>if x.length<=SZ then some x.length else none
 | .ji kvs,_=>if (kvs.all fun p=>ef p.1)=true then some kvs.length else none
 | .ref a,G=>match G a with
  | some (.lst ds)=>some ds.length
  | some (.fZ kvs)=>if (kvs.all fun p=>ef p.1)=true then some kvs.length else none
  | _=>none
 | _,_=>none
noncomputable def zB(ds:List D)(G:Gp)(Q:DK):Prop:=match ds with
 | [x]=>(match lenOf x G with
  | some n=>Q (.int (n:Int)) G
  | none=>False)
 | _=>False
noncomputable def vI(ds:List D)(G:Gp)(Q:DK):Prop:=match ds with
 | [x]=>(match itemsOf x G with
  | some xs=>gw G (.lst xs) Q
  | none=>False)
 | _=>False
noncomputable def RA(C:String):D->Gp->Option Bool
 | .eh,_=>some false
 | .bl _,_=>some (C == "bool" || C == "int")
 | .int _,_=>some (C == "int")
 | .str _,_=>some (C == "str")
 | .tup _,_=>some (C == "tuple")
 | .dR _,_=>some (C == "list")
 | .ji _,_=>some (C == "dict")
 | .exc _,_=>none
 | .EZ _ _ _,_=>none
 | .ny _,_=>none
 | .ref a,G=>match G a with
  | some (.lst _)=>some (C == "list")
  | some (.fZ _)=>some (C == "dict")
  | _=>none
noncomputable def Oh(C:String)(a:gb):gb:=fun E τ G Q=>a E τ G fun x G1=>match RA C x G1 with
 | some b=>Q (.bl b) G1
 | none=>False
noncomputable def tf(x:D)(ds:List D)(G:Gp)(Q:DK):Prop:=match x,ds with
 | .ref a,[d]=>(match G a with
  | some (.lst xs)=>xs.length < SZ/\Q .eh (eL G a (.lst (xs++[d])))
  | _=>False)
 | _,_=>False
noncomputable def wb(x:D)(ds:List D)(G:Gp)(Q:DK):Prop:=match x,ds with
 | .ref a,[y]=>(match G a,pM y G with
  | some (.lst xs),some ys=>xs.length+ys.length<=SZ/\Q .eh (eL G a (.lst (xs++ys)))
  | _,_=>False)
 | _,_=>False
noncomputable def Qd(x:D)(ds:List D)(G:Gp)(Q:DK):Prop:=match x,ds with
 | .ref a,[.int i,d]=>(match G a with
  | some (.lst xs)=>0<=i/\i<=xs.length/\xs.length < SZ/\Q .eh (eL G a (.lst (xs.take i.toNat++d :: xs.drop i.toNat)))
  | _=>False)
 | _,_=>False
noncomputable def DA(x:D)(ds:List D)(G:Gp)(Q:DK):Prop:=match x,ds with
 | .ref a,[k,d]=>(match G a with
  | some (.fZ kvs)=>gG kvs k=true/\ef k=true/\(match look kvs k with
   | some v=>Q v G
   | none=>kvs.length < SZ/\Q d (eL G a (.fZ (put kvs k d))))
  | _=>False)
 | _,_=>False
noncomputable def fA:gW:=fun _ K τ G=>K.nx τ G
noncomputable def cH(a b:gW):gW:=fun E K τ G=>a E { K with nx:=b E K } τ G
noncomputable def rj(a:gb):gW:=fun E K τ G=>a E τ G fun _ G1=>K.nx τ G1
noncomputable def cR(a:gb):gW:=fun E K τ G=>a E τ G K.rt
noncomputable def V1:gW:=fun _ K _ G=>K.rt .eh G
noncomputable def ja(c:vJ)(a b:gW):gW:=fun E K τ G=>c E τ G fun k G1=>if k=true then a E K τ G1 else b E K τ G1
noncomputable def Og:gW:=fun _ _ _ _=>False
noncomputable abbrev y0:=kX->D->gZ->Gp->(gZ->Gp->Prop)->Prop
noncomputable abbrev Ca:=kX->List D->gZ->Gp->(gZ->Gp->Prop)->Prop
noncomputable def aO(i:Nat):y0:=fun _ d τ G Q=>Q (τ.set i (some d)) G
noncomputable def jG:Ca:=fun _ ds τ G Q=>match ds with
 | []=>Q τ G
 | _=>False
noncomputable def dN(t:y0)(r:Ca):Ca:=fun E ds τ G Q=>match ds with
 | d :: ds=>t E d τ G fun nH G1=>r E ds nH G1 Q
 | _=>False
noncomputable def jV(t:Ca):y0:=fun E d τ G Q=>match d with
 | .tup ds=>t E ds τ G Q
 | _=>False
noncomputable def wW(o k d:D)(G:Gp)(Q:Gp->Prop):Prop:=match o with
 | .ref a=>(match G a with
  | some (.lst xs)=>(match k with
   | .int i=>(match II xs.length i with
    | some j=>Q (eL G a (.lst (xs.set j d)))
    | none=>False)
   | _=>False)
  | some (.fZ kvs)=>gG kvs k=true/\kvs.length < SZ/\Q (eL G a (.fZ (put kvs k d)))
  | _=>False)
 | _=>False
noncomputable def kC(o k:gb):y0:=fun E d τ G Q=>o E τ G fun x G1=>k E τ G1 fun y G2=>wW x y d G2 fun G3=>Q τ G3
noncomputable def bM(a:gb)(g:y0):gW:=fun E K τ G=>a E τ G fun x G1=>g E x τ G1 K.nx
noncomputable abbrev Lm:=kX->gZ->Gp->(List D->(Gp->Prop)->Gp->Prop)->Prop
noncomputable def ni(a:gb):Lm:=fun E τ G R=>a E τ G fun x G1=>match x with
 | .tup ds=>R ds (fun _=>True) G1
 | .dR ds=>R ds (fun _=>True) G1
 | .ref p=>(match G1 p with
  | some (.lst ds)=>R ds (fun G2=>G2 p=some (.lst ds)) G1
  | _=>False)
 | _=>False
noncomputable def gS(lo:Int)(n:Nat):List D:=(ij n).map fun (i:Nat)=>D.int (lo+(i:Int))
noncomputable def DR(a:gb):Lm:=fun E τ G R=>a E τ G fun x G1=>match x with
 | .int n=>-(2 ^ 62)<=n/\n < 2 ^ 62/\R (gS 0 n.toNat) (fun _=>True) G1
 | _=>False
noncomputable def oz(g:y0)(body:gW)(ok:Gp->Prop):List D->gW
 | []=>fun _ K τ G=>ok G/\K.nx τ G
 | d :: r=>fun E K τ G=>ok G/\g E d τ G fun nH G1=>body E { K with nx:=oz g body ok r E K,ct:=oz g body ok r E K,bk:=K.nx } nH G1
noncomputable def eQ(i:Lm)(g:y0)(body:gW):gW:=fun E K τ G=>i E τ G fun ds ok G1=>oz g body ok ds E K τ G1
noncomputable def CF(c:vJ)(body:gW):Nat->gW
 | 0=>fun _ _ _ _=>False
 | n+1=>fun E K τ G=>c E τ G fun k G1=>if k=true then body E { K with nx:=CF c body n E K,ct:=CF c body n E K,bk:=K.nx } τ G1 else K.nx τ G1
noncomputable def GR(c:vJ)(body:gW):gW:=fun E K τ G=>∃ n,CF c body n E K τ G
noncomputable def iN(g:y0)(c:Option vJ)(e:gb)(ok:Gp->Prop):List D->kX->gZ->Gp->List D->(List D->Gp->Prop)->Prop
 | [],_,_,G,acc,Q=>ok G/\Q acc G
 | d :: r,E,τ,G,acc,Q=>ok G/\g E d τ G fun nH G1=>match c with
  | none=>e E nH G1 fun x G2=>iN g c e ok r E nH G2 (acc++[x]) Q
  | some c=>c E nH G1 fun k G2=>if k=true then e E nH G2 fun x G3=>iN g (some c) e ok r E nH G3 (acc++[x]) Q else iN g (some c) e ok r E nH G2 acc Q
noncomputable def yB(m:Nat)(fr:List Nat)(τ:gZ):gZ:=bg m none++fr.map fun i=>(τ[i]?).getD none
noncomputable def iR(m:Nat)(fr:List Nat)(i:Lm)(g:y0)(c:Option vJ)(e:gb):gb:=fun E τ G Q =>
 i E τ G fun ds ok G1=>ds.length<=SZ/\iN g c e ok ds (fun _ _=>False) (yB m fr τ) G1 [] fun xs G2=>gw G2 (.lst xs) Q
noncomputable abbrev tI(ns:List Int):D:=.tup (ns.map D.int)
noncomputable def X5:List Int->Option Int
 | []=>none
 | a :: r=>some (r.foldl (fun m x=>if x < m then x else m) a)
noncomputable def X4:List (List Int)->Option (List Int)
 | []=>none
 | a :: r=>some (r.foldl (fun m x=>if lexLt x m=true then x else m) a)
noncomputable def Zo(ds:List D)(G:Gp)(Q:DK):Prop:=match ds with
 | [x]=>(∃ ns m,itemsOf x G=some (ns.map D.int)/\X5 ns=some m/\Q (.int m) G)\/∃ Z1 m,itemsOf x G=some (Z1.map tI)/\X4 Z1=some m/\Q (tI m) G
 | _=>False
noncomputable def mM:gb:=fun _ _ G Q=>gw G (.fZ []) Q
noncomputable def gc(G G':Gp):Prop:=∀ a o,G a=some o->G' a=some o
theorem gc.refl(G:Gp):gc G G:=fun _ _ h=>h
theorem gc.trans{G G1 G2:Gp}(a:gc G G1)(b:gc G1 G2):gc G G2:=fun c o h=>b c o (a c o h)
theorem gc.new{G:Gp}{p:Nat}{o:GO}(h:G p=none):gc G (eL G p o):=fun a ob e=>by
 by_cases ha:a=p
 ·subst ha; rw [h] at e; cases e
 ·rw [dP ha]; exact e
theorem gc.free{G G':Gp}{p:Nat}(l:gc G G')(h:G' p=none):G p=none:=by
 cases q:G p with
 | none=>rfl
 | some o=>rw [l p o q] at h; cases h
theorem gc.put{G G':Gp}{p:Nat}{o:GO}(l:gc G G')(h:G p=none):gc G (eL G' p o):=fun a ob e=>by
 by_cases ha:a=p
 ·subst ha; rw [h] at e; cases e
 ·rw [dP ha]; exact l a ob e
noncomputable def ends(Q:DK):kI:=⟨fun _ G=>Q .eh G,Q,fun _ _=>False,fun _ _=>False⟩
noncomputable def bD(n:Nat)(ds:List D):gZ:=ds.map some++bg (n - ds.length) none
noncomputable def Qm(x:D)(G1:Gp)(R:List D->(Gp->Prop)->Gp->Prop):Prop:=match x with
 | .tup ds=>R ds (fun _=>True) G1
 | .dR ds=>R ds (fun _=>True) G1
 | .ref p=>(match G1 p with
  | some (.lst ds)=>R ds (fun G2=>G2 p=some (.lst ds)) G1
  | _=>False)
 | _=>False
noncomputable def ME(x:D)(G1:Gp)(Q:Option Int->Gp->Prop):Prop:=match x with
 | .int i=>Q (some i) G1
 | _=>False
noncomputable def o9(x:D)(G1:Gp)(Q:Bool->Gp->Prop):Prop:=match EV x G1 with
 | some b=>Q b G1
 | none=>False
noncomputable def Rh(x:D)(G1:Gp)(R:List D->(Gp->Prop)->Gp->Prop):Prop:=match x with
 | .int n=>-(2 ^ 62)<=n/\n < 2 ^ 62/\R (gS 0 n.toNat) (fun _=>True) G1
 | _=>False
noncomputable def isAt(C:String)(x:D)(G1:Gp)(Q:DK):Prop:=match RA C x G1 with
 | some b=>Q (.bl b) G1
 | none=>False
theorem eM{i j:Int}{G:Gp}{Q:DK}:jy (.int i) (.int j) G Q=Q (.int (i+j)) G:=rfl
theorem C9{a b:List D}{G:Gp}{Q:DK}:jy (.tup a) (.tup b) G Q=(a≠[]/\a.length+b.length<=SZ/\Q (.tup (a++b)) G):=rfl
theorem pF{i j:Int}{G:Gp}{Q:DK}:JO (.int i) (.int j) G Q=Q (.int (i - j)) G:=rfl
theorem jx{i j:Int}{G:Gp}{Q:DK}:xf (.int i) (.int j) G Q=(MulOk i j/\Q (.int (i * j)) G):=rfl
theorem lF{i j:Int}{G:Gp}{Q:DK}:qK (.int i) (.int j) G Q=(0 < j/\Q (.int (i % j)) G):=rfl
theorem JP{i j:Int}{G:Gp}{Q:DK}:HZ (.int i) (.int j) G Q=(0 < j/\j < 2 ^ 30/\Q (.int (i / j)) G):=rfl
theorem pG{i:Int}{G:Gp}{Q:DK}:FD (.int i) G Q=Q (.int (-i)) G:=rfl
theorem HX{i j:Int}{G:Gp}{Q:DK}:Ws (.int i) (.int j) G Q=Q (.bl (decide (i < j))) G:=rfl
theorem Pz{i j:Int}{G:Gp}{Q:DK}:rLe (.int i) (.int j) G Q=Q (.bl (decide (i<=j))) G:=rfl
theorem PD{i j:Int}{G:Gp}{Q:DK}:rGt (.int i) (.int j) G Q=Q (.bl (decide (i > j))) G:=rfl
theorem PF{i j:Int}{G:Gp}{Q:DK}:rGe (.int i) (.int j) G Q=Q (.bl (decide (i>=j))) G:=rfl
theorem PA{ds:List D}{i:Int}{d:D}{G:Gp}{Q:DK}(h:u7 ds i=some d):oP (.dR ds) (.int i) G Q=Q d G:=by unfold oP; simp only [h]
theorem PB{a:Nat}{ds:List D}{i:Int}{d:D}{G:Gp}{Q:DK}(h1:G a=some (.lst ds))(h:u7 ds i=some d):oP (.ref a) (.int i) G Q=Q d G:=by unfold oP; simp only [h1,h]
theorem HU{ds:List D}{lo hi:Option Int}{G:Gp}{Q:DK}:SE (.tup ds) lo hi G Q=(¬ (iW ds.length 0 lo=0/\iW ds.length ds.length hi=ds.length)/\Q (.tup (cut ds lo hi)) G):=rfl
theorem HV{ds:List D}{lo hi:Option Int}{G:Gp}{Q:DK}:SE (.dR ds) lo hi G Q=gw G (.lst (cut ds lo hi)) Q:=rfl
theorem Py{a:Nat}{ds:List D}{lo hi:Option Int}{G:Gp}{Q:DK}(h:G a=some (.lst ds)):SE (.ref a) lo hi G Q=gw G (.lst (cut ds lo hi)) Q:=by unfold SE; simp only [h]
theorem Ey{ds:List D}{G:Gp}{Q:DK}:zB [.dR ds] G Q=Q (.int (ds.length:Int)) G:=rfl
theorem Ow{ds:List D}{G:Gp}{Q:DK}:zB [.tup ds] G Q=Q (.int (ds.length:Int)) G:=rfl
theorem Ez{a:Nat}{ds:List D}{G:Gp}{Q:DK}(h:G a=some (.lst ds)):zB [.ref a] G Q=Q (.int (ds.length:Int)) G:=by unfold zB lenOf; simp only [h]
theorem gq{a:gb}{E:kX}{τ:gZ}{G:Gp}{R:List D->(Gp->Prop)->Gp->Prop}:ni a E τ G R=a E τ G fun x G1=>Qm x G1 R:=by
 unfold ni Qm; rfl
theorem IK{ds:List D}{G:Gp}{R:List D->(Gp->Prop)->Gp->Prop}:Qm (.dR ds) G R=R ds (fun _=>True) G:=rfl
theorem IJ{ds:List D}{G:Gp}{R:List D->(Gp->Prop)->Gp->Prop}:Qm (.tup ds) G R=R ds (fun _=>True) G:=rfl
theorem IM{a:Nat}{ds:List D}{G:Gp}{R:List D->(Gp->Prop)->Gp->Prop}(h:G a=some (.lst ds)):Qm (.ref a) G R=R ds (fun G2=>G2 a=some (.lst ds)) G:=by unfold Qm; simp only [h]
theorem pX{t:gb}{E:kX}{τ:gZ}{G:Gp}{Q:Option Int->Gp->Prop}:rh t E τ G Q=t E τ G fun x G1=>ME x G1 Q:=rfl
theorem jR{i:Int}{G:Gp}{Q:Option Int->Gp->Prop}:ME (.int i) G Q=Q (some i) G:=rfl
theorem eB{a:gb}{E:kX}{τ:gZ}{G:Gp}{Q:Bool->Gp->Prop}:jj a E τ G Q=a E τ G fun x G1=>o9 x G1 Q:=rfl
theorem cP{b:Bool}{G:Gp}{Q:Bool->Gp->Prop}:o9 (.bl b) G Q=Q b G:=rfl
theorem tJ{a:gb}{E:kX}{τ:gZ}{G:Gp}{R:List D->(Gp->Prop)->Gp->Prop}:DR a E τ G R=a E τ G fun x G1=>Rh x G1 R:=rfl
theorem ql{n:Int}{G:Gp}{R:List D->(Gp->Prop)->Gp->Prop}:Rh (.int n) G R=(-(2 ^ 62)<=n/\n < 2 ^ 62/\R (gS 0 n.toNat) (fun _=>True) G):=rfl
theorem BY{C:String}{a:gb}{E:kX}{τ:gZ}{G:Gp}{Q:DK}:Oh C a E τ G Q=a E τ G fun x G1=>isAt C x G1 Q:=rfl
theorem DQ {C:String} {i:Int} {G:Gp} {Q:DK}:isAt C (.int i) G Q=Q (.bl (C == "int")) G:=rfl
theorem Nl {C:String} {ds:List D} {G:Gp} {Q:DK}:isAt C (.tup ds) G Q=Q (.bl (C == "tuple")) G:=rfl
theorem En{a b:gb}{E:kX}{τ:gZ}{G:Gp}{Q:DK}:Jf a b E τ G Q=a E τ G fun x G1=>o9 x G1 fun k G2=>if k=true then b E τ G2 Q else Q x G2:=by
 unfold Jf o9;refine congrArg (a E τ G) ?_;funext x G1;cases EV x G1 with
 | none=>rfl
 | some k=>cases k <;> simp
theorem QD{a b:gb}{E:kX}{τ:gZ}{G:Gp}{Q:DK}:V2 a b E τ G Q=a E τ G fun x G1=>o9 x G1 fun k G2=>if k=true then Q x G2 else b E τ G2 Q:=by
 unfold V2 o9;refine congrArg (a E τ G) ?_;funext x G1;cases EV x G1 with
 | none=>rfl
 | some k=>cases k <;> simp
theorem El{a:gb}{E:kX}{τ:gZ}{G:Gp}{Q:DK}:Of a E τ G Q=a E τ G fun x G1=>o9 x G1 fun k G2=>Q (.bl (!k)) G2:=rfl
theorem xj{a:Nat}{y:D}{G:Gp}{Q:DK}:jy (.ref a) y G Q=Hd (.ref a) y G Q:=by cases y <;> rfl
theorem xi{a:List D}{y:D}{G:Gp}{Q:DK}:jy (.dR a) y G Q=Hd (.dR a) y G Q:=by cases y <;> rfl
theorem HW{a:Nat}{lo hi:Option Int}{G:Gp}{Q:DK}:SE (.ref a) lo hi G Q=(match G a with
  | some (.lst ds)=>gw G (.lst (cut ds lo hi)) Q
  | _=>False):=rfl
theorem HY{a:Nat}{k:D}{G:Gp}{Q:DK}:oP (.ref a) k G Q=(match G a with
  | some (.lst ds)=>(match k with
   | .int i=>(match u7 ds i with
    | some d=>Q d G
    | none=>False)
   | _=>False)
  | some (.fZ kvs)=>gG kvs k=true/\(match look kvs k with
   | some d=>Q d G
   | none=>False)
  | _=>False):=by unfold oP; cases k <;> rfl
theorem kc{ds:List D}{i:Int}{G:Gp}{Q:DK}:oP (.tup ds) (.int i) G Q=(match u7 ds i with
  | some d=>Q d G
  | none=>False):=rfl
theorem xg{ds:List D}{i:Int}{G:Gp}{Q:DK}:oP (.dR ds) (.int i) G Q=(match u7 ds i with
  | some d=>Q d G
  | none=>False):=rfl
theorem KL{a:Nat}{G:Gp}{Q:DK}:vI [.ref a] G Q=(match G a with
  | some (.lst ds)=>gw G (.lst ds) Q
  | _=>False):=by
 unfold vI itemsOf;cases h:G a with
 | none=>simp only [h]
 | some g=>cases g <;> simp only [h]
theorem pL{a:Nat}{d:D}{G:Gp}{Q:DK}:tf (.ref a) [d] G Q=(match G a with
  | some (.lst xs)=>xs.length < SZ/\Q .eh (eL G a (.lst (xs++[d])))
  | _=>False):=rfl
theorem vC{a:Nat}{y:D}{G:Gp}{Q:DK}:wb (.ref a) [y] G Q=(match G a,pM y G with
  | some (.lst xs),some ys=>xs.length+ys.length<=SZ/\Q .eh (eL G a (.lst (xs++ys)))
  | _,_=>False):=rfl
theorem DC{a:Nat}{i:Int}{d:D}{G:Gp}{Q:DK}:Qd (.ref a) [.int i,d] G Q=(match G a with
  | some (.lst xs)=>0<=i/\i<=xs.length/\xs.length < SZ/\Q .eh (eL G a (.lst (xs.take i.toNat++d :: xs.drop i.toNat)))
  | _=>False):=rfl
theorem vQ{a:Nat}{k d:D}{G:Gp}{Q:DK}:DA (.ref a) [k,d] G Q=(match G a with
  | some (.fZ kvs)=>gG kvs k=true/\ef k=true/\(match look kvs k with
   | some v=>Q v G
   | none=>kvs.length < SZ/\Q d (eL G a (.fZ (put kvs k d))))
  | _=>False):=rfl
theorem Nm{C:String}{p:Nat}{G:Gp}{Q:DK}:isAt C (.ref p) G Q=(match G p with
  | some (.lst _)=>Q (.bl (C == "list")) G
  | some (.fZ _)=>Q (.bl (C == "dict")) G
  | _=>False):=by
 unfold isAt RA;cases h:G p with
 | none=>simp only [h]
 | some g=>cases g <;> simp only [h]
theorem Qk {C:String} {b:Bool} {G:Gp} {Q:DK}:isAt C (.bl b) G Q=Q (.bl (C == "bool" || C == "int")) G:=rfl
theorem vX{a:Nat}{G:Gp}:Ld (.ref a) G=(match G a with
  | some (.lst _)=>True
  | _=>False):=rfl
theorem vY{a:Nat}{G:Gp}:Ph (.ref a) G=(match G a with
  | some (.fZ _)=>True
  | _=>False):=rfl
theorem Pg{ds:List D}{G:Gp}:Ld (.dR ds) G=True:=rfl
theorem v3{kvs:List (D×D)}{k:D}{G:Gp}{Q:DK}:oP (.ji kvs) k G Q=(gG kvs k=true/\(match look kvs k with
  | some d=>Q d G
  | none=>False)):=by unfold oP; cases k <;> rfl
theorem Pf{x:Str}{G:Gp}:tyS (.str x) G=True:=rfl
end K2
end
section
namespace K2
open PySem (Str)
noncomputable def zr(R:Nat->Bool)(G:Gp):Gp:=fun a=>if R a=true then none else G a
mutual
inductive Fz (G:Gp) (R:Nat->Bool):D->D->Prop
 | same (d:D):Fz G R d d
 | tup {ds ss:List D}:Jn G R ds ss->Fz G R (.tup ds) (.tup ss)
 | dR {ds ss:List D}:Jn G R ds ss->Fz G R (.dR ds) (.dR ss)
 | ref {a:Nat} {ds ss:List D}:G a=some (.lst ds)->R a=true->Jn G R ds ss->Fz G R (.ref a) (.dR ss)
 | fZ {a:Nat} {kvs Rw:List (D×D)}:G a=some (.fZ kvs)->R a=true->Hl G R kvs Rw->Fz G R (.ref a) (.ji Rw)
 | qP {a:Nat} {kvs Rw:List (PK×D)}:G a=some (.qP kvs)->R a=true->Jn G R (kvs.map fun p=>p.2) (Rw.map fun p=>p.2)->kvs.map (fun p=>p.1)=Rw.map (fun p=>p.1)->Fz G R (.ref a) (.ny Rw)
inductive Jn (G:Gp) (R:Nat->Bool):List D->List D->Prop
 | nil:Jn G R [] []
 | cons {d s:D} {ds ss:List D}:Fz G R d s->Jn G R ds ss->Jn G R (d :: ds) (s :: ss)
inductive Hl (G:Gp) (R:Nat->Bool):List (D×D)->List (D×D)->Prop
 | nil:Hl G R [] []
 | cons {k d s:D} {ds ss:List (D×D)}:Fz G R d s->Hl G R ds ss->Hl G R ((k,d) :: ds) ((k,s) :: ss)
end
theorem Hl.same{G:Gp}{R:Nat->Bool}:∀ (kvs:List (D×D)),Hl G R kvs kvs
 | []=>.nil
 | (k,v) :: r=>.cons (.same v) (Hl.same r)
noncomputable def EL(G:Gp)(x:D)(Q:DK):Prop:=∃ (R:Nat->Bool) (t:D),Fz G R x t/\Q t (zr R G)
noncomputable def dh(e:gb):gb:=fun E τ G Q=>e E τ G fun x G1=>EL G1 x Q
noncomputable def GS(i:Nat)(t:gW):gW:=fun E K τ G=>t E { K with nx:=fun nH G1=>match nH[i]? with
 | some (some d)=>EL G1 d fun t G2=>K.nx (nH.set i (some t)) G2
 | _=>False } τ G
theorem Jn.same{G:Gp}{R:Nat->Bool}:∀ (ds:List D),Jn G R ds ds
 | []=>.nil
 | d :: ds=>.cons (.same d) (Jn.same ds)
theorem tS{G G1:Gp}(l:gc G G1):zr (fun a=>(G a).isNone) G1=G:=by
 funext a;unfold zr;cases h:G a with
 | none=>simp [h]
 | some o=>simp [l a o h,h]
theorem KD{G G1:Gp}{p:Nat}{o:GO}(l:gc G G1)(hp:G p=none)(h1:G1 p=some o):zr (fun a=>(G a).isNone&&decide (a≠p)) G1=eL G p o:=by
 funext a;unfold zr eL;by_cases ha:a=p
 ·subst ha; simp [h1]
 ·cases h:G a with
  | none=>simp [ha,h]
  | some o=>simp [l a o h,ha,h]
theorem di{G:Gp}{d:D}{Q:DK}(q:Q d G):EL G d Q:=⟨fun _=>false,d,.same d,by
 have e:zr (fun _=>false) G=G:=by funext a; simp [zr]
 rw [e]; exact q⟩
theorem tM{G G1:Gp}{d:D}{Q:DK}(l:gc G G1)(q:Q d G):EL G1 d Q:=⟨_,d,.same d,by rw [tS l]; exact q⟩
theorem NQ{G G1:Gp}{p:Nat}{o:GO}{Q:DK}(l:gc G G1)(hp:G p=none)(h1:G1 p=some o)(q:Q (.ref p) (eL G p o)):EL G1 (.ref p) Q :=
 ⟨_,.ref p,.same _,by rw [KD l hp h1]; exact q⟩
theorem NO{G G1:Gp}{p:Nat}{ds ss:List D}{Q:DK}(l:gc G G1)(hp:G p=none)(h1:G1 p=some (.lst ds))(hs:Jn G1 (fun a=>(G a).isNone) ds ss)(q:Q (.dR ss) G):EL G1 (.ref p) Q :=
 ⟨_,.dR ss,.ref h1 (by simp [hp]) hs,by rw [tS l]; exact q⟩
theorem gU{G G1:Gp}{p:Nat}{kvs:List (D×D)}{Q:DK}(l:gc G G1)(hp:G p=none)(h1:G1 p=some (.fZ kvs))(q:Q (.ji kvs) G):EL G1 (.ref p) Q :=
 ⟨fun a=>(G a).isNone,.ji kvs,.fZ h1 (by simp [hp]) (.same _),by rw [tS l]; exact q⟩
noncomputable def zL:lR:=fun ds G Q _=>∃ ns:List Int,ds=[.dR (ns.map D.int)]/\ns.length<=63/\(∀ a,G a=none)/\∀ G',Q (.bl true) G'
theorem fX{a b:gW}{E:kX}{K:kI}{τ:gZ}{G:Gp}(P:gZ->Gp->Prop)(h1:∀ N,(∀ τ G,P τ G->N τ G)->a E { K with nx:=N } τ G)(h2:∀ τ G,P τ G->b E K τ G):cH a b E K τ G:=h1 (b E K) h2
theorem lA{a b:gW}{E:kX}{K:kI}{τ:gZ}{G:Gp}:cH a b E K τ G=a E { K with nx:=b E K } τ G:=rfl
theorem c7{a:gb}{g:y0}{b:gW}{E:kX}{K:kI}{τ:gZ}{G:Gp}:cH (bM a g) b E K τ G=bM a g E { K with nx:=b E K } τ G:=rfl
theorem Mb{a:gb}{b:gW}{E:kX}{K:kI}{τ:gZ}{G:Gp}:cH (rj a) b E K τ G=rj a E { K with nx:=b E K } τ G:=rfl
theorem Tz{g:y0}{body:gW}{ok:Gp->Prop}{ds:List D}{E:kX}{K:kI}{τ:gZ}{G:Gp}(I:List D->gZ->Gp->Prop)
  (h0:I [] τ G) (cD:∀ pre τ G,I pre τ G->ok G)
  (step:∀ (pre:List D) (d:D) (post:List D) τ G (N:gZ->Gp->Prop),ds=pre++d :: post->I pre τ G->(∀ ux G2,I (pre++[d]) ux G2->N ux G2) ->
   g E d τ G fun nH G1=>body E { K with nx:=N,ct:=N,bk:=K.nx } nH G1)
  (fin:∀ τ G,I ds τ G->K.nx τ G):oz g body ok ds E K τ G:=by
 have main:∀ (post pre:List D) τ G,ds=pre++post->I pre τ G->oz g body ok post E K τ G:=by
  intro post;induction post with
  | nil =>
   intro pre τ G e h;rw [cN] at e;subst e;exact⟨cD _ _ _ h,fin _ _ h⟩
  | cons d post ih =>
   intro pre τ G e h;refine⟨cD _ _ _ h,?_⟩;exact step pre d post τ G _ e h fun ux G2 h2=>ih (pre++[d]) ux G2 (by rw [e,cf]; rfl) h2
 exact main ds [] τ G rfl h0
theorem QI{g:y0}{c:Option vJ}{e:gb}{ok:Gp->Prop}{ds:List D}{E:kX}{τ:gZ}{G:Gp}{Q:List D->Gp->Prop}(I:List D->List D->gZ->Gp->Prop)
  (h0:I [] [] τ G) (cD:∀ pre acc τ G,I pre acc τ G->ok G)
  (step:∀ (pre:List D) (d:D) (post acc:List D) τ G (N:gZ->List D->Gp->Prop),ds=pre++d :: post->I pre acc τ G->(∀ ux vb G2,I (pre++[d]) vb ux G2->N ux vb G2) ->
   g E d τ G fun nH G1=>match c with
    | none=>e E nH G1 fun x G2=>N nH (acc++[x]) G2
    | some c=>c E nH G1 fun k G2=>if k=true then e E nH G2 fun x G3=>N nH (acc++[x]) G3 else N nH acc G2)
  (fin:∀ acc τ G,I ds acc τ G->Q acc G):iN g c e ok ds E τ G [] Q:=by
 have main:∀ (post pre acc:List D) τ G,ds=pre++post->I pre acc τ G->iN g c e ok post E τ G acc Q:=by
  intro post;induction post with
  | nil =>
   intro pre acc τ G e h;rw [cN] at e;subst e;exact⟨cD _ _ _ _ h,fin _ _ _ h⟩
  | cons d post ih =>
   intro pre acc τ G e' h;refine⟨cD _ _ _ _ h,?_⟩;have:=step pre d post acc τ G (fun ux vb G2=>iN g c e ok post E ux G2 vb Q) e' h fun ux vb G2 h2=>ih (pre++[d]) vb ux G2 (by rw [e',cf]; rfl) h2;cases c with
   | none=>exact this
   | some c=>exact this
 exact main ds [] [] τ G rfl h0
theorem Sn.rI{G:Gp}{n:Nat}:∀ (ns:List Int),Sn G (n+1) (.dR (ns.map D.int)) (.dR (ns.map D.int))
 | []=>.JM
 | i :: ns=>.zU (.int i) (Sn.rI ns)
theorem nV(a b:D)(r t:List D):kg (a :: r) (b :: t)=(ig a b&&kg r t):=rfl
theorem kD(a b:Int):ig (.int a) (.int b)=(a == b):=rfl
theorem GJ(a b:List D):ig (.tup a) (.tup b)=kg a b:=rfl
theorem Eg{α:Type} [DecidableEq α](a b:α)(as bs:List α):(decide (a=b)&&decide (as=bs))=decide (a :: as=b :: bs):=by
 by_cases h:a=b <;> by_cases h2:as=bs <;> simp [h,h2]
end K2
end
section
namespace K2
open PySem (Str)
set_option genInjectivity true in structure T2 where
 a:Int
 b:Int
 deriving DecidableEq
set_option genInjectivity true in structure T3 where
 a:Int
 b:Int
 c:Int
 deriving DecidableEq
class Enc (α:Type) [DecidableEq α] where
 enc:α->D
 dep:Nat
 eqv:∀ a b,ig (enc a) (enc b)=decide (a=b)
 sn:∀ (G:Gp) (n:Nat) (a:α),dep<=n->Sn G n (enc a) (enc a)
open Enc (enc)
noncomputable instance:Enc Int where
 enc:=D.int
 dep:=0
 eqv:=fun a b=>rfl
 sn:=fun G n a _=>.int a
noncomputable instance:Enc Bool where
 enc:=D.bl
 dep:=0
 eqv:=fun a b=>OR a b
 sn:=fun G n a _=>.bl a
noncomputable instance:Enc T2 where
 enc:=fun t=>.tup [.int t.a,.int t.b]
 dep:=1
 eqv:=fun x y=>by
  cases x; cases y;rw [GJ,nV,nV,kD,kD]; simp only [T2.mk.injEq]; rename_i a b c d; by_cases h:a=c <;> by_cases h2:b=d <;> simp [h,h2,show kg [] []=true from rfl]
 sn:=fun G n t h=>by
  obtain⟨m,rfl⟩:∃ m,n=m+1:=⟨n - 1,by lia⟩;exact .pb (.int _) (.pb (.int _) .Fm)
noncomputable instance:Enc T3 where
 enc:=fun t=>.tup [.int t.a,.int t.b,.int t.c]
 dep:=1
 eqv:=fun x y=>by
  cases x; cases y;rw [GJ,nV,nV,nV,kD,kD,kD]; simp only [T3.mk.injEq]; rename_i a b e c d f; by_cases h:a=c <;> by_cases h2:b=d <;> by_cases h3:e=f <;> simp [h,h2,h3,show kg [] []=true from rfl]
 sn:=fun G n t h=>by
  obtain⟨m,rfl⟩:∃ m,n=m+1:=⟨n - 1,by lia⟩;exact .pb (.int _) (.pb (.int _) (.pb (.int _) .Fm))
noncomputable instance {α β:Type} [DecidableEq α] [DecidableEq β] [Enc α] [Enc β]:Enc (α×β) where
 enc:=fun t=>.tup [enc t.1,enc t.2]
 dep:=max (Enc.dep α) (Enc.dep β)+1
 eqv:=fun x y=>by
  cases x; cases y;rw [GJ,nV,nV,Enc.eqv,Enc.eqv]; simp only [Prod.mk.injEq]; rename_i a b c d; by_cases h:a=c <;> by_cases h2:b=d <;> simp [h,h2,show kg [] []=true from rfl]
 sn:=fun G n t h=>by
  obtain⟨m,rfl⟩:∃ m,n=m+1:=⟨n - 1,by lia⟩;exact .pb (Enc.sn _ _ _ (by lia)) (.pb (Enc.sn _ _ _ (by lia)) .Fm)
theorem Ed{α:Type} [DecidableEq α] [Enc α]:∀ (a b:List α),kg (a.map enc) (b.map enc)=decide (a=b)
 | [],[]=>(decide_eq_true rfl).symm
 | [],b :: bs=>(decide_eq_false (fun z=>nomatch z)).symm
 | a :: as,[]=>(decide_eq_false (fun z=>nomatch z)).symm
 | a :: as,b :: bs=>by
  show (ig (enc a) (enc b)&&kg (as.map enc) (bs.map enc))=_;rw [Enc.eqv,Ed as bs,Eg]
theorem L9{α:Type} [DecidableEq α] [Enc α](G:Gp)(n:Nat)(h:Enc.dep α<=n):∀ (xs:List α),Sn G (n+1) (.dR (xs.map enc)) (.dR (xs.map enc))
 | []=>.JM
 | a :: as=>.zU (Enc.sn _ _ _ h) (L9 G n h as)
noncomputable instance {α:Type} [DecidableEq α] [Enc α]:Enc (List α) where
 enc:=fun xs=>.dR (xs.map enc)
 dep:=Enc.dep α+1
 eqv:=fun a b=>by
  show kg _ _=_;exact Ed a b
 sn:=fun G n t h=>by
  obtain⟨m,rfl⟩:∃ m,n=m+1:=⟨n - 1,by lia⟩;exact L9 G m (by lia) t
section
variable {α:Type} [DecidableEq α] [Enc α]
theorem QV(L:List α)(t:α):(L.map enc).any (ig · (enc t))=decide (t∈L):=by
 induction L with
 | nil=>simp
 | cons a r ih =>
  simp only [ak,ku,Enc.eqv,ih,aY];by_cases h:a=t
  ·simp [h]
  ·have h':¬ t=a:=fun z=>h z.symm;by_cases h2:t∈r <;> simp [h,h',h2]
end
section
variable {κ α:Type} [DecidableEq κ] [Enc κ] [DecidableEq α] [Enc α]
noncomputable def bu(l:List (κ×α)):List (D×D):=l.map fun p=>(enc p.1,enc p.2)
noncomputable def cI(l:List (κ×α))(k:κ):Option α:=(l.find? fun p=>p.1=k).map (·.2)
noncomputable def ez(l:List (κ×α))(k:κ)(v:α):List (κ×α):=if (l.any fun p=>p.1=k)=true then l.map (fun p=>if p.1=k then (p.1,v) else p) else l++[(k,v)]
theorem tw(l:List (κ×α))(k:κ):look (bu l) (enc k)=(cI l k).map enc:=by
 unfold look cI bu;induction l with
 | nil=>rfl
 | cons p r ih =>
  rw [ak,dO,dO];simp only [Enc.eqv];by_cases h:p.1=k
  ·simp [h]
  ·simp only [h,decide_false]; exact ih
theorem Ib(l:List (κ×α))(k:κ)(v:α):put (bu l) (enc k) (enc v)=bu (ez l k v):=by
 unfold put ez;have e:((bu l).any fun p=>ig p.1 (enc k))=l.any fun p=>decide (p.1=k):=by
  unfold bu; rw [List.any_map]; congr 1; funext p; exact Enc.eqv _ _
 rw [e];split
 ·unfold bu; rw [bt,bt];refine c4 fun p _=>?_;simp only [Function.comp,Enc.eqv,decide_eq_true_eq];split <;> rfl
 ·unfold bu; rw [bw]; rfl
theorem qD(l:List (κ×α))(k j:κ)(v:α):cI (ez l k v) j=if k=j then some v else cI l j:=by
 unfold ez;split
 ·rename_i h;unfold cI;induction l with
  | nil=>simp at h
  | cons p r ih =>
   rw [ak,dO,dO];by_cases h1:p.1=k
   ·rw [if_pos h1];by_cases h2:k=j
    ·simp [h1,h2]
    ·have:¬ p.1=j:=fun z=>h2 (h1.symm.trans z);simp only [this,decide_false,h2,if_false];by_cases h3:(r.any fun p=>decide (p.1=k))=true
     ·have:=ih h3;rw [if_neg h2] at this;exact this
     ·congr 1;have:r.map (fun p=>if p.1=k then (p.1,v) else p)=r:=by
       conv=>rhs; rw [<-k6 r]
       refine c4 fun q hq=>?_;rw [if_neg]; rfl;intro z; exact h3 (List.any_eq_true.mpr ⟨q,hq,by simpa using z⟩)
      rw [this]
   ·rw [if_neg h1];have h3:(r.any fun p=>decide (p.1=k))=true:=by simpa [h1] using h
    by_cases h2:p.1=j
    ·have:¬ k=j:=fun z=>h1 (h2.trans z.symm);simp [h2,this]
    ·simp only [h2,decide_false]; exact ih h3
 ·rename_i h;unfold cI;rw [List.find?_append];by_cases h2:k=j
  ·subst h2;have:l.find? (fun p=>decide (p.1=k))=none:=by
    rw [gx];intro p hp z;exact h (List.any_eq_true.mpr ⟨p,hp,z⟩)
   rw [this]; simp
  ·simp [h2]
theorem pZ(l:List (κ×α))(k:κ)(v:α):(ez l k v).length<=l.length+1:=by
 unfold ez; split <;> simp
end
class sg (κ:Type) [DecidableEq κ] [Enc κ] where
 ok:(∀ k:κ,ef (enc k)=true)\/∀ k:κ,jU (enc k)=true
noncomputable instance:sg Int:=⟨.inl fun _=>rfl⟩
noncomputable instance:sg T2:=⟨.inr fun _=>rfl⟩
noncomputable instance:sg T3:=⟨.inr fun _=>rfl⟩
theorem lJ{κ α:Type} [DecidableEq κ] [Enc κ] [sg κ] [DecidableEq α] [Enc α](l:List (κ×α))(k:κ):gG (bu l) (enc k)=true:=by
 unfold gG bu;rcases sg.ok (κ:=κ) with h | h
 ·rw [nv]; left;rw [h k,Bool.true_and,lP,ic];intro p _; exact h p.1
 ·rw [nv]; right;rw [h k,Bool.true_and,lP,ic];intro p _; exact h p.1
end K2
end
section
namespace K2
open PySem (Str)
open Enc (enc)
mutual
noncomputable def nA:D->D->Bool
 | .int a,.int b=>decide (a < b)
 | .tup a,.tup b=>kR a b
 | .dR a,.dR b=>kR a b
 | _,_=>false
noncomputable def kR:List D->List D->Bool
 | [],[]=>false
 | [],_ :: _=>true
 | _ :: _,[]=>false
 | x :: xs,y :: ys=>if ig x y=true then kR xs ys else nA x y
end
theorem lI(x y:D)(xs ys:List D):kR (x :: xs) (y :: ys)=if ig x y=true then kR xs ys else nA x y:=rfl
theorem MW(a b:Int):nA (.int a) (.int b)=decide (a < b):=rfl
inductive mx where
 | int | tup (l:List mx) | lst (s:mx)
mutual
noncomputable def cQ:mx->D->Bool
 | .int,.int _=>true
 | .tup l,.tup ds=>eW l ds
 | .lst s,.dR ds=>gv s ds
 | _,_=>false
noncomputable def eW:List mx->List D->Bool
 | [],[]=>true
 | s :: l,d :: ds=>cQ s d&&eW l ds
 | _,_=>false
noncomputable def gv:mx->List D->Bool
 | _,[]=>true
 | s,d :: ds=>cQ s d&&gv s ds
end
theorem dc{a:D}(h:cQ .int a=true):∃ i,a=.int i:=by cases a <;> first | exact⟨_,rfl⟩ | exact bA (show false=true from h)
theorem c9{l:List mx}{a:D}(h:cQ (.tup l) a=true):∃ x,a=.tup x:=by cases a <;> first | exact⟨_,rfl⟩ | exact bA (show false=true from h)
theorem da{l:mx}{a:D}(h:cQ (.lst l) a=true):∃ x,a=.dR x:=by cases a <;> first | exact⟨_,rfl⟩ | exact bA (show false=true from h)
mutual
noncomputable def RN:mx->Nat
 | .int=>0
 | .tup l=>N8 l+1
 | .lst s=>RN s+1
noncomputable def N8:List mx->Nat
 | []=>0
 | s :: l=>max (RN s) (N8 l)
end
noncomputable def S0(sh:mx):Bool:=decide (RN sh<=7)&&(match sh with
 | .tup []=>false
 | _=>true)
noncomputable def OW(a b:D):Bool:=!nA b a
noncomputable def ph(ds:List D):List D:=ds.mergeSort OW
noncomputable def t4(ds:List D)(G:Gp)(Q:DK):Prop:=match ds with
 | [x]=>∃ (sh:mx) (xs:List D),Ld x G/\itemsOf x G=some xs/\xs.all (cQ sh)=true/\S0 sh=true/\xs.length < 64/\gw G (.lst (ph xs)) Q
 | _=>False
class bo (α:Type) [DecidableEq α] [Enc α] where
 lt:α->α->Bool
 zM:mx
 Bz:∀ a:α,cQ zM (enc a)=true
 Qf:∀ a b:α,nA (enc a) (enc b)=lt a b
 Gh:∀ a,lt a a=false
 trans:∀ a b c,lt a b=true->lt b c=true->lt a c=true
 mG:∀ a b,lt a b=false->lt b a=false->a=b
noncomputable instance:bo Int where
 lt:=fun a b=>decide (a < b)
 zM:=.int
 Bz:=fun _=>rfl
 Qf:=fun a b=>rfl
 Gh:=fun a=>by simp
 trans:=fun a b c h1 h2=>by simp at *; lia
 mG:=fun a b h1 h2=>by simp at *; lia
noncomputable def rH{α:Type} [DecidableEq α](lt:α->α->Bool):List α->List α->Bool
 | [],[]=>false
 | [],_ :: _=>true
 | _ :: _,[]=>false
 | x :: xs,y :: ys=>if x=y then rH lt xs ys else lt x y
theorem uK{α:Type} [DecidableEq α](lt:α->α->Bool)(x y:α)(xs ys:List α):rH lt (x :: xs) (y :: ys)=if x=y then rH lt xs ys else lt x y:=rfl
section
variable {α:Type} [DecidableEq α] {lt:α->α->Bool}
theorem tD:∀ x:List α,rH lt x x=false
 | []=>rfl
 | a :: x=>by simp only [uK,if_true]; exact tD x
theorem tx(t:∀ a b,lt a b=false->lt b a=false->a=b):∀ (x y:List α),rH lt x y=false->rH lt y x=false->x=y
 | [],[],_,_=>rfl
 | [],_ :: _,h,_=>by cases h
 | _ :: _,[],_,h=>by cases h
 | a :: x,b :: y,h1,h2=>by
  simp only [uK] at h1 h2;by_cases e:a=b
  ·subst e;simp only [if_true] at h1 h2;rw [tx t x y h1 h2]
  ·rw [if_neg e] at h1;rw [if_neg (gf e)] at h2;exact absurd (t a b h1 h2) e
theorem nS(ir:∀ a,lt a a=false)(tr:∀ a b c,lt a b=true->lt b c=true->lt a c=true):∀ (x y z:List α),rH lt x y=true->rH lt y z=true->rH lt x z=true
 | [],[],_,h,_=>by cases h
 | [],_ :: _,[],_,h=>by cases h
 | [],_ :: _,_ :: _,_,_=>rfl
 | _ :: _,[],_,h,_=>by cases h
 | _ :: _,_ :: _,[],_,h=>by cases h
 | a :: x,b :: y,c :: z,h1,h2=>by
  simp only [uK] at h1 h2 ⊢;by_cases e1:a=b
  ·subst e1;simp only [if_true] at h1;by_cases e2:a=c
   ·subst e2;simp only [if_true] at h2 ⊢;exact nS ir tr x y z h1 h2
   ·rw [if_neg e2] at h2 ⊢; exact h2
  ·rw [if_neg e1] at h1;by_cases e2:b=c
   ·subst e2;rw [if_neg e1]; exact h1
   ·rw [if_neg e2] at h2;have h3:=tr _ _ _ h1 h2;rw [if_neg (by rintro rfl; rw [ir] at h3; cases h3)]; exact h3
end
theorem tj{α:Type} [DecidableEq α] [Enc α] [bo α]:∀ (x y:List α),kR (x.map enc) (y.map enc)=rH (bo.lt (α:=α)) x y
 | [],[]=>rfl
 | [],_ :: _=>rfl
 | _ :: _,[]=>rfl
 | a :: x,b :: y=>by simp only [ak,lI,uK,Enc.eqv,tj x y,bo.Qf,decide_eq_true_eq]
theorem Ax{α:Type} [DecidableEq α] [Enc α] [bo α]:∀ (x:List α),gv (bo.zM α) (x.map enc)=true
 | []=>rfl
 | a :: x=>by simp only [ak,gv,bo.Bz,Ax x,Bool.and_self]
noncomputable instance {α:Type} [DecidableEq α] [Enc α] [bo α]:bo (List α) where
 lt:=rH bo.lt
 zM:=.lst (bo.zM α)
 Bz:=fun a=>Ax a
 Qf:=fun a b=>tj a b
 Gh:=tD
 trans:=nS bo.Gh bo.trans
 mG:=tx bo.mG
noncomputable def T2.l(t:T2):List Int:=[t.a,t.b]
noncomputable def T3.l(t:T3):List Int:=[t.a,t.b,t.c]
noncomputable instance:bo T2 where
 lt:=fun x y=>rH (fun a b=>decide (a < b)) x.l y.l
 zM:=.tup [.int,.int]
 Bz:=fun _=>rfl
 Qf:=fun a b=>tj a.l b.l
 Gh:=fun a=>tD _
 trans:=fun a b c=>nS (α:=Int) bo.Gh bo.trans _ _ _
 mG:=fun ⟨a,b⟩ ⟨c,d⟩ h1 h2=>by
  have:=tx (α:=Int) bo.mG _ _ h1 h2;simpa [T2.l] using this
noncomputable instance:bo T3 where
 lt:=fun x y=>rH (fun a b=>decide (a < b)) x.l y.l
 zM:=.tup [.int,.int,.int]
 Bz:=fun _=>rfl
 Qf:=fun a b=>tj a.l b.l
 Gh:=fun a=>tD _
 trans:=fun a b c=>nS (α:=Int) bo.Gh bo.trans _ _ _
 mG:=fun ⟨a,b,e⟩ ⟨c,d,f⟩ h1 h2=>by
  have:=tx (α:=Int) bo.mG _ _ h1 h2;simpa [T3.l] using this
section
variable {α:Type} [DecidableEq α] [Enc α] [bo α]
noncomputable def Lh(a b:α):Bool:=!bo.lt b a
noncomputable def Pt(xs:List α):List α:=xs.mergeSort Lh
theorem JF(xs:List α):ph (xs.map enc)=(Pt xs).map enc:=by
 unfold ph Pt;symm;exact List.map_mergeSort fun a _ b _=>by unfold Lh OW; rw [bo.Qf]
theorem Aj(a b c:α)(h1:Lh a b=true)(h2:Lh b c=true):Lh a c=true:=by
 unfold Lh at *;simp only [Bool.not_eq_true'] at *;cases h:bo.lt c a with
 | false=>rfl
 | true =>
  by_cases e:a=b
  ·subst e; rw [h] at h2; cases h2
  ·have VP:bo.lt a b=true:=by
    cases q:bo.lt a b with
    | true=>rfl
    | false=>exact absurd (bo.mG _ _ q h1) e
   rw [bo.trans _ _ _ h VP] at h2; cases h2
theorem pe(xs:List α):(Pt xs).Perm xs:=List.mergeSort_perm xs Lh
theorem Pq{xs:List α}{x:α}:x∈Pt xs↔x∈xs:=(pe xs).mem_iff
theorem JE{xs:List α}(h:xs.Nodup):(Pt xs).Nodup:=(pe xs).nodup_iff.mpr h
end
end K2
end
section
namespace K2
open PySem (Str)
mutual
theorem jW:∀ (sh:mx) (a:D),cQ sh a=true->ig a a=true
 | .int,.int i,_=>by show (i == i)=true; exact beq_self_eq_true i
 | .tup l,.tup xs,h=>by show kg xs xs=true; exact vF l xs h
 | .lst l,.dR xs,h=>by show kg xs xs=true; exact vG l xs h
theorem vF:∀ (l:List mx) (xs:List D),eW l xs=true->kg xs xs=true
 | [],[],_=>rfl
 | s :: l,x :: xs,h=>by
  have h:(cQ s x&&eW l xs)=true:=h;rw [aI] at h;show (ig x x&&kg xs xs)=true;rw [jW s x h.1,vF l xs h.2]; rfl
theorem vG:∀ (s:mx) (xs:List D),gv s xs=true->kg xs xs=true
 | _,[],_=>rfl
 | s,x :: xs,h=>by
  have h:(cQ s x&&gv s xs)=true:=h;rw [aI] at h;show (ig x x&&kg xs xs)=true;rw [jW s x h.1,vG s xs h.2]; rfl
end
theorem TG(s:mx)(ih:∀ (a b:D),cQ s a=true->cQ s b=true->ig a b=true->a=b):∀ (xs ys:List D),gv s xs=true->gv s ys=true->kg xs ys=true->xs=ys:=by
 intro xs;induction xs with
 | nil=>intro ys _ _ h; cases ys with
  | nil=>rfl
  | cons _ _=>cases h
 | cons x xs Vs =>
  intro ys h1 h2 h;cases ys with
  | nil=>cases h
  | cons y ys =>
   have h1:(cQ s x&&gv s xs)=true:=h1;have h2:(cQ s y&&gv s ys)=true:=h2;have h:(ig x y&&kg xs ys)=true:=h;rw [aI] at h1 h2 h;rw [ih x y h1.1 h2.1 h.1,Vs ys h1.2 h2.2 h.2]
mutual
theorem oA:∀ (sh:mx) (a b:D),cQ sh a=true->cQ sh b=true->ig a b=true->a=b
 | .int,a,b,h1,h2,h=>by
  first | obtain⟨_,rfl⟩:=dc h1 | obtain⟨_,rfl⟩:=c9 h1 | obtain⟨_,rfl⟩:=da h1
  first | obtain⟨_,rfl⟩:=dc h2 | obtain⟨_,rfl⟩:=c9 h2 | obtain⟨_,rfl⟩:=da h2
  rw [kD] at h; rw [beq_iff_eq.mp h]
 | .tup l,a,b,h1,h2,h=>by
  first | obtain⟨_,rfl⟩:=dc h1 | obtain⟨_,rfl⟩:=c9 h1 | obtain⟨_,rfl⟩:=da h1
  first | obtain⟨_,rfl⟩:=dc h2 | obtain⟨_,rfl⟩:=c9 h2 | obtain⟨_,rfl⟩:=da h2
  rw [N5 l _ _ h1 h2 h]
 | .lst l,a,b,h1,h2,h=>by
  first | obtain⟨_,rfl⟩:=dc h1 | obtain⟨_,rfl⟩:=c9 h1 | obtain⟨_,rfl⟩:=da h1
  first | obtain⟨_,rfl⟩:=dc h2 | obtain⟨_,rfl⟩:=c9 h2 | obtain⟨_,rfl⟩:=da h2
  rw [TG l (oA l) _ _ h1 h2 h]
theorem N5:∀ (l:List mx) (xs ys:List D),eW l xs=true->eW l ys=true->kg xs ys=true->xs=ys
 | [],xs,ys,h1,h2,_=>by
  cases xs with
  | nil=>cases ys with
   | nil=>rfl
   | cons _ _=>cases h2
  | cons _ _=>cases h1
 | s :: l,xs,ys,h1,h2,h=>by
  cases xs with
  | nil=>cases h1
  | cons x xs =>
   cases ys with
   | nil=>cases h2
   | cons y ys =>
    have h1:(cQ s x&&eW l xs)=true:=h1;have h2:(cQ s y&&eW l ys)=true:=h2;have h:(ig x y&&kg xs ys)=true:=h;rw [aI] at h1 h2 h;rw [oA s x y h1.1 h2.1 h.1,N5 l xs ys h1.2 h2.2 h.2]
end
theorem MV(s:mx)(ih:∀ (a b:D),cQ s a=true->cQ s b=true->nA a b=false->nA b a=false->a=b):∀ (xs ys:List D),gv s xs=true->gv s ys=true->kR xs ys=false->kR ys xs=false->xs=ys:=by
 intro xs;induction xs with
 | nil=>intro ys _ _ h _; cases ys with
  | nil=>rfl
  | cons _ _=>cases h
 | cons x xs Vs =>
  intro ys h1 h2 h3 h4;cases ys with
  | nil=>cases h4
  | cons y ys =>
   have h1:(cQ s x&&gv s xs)=true:=h1;have h2:(cQ s y&&gv s ys)=true:=h2;rw [aI] at h1 h2;simp only [lI] at h3 h4;by_cases e:ig x y=true
   ·have Zd:=oA s x y h1.1 h2.1 e;subst Zd;rw [if_pos e] at h3 h4;rw [Vs ys h1.2 h2.2 h3 h4]
   ·rw [if_neg e] at h3;by_cases e2:ig y x=true
    ·have:=oA s y x h2.1 h1.1 e2;subst this; exact absurd e2 e
    ·rw [if_neg e2] at h4;have:=ih x y h1.1 h2.1 h3 h4;subst this;exact absurd (jW s x h1.1) e
mutual
theorem wc:∀ (sh:mx) (a b:D),cQ sh a=true->cQ sh b=true->nA a b=false->nA b a=false->a=b
 | .int,a,b,h1,h2,h3,h4=>by
  first | obtain⟨_,rfl⟩:=dc h1 | obtain⟨_,rfl⟩:=c9 h1 | obtain⟨_,rfl⟩:=da h1
  first | obtain⟨_,rfl⟩:=dc h2 | obtain⟨_,rfl⟩:=c9 h2 | obtain⟨_,rfl⟩:=da h2
  simp [MW] at h3 h4; congr 1; lia
 | .tup l,a,b,h1,h2,h3,h4=>by
  first | obtain⟨_,rfl⟩:=dc h1 | obtain⟨_,rfl⟩:=c9 h1 | obtain⟨_,rfl⟩:=da h1
  first | obtain⟨_,rfl⟩:=dc h2 | obtain⟨_,rfl⟩:=c9 h2 | obtain⟨_,rfl⟩:=da h2
  rw [DE l _ _ h1 h2 h3 h4]
 | .lst l,a,b,h1,h2,h3,h4=>by
  first | obtain⟨_,rfl⟩:=dc h1 | obtain⟨_,rfl⟩:=c9 h1 | obtain⟨_,rfl⟩:=da h1
  first | obtain⟨_,rfl⟩:=dc h2 | obtain⟨_,rfl⟩:=c9 h2 | obtain⟨_,rfl⟩:=da h2
  rw [MV l (wc l) _ _ h1 h2 h3 h4]
theorem DE:∀ (l:List mx) (xs ys:List D),eW l xs=true->eW l ys=true->kR xs ys=false->kR ys xs=false->xs=ys
 | [],xs,ys,h1,h2,_,_=>by
  cases xs with
  | nil=>cases ys with
   | nil=>rfl
   | cons _ _=>cases h2
  | cons _ _=>cases h1
 | s :: l,xs,ys,h1,h2,h3,h4=>by
  cases xs with
  | nil=>cases h1
  | cons x xs =>
   cases ys with
   | nil=>cases h2
   | cons y ys =>
    have h1:(cQ s x&&eW l xs)=true:=h1;have h2:(cQ s y&&eW l ys)=true:=h2;rw [aI] at h1 h2;simp only [lI] at h3 h4;by_cases e:ig x y=true
    ·have Zd:=oA s x y h1.1 h2.1 e;subst Zd;rw [if_pos e] at h3 h4;rw [DE l xs ys h1.2 h2.2 h3 h4]
    ·rw [if_neg e] at h3;by_cases e2:ig y x=true
     ·have:=oA s y x h2.1 h1.1 e2;subst this; exact absurd e2 e
     ·rw [if_neg e2] at h4;have:=wc s x y h1.1 h2.1 h3 h4;subst this;exact absurd (jW s x h1.1) e
end
mutual
theorem Bp:∀ (sh:mx) (a:D),cQ sh a=true->nA a a=false
 | .int,.int i,_=>by rw [MW]; exact decide_eq_false (Int.lt_irrefl _)
 | .tup l,.tup xs,h=>by show kR xs xs=false; exact DF l xs h
 | .lst l,.dR xs,h=>by show kR xs xs=false; exact DG l xs h
theorem DF:∀ (l:List mx) (xs:List D),eW l xs=true->kR xs xs=false
 | [],[],_=>rfl
 | s :: l,x :: xs,h=>by
  have h:(cQ s x&&eW l xs)=true:=h;rw [aI] at h;simp only [lI,jW s x h.1,if_true]; exact DF l xs h.2
theorem DG:∀ (s:mx) (xs:List D),gv s xs=true->kR xs xs=false
 | _,[],_=>rfl
 | s,x :: xs,h=>by
  have h:(cQ s x&&gv s xs)=true:=h;rw [aI] at h;simp only [lI,jW s x h.1,if_true]; exact DG s xs h.2
end
theorem FZ(s:mx)(ih:∀ (a b c:D),cQ s a=true->cQ s b=true->cQ s c=true->nA a b=true->nA b c=true->nA a c=true):∀ (xs ys zs:List D),gv s xs=true->gv s ys=true->gv s zs=true->kR xs ys=true->kR ys zs=true->kR xs zs=true:=by
 intro xs;induction xs with
 | nil =>
  intro ys zs _ _ _ h4 h5;cases ys with
  | nil=>cases h4
  | cons _ _=>cases zs with
   | nil=>cases h5
   | cons _ _=>rfl
 | cons x xs Vs =>
  intro ys zs h1 h2 h3 h4 h5;cases ys with
  | nil=>cases h4
  | cons y ys =>
   cases zs with
   | nil=>cases h5
   | cons z zs =>
    have h1:(cQ s x&&gv s xs)=true:=h1;have h2:(cQ s y&&gv s ys)=true:=h2;have h3:(cQ s z&&gv s zs)=true:=h3;rw [aI] at h1 h2 h3;simp only [lI] at h4 h5 ⊢;by_cases e1:ig x y=true
    ·have:=oA s x y h1.1 h2.1 e1;subst this;rw [if_pos e1] at h4;by_cases e2:ig x z=true
     ·rw [if_pos e2] at h5 ⊢;exact Vs ys zs h1.2 h2.2 h3.2 h4 h5
     ·rw [if_neg e2] at h5 ⊢; exact h5
    ·rw [if_neg e1] at h4;by_cases e2:ig y z=true
     ·have:=oA s y z h2.1 h3.1 e2;subst this;rw [if_neg e1]; exact h4
     ·rw [if_neg e2] at h5;have h6:=ih x y z h1.1 h2.1 h3.1 h4 h5;rw [if_neg (fun e3=>by
       have:=oA s x z h1.1 h3.1 e3;subst this;rw [Bp s x h1.1] at h6; cases h6)]
      exact h6
mutual
theorem qt:∀ (sh:mx) (a b c:D),cQ sh a=true->cQ sh b=true->cQ sh c=true->nA a b=true->nA b c=true->nA a c=true
 | .int,a,b,c,h1,h2,h3,h4,h5=>by
  first | obtain⟨_,rfl⟩:=dc h1 | obtain⟨_,rfl⟩:=c9 h1 | obtain⟨_,rfl⟩:=da h1
  first | obtain⟨_,rfl⟩:=dc h2 | obtain⟨_,rfl⟩:=c9 h2 | obtain⟨_,rfl⟩:=da h2
  first | obtain⟨_,rfl⟩:=dc h3 | obtain⟨_,rfl⟩:=c9 h3 | obtain⟨_,rfl⟩:=da h3
  simp [MW] at *; lia
 | .tup l,a,b,c,h1,h2,h3,h4,h5=>by
  first | obtain⟨_,rfl⟩:=dc h1 | obtain⟨_,rfl⟩:=c9 h1 | obtain⟨_,rfl⟩:=da h1
  first | obtain⟨_,rfl⟩:=dc h2 | obtain⟨_,rfl⟩:=c9 h2 | obtain⟨_,rfl⟩:=da h2
  first | obtain⟨_,rfl⟩:=dc h3 | obtain⟨_,rfl⟩:=c9 h3 | obtain⟨_,rfl⟩:=da h3
  exact xS l _ _ _ h1 h2 h3 h4 h5
 | .lst l,a,b,c,h1,h2,h3,h4,h5=>by
  first | obtain⟨_,rfl⟩:=dc h1 | obtain⟨_,rfl⟩:=c9 h1 | obtain⟨_,rfl⟩:=da h1
  first | obtain⟨_,rfl⟩:=dc h2 | obtain⟨_,rfl⟩:=c9 h2 | obtain⟨_,rfl⟩:=da h2
  first | obtain⟨_,rfl⟩:=dc h3 | obtain⟨_,rfl⟩:=c9 h3 | obtain⟨_,rfl⟩:=da h3
  exact FZ l (qt l) _ _ _ h1 h2 h3 h4 h5
theorem xS:∀ (l:List mx) (xs ys zs:List D),eW l xs=true->eW l ys=true->eW l zs=true->kR xs ys=true->kR ys zs=true->kR xs zs=true
 | [],xs,ys,zs,h1,h2,_,h,_=>by
  cases xs with
  | nil=>cases ys with
   | nil=>cases h
   | cons _ _=>cases h2
  | cons _ _=>cases h1
 | s :: l,xs,ys,zs,h1,h2,h3,h4,h5=>by
  cases xs with
  | nil=>cases h1
  | cons x xs =>
   cases ys with
   | nil=>cases h2
   | cons y ys =>
    cases zs with
    | nil=>cases h3
    | cons z zs =>
     have h1:(cQ s x&&eW l xs)=true:=h1;have h2:(cQ s y&&eW l ys)=true:=h2;have h3:(cQ s z&&eW l zs)=true:=h3;rw [aI] at h1 h2 h3;simp only [lI] at h4 h5 ⊢;by_cases e1:ig x y=true
     ·have:=oA s x y h1.1 h2.1 e1;subst this;rw [if_pos e1] at h4;by_cases e2:ig x z=true
      ·rw [if_pos e2] at h5 ⊢;exact xS l xs ys zs h1.2 h2.2 h3.2 h4 h5
      ·rw [if_neg e2] at h5 ⊢; exact h5
     ·rw [if_neg e1] at h4;by_cases e2:ig y z=true
      ·have:=oA s y z h2.1 h3.1 e2;subst this;rw [if_neg e1]; exact h4
      ·rw [if_neg e2] at h5;have h6:=qt s x y z h1.1 h2.1 h3.1 h4 h5;rw [if_neg (fun e3=>by
        have:=oA s x z h1.1 h3.1 e3;subst this;rw [Bp s x h1.1] at h6; cases h6)]
       exact h6
end
theorem Aa(sh:mx){a b:D}(h1:cQ sh a=true)(h2:cQ sh b=true)(h:nA a b=true):nA b a=false:=by
 cases q:nA b a with
 | false=>rfl
 | true=>have:=qt sh a b a h1 h2 h1 h q; rw [Bp sh a h1] at this; cases this
theorem xT(sh:mx){a b c:D}(h1:cQ sh a=true)(h2:cQ sh b=true)(h3:cQ sh c=true)(q1:nA b a=false)(q2:nA c b=false):nA c a=false:=by
 cases h:nA c a with
 | false=>rfl
 | true =>
  exfalso;cases q:nA a b with
  | false =>
   have:=wc sh a b h1 h2 q q1;subst this; rw [h] at q2; cases q2
  | true=>rw [qt sh c a b h3 h1 h2 h q] at q2; cases q2
theorem sJ(sh:mx){xs ys:List D}(hx:∀ x∈xs,cQ sh x=true)(hp:ys.Perm xs)(hs:ys.Pairwise fun a b=>nA b a=false):ph xs=ys:=by
 have hy:∀ y∈ys,cQ sh y=true:=fun y h=>hx y (hp.mem_iff.mp h);have p1:(ph xs).Perm xs:=List.mergeSort_perm xs OW;have hz:∀ z∈ph xs,cQ sh z=true:=fun z h=>hx z (p1.mem_iff.mp h);have s1:(ph xs).Pairwise fun a b=>nA b a=false:=by
  let LK:List { d:D // cQ sh d=true }:=xs.attach.map fun x=>⟨x.1,hx x.1 x.2⟩
  have ex:xs=LK.map (·.1):=by
   simp only [LK,bt]
   conv=>lhs; rw [<-List.attach_map_subtype_val xs]
   rfl
  have e2:ph xs=(LK.mergeSort fun a b=>OW a.1 b.1).map (·.1):=by
   unfold ph;rw [ex];exact(List.map_mergeSort (r:=fun (a b:{ d:D // cQ sh d=true })=>OW a.1 b.1) (s:=OW) (f:=fun x=>x.1) (l:=LK) fun a _ b _=>rfl).symm
  rw [e2,zH]
  have:=List.pairwise_mergeSort (le:=fun (a b:{ d:D // cQ sh d=true })=>OW a.1 b.1) (fun a b c h1 h2=>by
   unfold OW at *;simp only [Bool.not_eq_true'] at *;exact xT sh a.2 b.2 c.2 h1 h2) (fun a b=>by
   unfold OW;cases q:nA b.1 a.1 with
   | false=>rfl
   | true=>rw [Aa sh b.2 a.2 q]; rfl) LK
  exact this.imp fun h=>by unfold OW at h; simpa using h
 refine List.Perm.eq_of_pairwise (le:=fun a b=>nA b a=false) (fun a b ha hb h h'=>?_) s1 hs (p1.trans hp.symm);exact wc sh a b (hz a ha) (hy b hb) h' h
end K2
end
section
namespace K2
open PySem (Str)
open Enc (enc)
noncomputable def XC(P:D->D->Gp->Prop):List D->Gp->Prop
 | [x,y],G=>P x y G
 | _,_=>False
noncomputable def nI:List D->List D->List D
 | x :: xs,y :: ys=>.tup [x,y] :: nI xs ys
 | _,_=>[]
theorem CD:∀ (xs ys:List D) (i:Nat),(nI xs ys)[i]?=(xs[i]?).bind fun x=>(ys[i]?).map fun y=>D.tup [x,y]
 | [],ys,i=>by simp [nI]
 | x :: xs,[],i=>by cases h:(x :: xs)[i]? <;> simp [nI]
 | x :: xs,y :: ys,0=>by simp [nI]
 | x :: xs,y :: ys,i+1=>by rw [nI,ae,CD xs ys i,ae,ae]
theorem CC:∀ (xs ys:List D),(nI xs ys).length=min xs.length ys.length
 | [],ys=>by simp [nI]
 | x :: xs,[]=>by simp [nI]
 | x :: xs,y :: ys=>by rw [nI,aj,CC xs ys,aj,aj]; lia
noncomputable def tu(x:D)(G:Gp):Option (List D×(Gp->Prop)):=match x with
 | .dR ds=>some (ds,fun _=>True)
 | .ref p=>(match G p with
  | some (.lst ds)=>some (ds,fun G2=>G2 p=some (.lst ds))
  | _=>none)
 | _=>none
noncomputable def rK(x y:D)(G1:Gp)(R:List D->(Gp->Prop)->Gp->Prop):Prop:=match tu x G1,tu y G1 with
 | some (xs,k1),some (ys,k2)=>R (nI xs ys) (fun G2=>k1 G2/\k2 G2) G1
 | _,_=>False
noncomputable def Nw(a b:gb):Lm:=fun E τ G R=>a E τ G fun x G1=>b E τ G1 fun y G2=>rK x y G2 R
noncomputable def Bw(x:D)(G1:Gp)(R:List D->(Gp->Prop)->Gp->Prop):Prop:=match x with
 | .ji kvs=>R (kvs.map (·.1)) (fun _=>True) G1
 | _=>False
noncomputable def pN(a:gb):Lm:=fun E τ G R=>a E τ G fun x G1=>Bw x G1 R
noncomputable def IsL(G:Gp)(d:D)(ds:List D):Prop:=d=.dR ds\/∃ a,d=.ref a/\G a=some (.lst ds)
theorem IsL.dR{G:Gp}{ds:List D}:IsL G (.dR ds) ds:=.inl rfl
theorem IsL.enc{α:Type} [DecidableEq α] [Enc α]{G:Gp}(xs:List α):IsL G (enc xs) (xs.map enc):=.inl rfl
theorem IsL.ref{G:Gp}{a:Nat}{ds:List D}(h:G a=some (.lst ds)):IsL G (.ref a) ds:=.inr ⟨a,rfl,h⟩
theorem DI{G:Gp}{d:D}{ds:List D}(h:IsL G d ds):∃ ok:Gp->Prop,tu d G=some (ds,ok)/\∀ G',gc G G'->ok G':=by
 rcases h with rfl | ⟨a,rfl,e⟩
 ·exact⟨_,rfl,fun _ _=>trivial⟩
 ·unfold tu; simp only [e]; exact⟨_,rfl,fun G' l=>l a _ e⟩
theorem Ki{G:Gp}{d d':D}{ds ds':List D}{R:List D->(Gp->Prop)->Gp->Prop}(h:IsL G d ds)(h':IsL G d' ds')(k:∀ ok:Gp->Prop,(∀ G',gc G G'->ok G')->R (nI ds ds') ok G):rK d d' G R:=by
 obtain⟨k1,e1,h1⟩:=DI h;obtain⟨k2,e2,h2⟩:=DI h';unfold rK; simp only [e1,e2];exact k _ fun G' l=>⟨h1 G' l,h2 G' l⟩
theorem nU{G:Gp}{d:D}{ds:List D}(h:IsL G d ds):itemsOf d G=some ds:=by
 rcases h with rfl | ⟨a,rfl,e⟩
 ·rfl
 ·unfold itemsOf; simp only [e]
theorem LO{G:Gp}{d:D}{ds:List D}(h:IsL G d ds):Ld d G:=by
 rcases h with rfl | ⟨a,rfl,e⟩
 ·trivial
 ·unfold Ld; simp only [e]
theorem Bb{G:Gp}{d:D}{ds:List D}{lo hi:Option Int}{Q:DK}(h:IsL G d ds)(k:gw G (.lst (cut ds lo hi)) Q):SE d lo hi G Q:=by
 rcases h with rfl | ⟨a,rfl,e⟩
 ·exact k
 ·rw [Py e]; exact k
theorem QR{G:Gp}{d:D}{ds:List D}{Q:DK}(h:IsL G d ds)(k:Q (.int (ds.length:Int)) G):zB [d] G Q:=by
 rcases h with rfl | ⟨a,rfl,e⟩
 ·exact k
 ·rw [Ez e]; exact k
theorem Ov{G:Gp}{d:D}{ds:List D}{Q:DK}(h:IsL G d ds)(k:gw G (.lst ds) Q):vI [d] G Q:=by
 unfold vI; simp only [nU h]; exact k
theorem yE{α:Type} [DecidableEq α] [Enc α] [bo α]{G:Gp}{d:D}{xs:List α}{Q:DK}(h:IsL G d (xs.map enc))(hl:xs.length < 64)(k:gw G (.lst ((Pt xs).map enc)) Q)(ok:autoParam (S0 (bo.zM α)=true) Ad._auto_1):t4 [d] G Q :=
 ⟨bo.zM α,xs.map enc,LO h,nU h,by rw [lP,ic]; intro x _; exact bo.Bz x,ok,by rw [aB]; exact hl,by rw [JF]; exact k⟩
theorem FE{G:Gp}{d x:D}{ds:List D}{i:Int}{Q:DK}(h:IsL G d ds)(e:u7 ds i=some x)(k:Q x G):oP d (.int i) G Q:=by
 rcases h with rfl | ⟨a,rfl,e2⟩
 ·rw [PA e]; exact k
 ·rw [PB e2 e]; exact k
theorem tm{G:Gp}{d:D}{ds:List D}(h:IsL G d ds):pM d G=some ds:=by
 rcases h with rfl | ⟨a,rfl,e⟩
 ·rfl
 ·unfold pM; simp only [e]
theorem QW{G:Gp}{d e:D}{ds es:List D}{Q:DK}(h:IsL G d ds)(h':IsL G e es)(hz:ds.length+es.length<=SZ)(k:gw G (.lst (ds++es)) Q):Hd d e G Q:=by
 unfold Hd; simp only [tm h,tm h']; exact⟨hz,k⟩
theorem Bc{G:Gp}{d e:D}{ds es:List D}{Q:DK}(h:IsL G d ds)(h':IsL G e es)(hz:ds.length+es.length<=SZ)(k:gw G (.lst (ds++es)) Q):jy d e G Q:=by
 have:=QW h h' hz k;rcases h with rfl | ⟨a,rfl,_⟩
 ·rw [xi]; exact this
 ·rw [xj]; exact this
theorem Er{α:Type}(xs:List α)(i:Nat)(h:i<=xs.length):cut xs (some (i:Int)) none=xs.drop i:=by
 unfold cut iW;simp only;rw [if_neg (by lia),fL,Nat.min_eq_left h];exact LA (by rw [cV]; lia)
theorem Ol{α:Type}(xs:List α)(i:Nat)(h:i<=xs.length):cut xs none (some (i:Int))=xs.take i:=by
 unfold cut iW;simp only;rw [if_neg (by lia),fL,Nat.min_eq_left h];simp
theorem tU{α β:Type}(f:α->β)(xs:List α)(lo hi:Option Int):cut (xs.map f) lo hi=(cut xs lo hi).map f:=by
 unfold cut; rw [aB,List.map_take,List.map_drop]
theorem t6{α:Type}(xs:List α){k:Int}(h0:0<=k)(h1:k < xs.length):u7 xs k=some (xs[k.toNat]'(by lia)):=by
 unfold u7 II;rw [if_pos h0,if_pos h1];show xs[k.toNat]?=_;exact au (by lia)
theorem FC{n:Nat}{pre post:List D}{d:D}(h:gS 0 n=pre++d :: post):d=.int (pre.length:Int)/\pre.length < n:=by
 have hl:pre.length < n:=by
  have:=congrArg dU h;simp [gS] at this; lia
 have:=congrArg (fun l=>l[pre.length]?) h;simp only [gS,bB,List.getElem?_range hl] at this;rw [cz (aE _)] at this;simp at this;exact⟨this.symm,hl⟩
noncomputable def So{α β:Type} [DecidableEq α] [Enc α] [DecidableEq β] [Enc β](pre:α->Prop)(f:α->β):lR:=fun ds G Q _=>∃ a:α,ds=[enc a]/\pre a/\Q (enc (f a)) G
noncomputable def Xm{α β γ:Type} [DecidableEq α] [Enc α] [DecidableEq β] [Enc β] [DecidableEq γ] [Enc γ](pre:α->β->Prop)(f:α->β->γ):lR:=fun ds G Q _=>∃ (a:α) (b:β),ds=[enc a,enc b]/\pre a b/\Q (enc (f a b)) G
end K2
end
section
namespace K2
open PySem (Str)
open Enc (enc)
noncomputable def Xw:zC
 | .int i,.int j,G,Q=>(0<=j/\j<=1000000/\i.natAbs < 2 ^ 64)/\Q (.int (i ^ j.toNat)) G
 | _,_,_,_=>False
noncomputable def oK:Nat:=2 ^ 4000
noncomputable def zV:zC
 | .int i,.int j,G,Q=>(i.natAbs < oK/\j.natAbs < oK)/\Q (.int (i * j)) G
 | _,_,_,_=>False
theorem Mn{i j:Int}{G:Gp}{Q:DK}:Xw (.int i) (.int j) G Q=((0<=j/\j<=1000000/\i.natAbs < 2 ^ 64)/\Q (.int (i ^ j.toNat)) G):=rfl
theorem uB{i j:Int}{G:Gp}{Q:DK}:zV (.int i) (.int j) G Q=((i.natAbs < oK/\j.natAbs < oK)/\Q (.int (i * j)) G):=rfl
noncomputable def tR:D->Gp->Option (List (D×D))
 | .ji kvs,_=>some kvs
 | .ref a,G=>match G a with
  | some (.fZ kvs)=>some kvs
  | _=>none
 | _,_=>none
noncomputable def tF(kvs:List (D×D)):Bool:=kvs.all fun p=>ef p.1
noncomputable def Ji(ds:List D)(G:Gp)(Q:DK):Prop:=match ds with
 | [x]=>∃ kvs,tR x G=some kvs/\tF kvs=true/\kvs.length<=SZ/\gw G (.fZ kvs) Q
 | _=>False
noncomputable def J0(x:D)(ds:List D)(G:Gp)(Q:DK):Prop:=match ds with
 | [k,d]=>∃ kvs,tR x G=some kvs/\tF kvs=true/\ef k=true/\Q ((look kvs k).getD d) G
 | _=>False
noncomputable def DS(x:D)(G1:Gp)(R:List D->(Gp->Prop)->Gp->Prop):Prop:=match x with
 | .ji kvs=>tF kvs=true/\R (kvs.map fun p=>.tup [p.1,p.2]) (fun _=>True) G1
 | _=>False
noncomputable def kB(a:gb):Lm:=fun E τ G R=>a E τ G fun x G1=>DS x G1 R
noncomputable def Je(k v:gb):gb:=fun E τ G Q=>k E τ G fun x G1=>v E τ G1 fun y G2=>ef x=true/\gw G2 (.fZ [(x,y)]) Q
noncomputable def rT(l m:List (Int×Int)):Bool:=l.length == m.length&&l.all fun p=>cI m p.1 == some p.2
noncomputable def SF(neg:Bool):zC:=fun x y G Q=>∃ l m:List (Int×Int),tR x G=some (bu l)/\tR y G=some (bu m)/\Q (.bl (if neg then !rT l m else rT l m)) G
noncomputable def C8(neg:Bool):zC:=fun x y G Q=>H0 neg x y G Q\/SF neg x y G Q
noncomputable def vd{κ α:Type} [DecidableEq κ] [Enc κ] [DecidableEq α] [Enc α](G:Gp)(d:D)(l:List (κ×α)):Prop:=tR d G=some (bu l)
section
variable {κ α:Type} [DecidableEq κ] [Enc κ] [DecidableEq α] [Enc α] {l:List (κ×α)} {G G':Gp} {d:D}
theorem vd.ref{a:Nat}(h:G a=some (.fZ (bu l))):vd G (.ref a) l:=by unfold vd tR; simp only [h]
theorem vd.ji:vd G (.ji (bu l)) l:=rfl
theorem vd.inv(h:vd G d l):d=.ji (bu l)\/∃ a,d=.ref a/\G a=some (.fZ (bu l)):=by
 unfold vd tR at h;split at h
 ·exact .inl (by rw [aX h])
 ·rename_i a;split at h
  ·rename_i kvs e;exact .inr ⟨a,rfl,by rw [e,aX h]⟩
  ·cases h
 ·cases h
noncomputable def RY(_:Gp)(d:D)(l:List (κ×α)):Prop:=d=.ji (bu l)
theorem RY.p(h:RY G d l):vd G' d l:=by unfold RY at h; rw [h]; exact .ji
theorem jT{β:Type} [DecidableEq β] [Enc β](l:List (Int×β)):tF (bu l)=true:=by
 unfold tF bu; rw [lP,ic]; intro p _; rfl
theorem AF(l:List (κ×α)):(bu l).length=l.length:=by unfold bu; rw [aB]
theorem LQ(h:vd G d l):Ph d G:=by
 rcases h.inv with rfl | ⟨a,rfl,e⟩
 ·trivial
 ·unfold Ph; simp only [e]
theorem Np {C:String} {Q:DK} (h:vd G d l) (k:Q (.bl (C == "dict")) G):isAt C d G Q:=by
 rcases h.inv with rfl | ⟨a,rfl,e⟩
 ·exact k
 ·rw [Nm]; simp only [e]; exact k
end
section
variable {α:Type} [DecidableEq α] [Enc α] {l:List (Int×α)} {G:Gp} {d:D}
theorem Ox{Q:DK}(h:vd G d l)(hs:l.length<=SZ)(k:gw G (.fZ (bu l)) Q):Ji [d] G Q:=⟨_,h,jT l,by rw [AF]; exact hs,k⟩
theorem Qe{Q:DK}{i:Int}{e:α}(h:vd G d l)(k:Q (enc ((cI l i).getD e)) G):J0 d [.int i,enc e] G Q:=by
 refine⟨_,h,jT l,rfl,?_⟩;have:(look (bu l) (.int i)).getD (enc e)=enc ((cI l i).getD e):=by
  rw [show (D.int i)=enc i from rfl,tw]; cases cI l i <;> rfl
 rw [this]; exact k
theorem ke{G0:Gp}{R:List D->(Gp->Prop)->Gp->Prop}(h:RY G0 d l)(le0:gc G0 G)(k:∀ ok:Gp->Prop,(∀ G',gc G0 G'->ok G')->R (l.map fun p=>.tup [.int p.1,enc p.2]) ok G):DS d G R:=by
 unfold RY at h;rw [h];refine⟨jT l,?_⟩;have:(bu l).map (fun p=>D.tup [p.1,p.2])=l.map fun p=>.tup [.int p.1,enc p.2]:=by unfold bu; rw [bt]; rfl
 rw [this];exact k _ fun G' le=>trivial
theorem rL{G0:Gp}{R:List D->(Gp->Prop)->Gp->Prop}(h:RY G0 d l)(le0:gc G0 G)(k:∀ ok:Gp->Prop,(∀ G',gc G0 G'->ok G')->R (l.map fun p=>.int p.1) ok G):Bw d G R:=by
 unfold RY at h;rw [h];show R ((bu l).map (·.1)) _ G;have:(bu l).map (·.1)=l.map fun p=>D.int p.1:=by unfold bu; rw [bt]; rfl
 rw [this];exact k _ fun G' le=>trivial
theorem C6{i:Int}{v:α}{Q:DK}(h:vd G d l)(e:cI l i=some v)(k:Q (enc v) G):oP d (.int i) G Q:=by
 have hk:gG (bu l) (.int i)=true:=lJ l i;have hl:look (bu l) (.int i)=some (enc v):=by rw [show (D.int i)=enc i from rfl,tw,e]; rfl
 rcases h.inv with rfl | ⟨a,rfl,e⟩
 ·rw [v3,hl]; exact⟨hk,k⟩
 ·rw [HY,e]; simp only [hl]; exact⟨hk,k⟩
theorem fK{a:Nat}{i:Int}{v:α}{Q:Gp->Prop}(h:G a=some (.fZ (bu l)))(hs:l.length < SZ)(k:Q (eL G a (.fZ (bu (ez l i v))))):wW (.ref a) (.int i) (enc v) G Q:=by
 unfold wW;simp only [h];refine⟨lJ l i,by rw [AF]; exact hs,?_⟩;rw [show (D.int i)=enc i from rfl,Ib]; exact k
end
theorem xh{neg:Bool}{G:Gp}{d e:D}{l m:List (Int×Int)}{Q:DK}(h1:vd G d l)(h2:vd G e m)(k:Q (.bl (if neg then !rT l m else rT l m)) G):C8 neg d e G Q:=.inr ⟨l,m,h1,h2,k⟩
theorem Mo{neg:Bool}{G:Gp}{i j:Int}{Q:DK}(k:Q (.bl (if neg then !decide (i=j) else decide (i=j))) G):C8 neg (.int i) (.int j) G Q:=.inl ⟨_,_,.int _,.int _,by
 have:ig (.int i) (.int j)=decide (i=j):=Enc.eqv i j;rw [this]; exact k⟩
end K2
end
section
namespace K2
open PySem (Str)
open Enc (enc)
noncomputable abbrev TF2:=kX->gZ->Gp->(List Str->Gp->Prop)->Prop
end K2
end
section
namespace K2
open PySem (Str)
open Enc (enc)
noncomputable def TN(ds:List D)(G:Gp)(Q:DK):Prop:=match ds with
 | [x]=>∃ ns:List Int,Ld x G/\itemsOf x G=some (ns.map D.int)/\(ns.length<=1000/\∀ n∈ns,-1000<=n/\n<=1000)/\Q (.int ns.sum) G
 | _=>False
end K2
end
section
namespace K2
open PySem (Str)
noncomputable def Kj(x:D)(G1:Gp)(R:List D->(Gp->Prop)->Gp->Prop):Prop:=match x with
 | .ji kvs=>(kvs.all fun p=>jU p.1)=true/\R (kvs.map fun p=>.tup [p.1,p.2]) (fun _=>True) G1
 | _=>False
noncomputable def Bv(a:gb):Lm:=fun E τ G R=>a E τ G fun x G1=>Kj x G1 R
end K2
end
section
namespace K2
open PySem (Str)
noncomputable def Em(kv:List (Int×Int)):gb:=fun _ _ G Q=>gw G (.fZ (bu kv)) Q
end K2
end
section
namespace K2
open PySem (Str)
open Enc (enc)
noncomputable def h2(t:T2):Int:=PySem.reduceHash (PySem.Builtin.Tuple.tupleHashOf [PySem.hashInt t.a,PySem.hashInt t.b])
end K2
end
section
namespace K2
open PySem (Str)
noncomputable def QQ(ds:List D)(G:Gp)(Q:DK):Prop:=match ds with
 | [x]=>(match pM x G with
  | some xs=>Q (.tup xs) G
  | none=>False)
 | _=>False
end K2
end
section
namespace K2
open PySem (Str)
noncomputable def only(a:Nat)(o:GO):Gp:=fun b=>if b=a then some o else none
end K2
end
section
namespace K2
open PySem (Str)
noncomputable def ot(kvs:List (PK×D))(k:PK):Option D:=(kvs.find? fun p=>decide (p.1=k)).map (·.2)
noncomputable def JQ(kvs:List (PK×D))(k:PK)(v:D):List (PK×D) :=
 if (kvs.any fun p=>decide (p.1=k))=true then kvs.map (fun p=>if p.1=k then (p.1,v) else p) else kvs++[(k,v)]
noncomputable def tyP(x:D)(G:Gp):Prop:=match x with
 | .ref a=>(match G a with
  | some (.qP _)=>True
  | _=>False)
 | .ny _=>True
 | _=>False
noncomputable def DD(x:D)(ds:List D)(G:Gp)(Q:DK):Prop:=match x,ds with
 | .ref a,[k,d]=>∃ kvs pk,G a=some (.qP kvs)/\k=oq pk/\Q ((ot kvs pk).getD d) G
 | .ny kvs,[k,d]=>∃ pk,k=oq pk/\Q ((ot kvs pk).getD d) G
 | _,_=>False
noncomputable def Fx(o k d:D)(G:Gp)(Q:Gp->Prop):Prop:=match o with
 | .ref a=>∃ kvs pk,G a=some (.qP kvs)/\k=oq pk/\kvs.length < SZ/\Q (eL G a (.qP (JQ kvs pk d)))
 | _=>False
noncomputable def DW(o k:gb):y0:=fun E d τ G Q=>o E τ G fun x G1=>k E τ G1 fun y G2=>Fx x y d G2 fun G3=>Q τ G3
noncomputable def Oj:gb:=fun _ _ G Q=>gw G (.qP []) Q
noncomputable def Oi(k v:gb):gb:=fun E τ G Q=>k E τ G fun x G1=>v E τ G1 fun y G2=>∃ pk,x=oq pk/\gw G2 (.qP [(pk,y)]) Q
noncomputable def Kk(x:D)(G1:Gp)(R:List D->(Gp->Prop)->Gp->Prop):Prop:=match x with
 | .ny kvs=>R (kvs.map fun p=>.tup [oq p.1,p.2]) (fun _=>True) G1
 | _=>False
noncomputable def tK(a:gb):Lm:=fun E τ G R=>a E τ G fun x G1=>Kk x G1 R
noncomputable def DB(x:D)(ds:List D)(G:Gp)(Q:DK):Prop:=match x,ds with
 | .ref a,[k]=>∃ kvs d,G a=some (.fZ kvs)/\(jU k=true/\(kvs.all fun p=>jU p.1)=true/\look kvs k=some d)/\Q d (eL G a (.fZ (kvs.filter fun p=>!ig p.1 k)))
 | _,_=>False
end K2
end
section
namespace K2
open PySem
section
variable {prog:bJ} {w:World} {K:Type} [DecidableEq K] (knd:Cy prog w K)
inductive qQ (h:Heap):List K->List Value->Prop
 | nil:qQ h [] []
 | cons {k:K} {b:Addr} {ks:List K} {vs:List Value}:knd.is h k b->qQ h ks vs->qQ h (k :: ks) (.ref b :: vs)
noncomputable def qR (h:Heap) (ks:List K) (a:Addr):Prop:=∃ o items n,h.get? a=some o/\o.cls=.type "tuple"/\o.data=.seq items n/\qQ knd h ks items.toList
variable {knd}
theorem qQ.inj{h:Heap}{x y:List K}{vs:List Value}(hx:qQ knd h x vs)(hy:qQ knd h y vs):x=y:=by
 induction hx generalizing y with
 | nil=>cases hy; rfl
 | cons h1 _ ih =>
  cases hy with
  | cons h2 t2=>rw [knd.inj h1 h2,ih t2]
theorem qQ.keeps{h h':Heap}{ks:List K}{vs:List Value}{d:Addr}{o:Obj}{es ep}(x:qQ knd h ks vs)(ho:h.get? d=some o)(hd:o.data=.dict es ep)(hs:fc d h h'):qQ knd h' ks vs:=by
 induction x with
 | nil=>exact .nil
 | cons h1 _ ih=>exact .cons (knd.keeps h1 ho hd hs) ih
theorem qR.typeIs {s:av} {ks:List K} {a:Addr} (x:qR knd s.heap ks a):s.TypeIs (.ref a) "tuple":=let ⟨o,_,_,ho,hc,_⟩:=x; ⟨o,ho,hc⟩
theorem qR.inj{h:Heap}{a:Addr}{x y:List K}(hx:qR knd h x a)(hy:qR knd h y a):x=y:=by
 obtain⟨o,items,n,ho,_,hd,hi⟩:=hx;obtain⟨o',Yi,n',Ck,_,yY,NF⟩:=hy;obtain rfl:o=o':=aX (ho.symm.trans Ck);rw [hd] at yY;injection yY with h1 _
 subst h1;exact hi.inj NF
theorem qR.keeps{h h':Heap}{ks:List K}{a d:Addr}{o:Obj}{es ep}(x:qR knd h ks a)(ho:h.get? d=some o)(hd:o.data=.dict es ep)(hs:fc d h h'):qR knd h' ks a:=by
 obtain⟨o',items,n,Ck,hc,yY,hi⟩:=x;have Gk:a≠d:=by
  rintro rfl;obtain rfl:o'=o:=aX (Ck.symm.trans ho);rw [hd] at yY; exact nomatch yY
 exact⟨o',items,n,(hs.2 a Gk).trans Ck,hc,yY,hi.keeps ho hd hs⟩
noncomputable def Bn(knd:Cy prog w K)(ks:List K):Int:=reduceHash (dE (ks.map knd.hash))
noncomputable def j5(knd:Cy prog w K):List K->Nat
 | []=>0
 | k :: ks=>knd.draws k+j5 knd ks
theorem sY(ks:List K)(k:K):j5 knd (ks++[k])=j5 knd ks+knd.draws k:=by
 induction ks with
 | nil=>simp [j5]
 | cons a r ih=>rw [az,j5,j5,ih,jg]
variable {A:dj} {E:Value->av->Prop} {s:av}
theorem IT{ks:List K}{a:Addr}{Q:Int->av->Prop}(hu:A.units < cLine/\knd.room A.in1)(hk:qR knd s.heap ks a)(h:Q (Bn knd ks) { s with toks:=s.toks+(j5 knd ks+1) }) :
  wpAny (model prog w) A (pyHash (.ref a)) Q E s:=by
 have hT:=hk.typeIs;obtain⟨o,items,n,ho,_,hd,hi⟩:=hk;unfold pyHash
 first | unfold pyHashByItsType | skip
 first | refine ag (wpAny_cRoomFor_or (.inr hu.1) ?_) | skip
 refine ag (wx hT F.slot_tuple_hash.lookup ?_);show wpAny _ _ (if (some (Value.builtin "tuple.__hash__") == some fE)=true then _ else _) Q E s;rw [if_neg (by rw [beq_builtin_none]; exact iK)];refine ag (wx hT F.slot_tuple_hash.lookup ?_);show wpAny _ _ (callSpecialIfBoundUnlessNone? (.ref a) "__hash__" _ >>= _) Q E s;refine ag (wpAny_callSpecialIfBoundUnlessNone?_slot hT F.slot_tuple_hash (cX F.slot_tuple_hash hT F.entry_tuple_hash ?_ (F.args_tuple_hash_1 _)));show wpAny _ _ (vV (.ref a) >>= _) _ _ s;refine ag (Co ho hd ?_);refine ag ?_;rw [<-wK];refine kn _
  (fun rest (b:Array Int) s'=>∃ done left,ks=done++left/\qQ knd s.heap left rest/\b.toList=done.map knd.hash/\s'={ s with toks:=s.toks+j5 knd done })
  _ ?_ ?_ _ _ ⟨[],ks,rfl,hi,rfl,rfl⟩
 ·rintro x rest b s' ⟨done,left,rfl,hl,hb,rfl⟩;cases hl with
  | @cons k _ ks' _ h1 hl' =>
   refine ag (knd.pyHash hu.2 h1 ?_)
   first
    | exact aA ⟨done++[k],ks',by simp,hl',by simp [hb],by simp [sY,jg]⟩
    | exact ag (aA (aA ⟨done++[k],ks',by simp,hl',by simp [hb],by simp [sY,jg]⟩))
 ·rintro b s' ⟨done,left,rfl,hl,hb,rfl⟩;cases hl;rw [cN] at h;show wpAny _ _ (retInt (dE b.toList)) _ _ _;rw [hb];refine wpAny_ret_mkInt ?_;show wpAny _ _ (if (decide (-(2:Int) ^ 63<=dE (done.map knd.hash))&&decide (dE (done.map knd.hash) < 2 ^ 63))=true then _ else _) Q E _;unfold Bn reduceHash at h;by_cases hr:(decide (-(2:Int) ^ 63<=dE (done.map knd.hash))&&decide (dE (done.map knd.hash) < 2 ^ 63))=true
  ·rw [if_pos hr];rw [if_pos hr] at h;exact aA (by simpa [jg] using h)
  ·rw [if_neg hr];rw [if_neg hr] at h;exact ag (wpAny_rule (aA (by simpa [jg] using h)))
theorem GH{x y:List K}{a b:Addr}{P:Fin->av->Prop}(hu:knd.room A)(hx:qR knd s.heap x a)(hy:qR knd s.heap y b)(h:P (.done (.ret (.bool (decide (x=y))))) s) :
  wpAny (model prog w) A (Builtin.«tuple.__eq__» ⟨[.ref a,.ref b],[]⟩) P E s:=by
 have hTb:=hy.typeIs;obtain⟨oa,xs,na,hoa,_,hda,hia⟩:=hx;obtain⟨ob,ys,nb,hob,_,Ks,hib⟩:=hy;show wpAny _ _ (isInstance (.ref b) (.type "tuple") >>= _) _ _ s;refine ag (nC hTb wD ?_);simp only [bQ,ar,if_false];refine ag (Co hoa hda ?_);refine ag (Co hob Ks ?_);refine ag ?_;refine kn _
  (fun rest r s'=>r.1=none/\s'=s/\∃ x' y' LK UI,rest=List.zip LK UI/\qQ knd s.heap x' LK/\qQ knd s.heap y' UI/\decide (x'=y')=decide (x=y)/\(LK.length == UI.length)=(xs.size == ys.size))
  _ ?_ ?_ _ _ ⟨rfl,rfl,x,y,xs.toList,ys.toList,rfl,hia,hib,rfl,by simp⟩
 ·rintro⟨u,v⟩ rest r s' ⟨hr,rfl,x',y',LK,UI,hz,Yt,RB,Qr,hlen⟩;cases Yt with
  | nil=>simp at hz
  | @cons k1 u' ZK Xf h1 Ys =>
   cases RB with
   | nil=>simp at hz
   | @cons k2 v' ZJ Xe h2 Yq =>
    simp only [oE,List.cons.injEq,Prod.mk.injEq] at hz;obtain⟨⟨rfl,rfl⟩,rfl⟩:=hz;refine ag (knd.eqBool hu h1 h2 ?_);by_cases hk:k1=k2
    ·subst hk;rw [decide_eq_true rfl];simp only [bQ,ar,if_false];refine aA ⟨rfl,rfl,ZK,ZJ,Xf,Xe,rfl,Ys,Yq,?_,by simpa using hlen⟩;rw [<-Qr];by_cases Ui:ZK=ZJ
     ·simp [Ui]
     ·simp [Ui]
    ·rw [decide_eq_false hk];simp only [fF,if_true];have hf:decide (x=y)=false:=by rw [<-Qr]; simp [hk]
     rw [hf] at h;exact ag (aA (aA (aA h)))
 ·rintro⟨r1,r2⟩ s' ⟨hr,rfl,x',y',LK,UI,hz,Yt,RB,Qr,hlen⟩;simp only at hr;subst hr;refine aA ?_;have YY:(xs.size == ys.size)=decide (x=y):=by
   rw [<-Qr,<-hlen];cases Yt with
   | nil =>
    cases RB with
    | nil=>simp
    | cons _ _=>simp
   | cons _ _ =>
    cases RB with
    | nil=>simp
    | cons _ _=>simp at hz
  show P (.done (.ret (.bool (xs.size == ys.size)))) s';rw [YY]; exact h
theorem AE{x y:List K}{a b:Addr}{Q:Bool->av->Prop}(hu:A.units < cLine/\knd.room A.in1)(hx:qR knd s.heap x a)(hy:qR knd s.heap y b)(h:Q (decide (x=y)) s) :
  wpAny (model prog w) A (eqBool (.ref a) (.ref b)) Q E s:=by
 unfold eqBool
 try with_reducible refine eK ?_
 show wpAny _ _ (if (fk a == fk b)=true then _ else _) Q E s;by_cases VP:(fk a == fk b)=true
 ·rw [if_pos VP];have e:a=b:=by have:=eq_of_beq VP; injection this
  subst e;obtain rfl:=hx.inj hy;exact ag (wpAny_rule (aA (by simpa using h)))
 ·rw [if_neg VP];exact ag (wpAny_richCompare_same_room (op:=.Eq) hx.typeIs hy.typeIs F.slot_tuple_eq
   (cX F.slot_tuple_eq hx.typeIs F.entry_tuple_eq (GH hu.2 hx hy ⟨_,rfl,(fun e=>nomatch e),sx h⟩) (F.args_tuple_eq_2 _ _)) hu.1)
theorem xk{ks:List K}{a:Addr}{Q:Bool->av->Prop}(n:Nat)(hq:∀ (k:K) (b:Addr) (Q:Bool->av->Prop),knd.is s.heap k b->Q true s->wpAny (model prog w) A (Lx n (.ref b)) Q E s)(hk:qR knd s.heap ks a)(h:Q true s):wpAny (model prog w) A (Lx (n+1) (.ref a)) Q E s:=by
 have hT:=hk.typeIs;obtain⟨o,items,n',ho,_,hd,hi⟩:=hk;unfold Lx;refine ag (wx hT F.slot_tuple_eq.lookup ?_);show wpAny _ _ (isInstance (.ref a) (.type "tuple") >>= _) _ _ s;refine ag (nC hT wD ?_);simp only [bQ,ar,if_false];refine ag (wpAny_seqItems ho hd ?_);refine ag ?_;show wpAny _ _ (forIn items _ _) _ _ s;rw [<-wK];refine kn _ (fun rest r s'=>r.1=none/\s'=s/\∃ l,qQ knd s.heap l rest) _ ?_ ?_ _ _ ⟨rfl,rfl,_,hi⟩
 ·rintro v rest r s' ⟨hr,rfl,l,zh⟩;cases zh with
  | cons h1 h2 =>
   refine ag (hq _ _ _ h1 ?_);simp only [bQ,ar,if_false];exact aA ⟨rfl,rfl,_,h2⟩
 ·rintro⟨r1,r2⟩ s' ⟨hr,rfl,_⟩;simp only at hr;subst hr;exact aA h
end
theorem Ia{prog:bJ}{w:World}{K:Type} [DecidableEq K]{knd:KeyKind prog w K}{A:dj}{E:Value->av->Prop}{s:av}{ks:List K}{a:Addr}{Q:Bool->av->Prop}(n:Nat)(hk:IsTupleKey knd s.heap ks a)(h:Q true s):wpAny (model prog w) A (Lx (n+1) (.ref a)) Q E s:=by
 have hT:=hk.typeIs;obtain⟨o,items,n',ho,_,hd,hi⟩:=hk;unfold Lx;refine ag (wx hT F.slot_tuple_eq.lookup ?_);show wpAny _ _ (isInstance (.ref a) (.type "tuple") >>= _) _ _ s;refine ag (nC hT wD ?_);simp only [bQ,ar,if_false];refine ag (wpAny_seqItems ho hd ?_);refine ag ?_;show wpAny _ _ (forIn items _ _) _ _ s;rw [<-wK];refine kn _ (fun rest r s'=>r.1=none/\s'=s/\∀ v∈rest,carriedByValue v=true) _ ?_ ?_ _ _ ⟨rfl,rfl,hi.byValue⟩
 ·rintro v rest r s' ⟨hr,rfl,zh⟩;rw [eqIsQuiet_byValue _ (zh v cc)];refine ag (aA ?_);simp only [bQ,ar,if_false];exact aA ⟨rfl,rfl,fun u Gj=>zh u (aK _ Gj)⟩
 ·rintro⟨r1,r2⟩ s' ⟨hr,rfl,_⟩;simp only at hr;subst hr;exact aA h
section
variable {prog:bJ} {w:World}
noncomputable def Ug{K:Type} [DecidableEq K](knd:KeyKind prog w K):Cy prog w (List (List K)) where
 is:=qR (hU knd)
 hash:=Bn (hU knd)
 draws:=fun ks=>j5 (hU knd) ks+1
 room:=fun A=>A.units < cLine/\(hU knd).room A.in1
 inj:=fun hx hy=>hx.inj hy
 keeps:=fun x ho hd hs=>x.keeps ho hd hs
 pyHash:=fun hu hk h=>IT hu hk h
 eqBool:=fun hu hx hy h=>AE hu hx hy h
 quiet:=fun hk h=>xk 7 (fun _ _ _ h1 h2=>Ia 6 h1 h2) hk h
noncomputable def X1{K:Type} [DecidableEq K](knd:KeyKind prog w K):Cy prog w (List (List (List K))) where
 is:=qR (Ug knd)
 hash:=Bn (Ug knd)
 draws:=fun ks=>j5 (Ug knd) ks+1
 room:=fun A=>A.units < cLine/\(Ug knd).room A.in1
 inj:=fun hx hy=>hx.inj hy
 keeps:=fun x ho hd hs=>x.keeps ho hd hs
 pyHash:=fun hu hk h=>IT hu hk h
 eqBool:=fun hu hx hy h=>AE hu hx hy h
 quiet:=fun hk h=>xk 7 (fun _ _ _ h1 h2=>xk 6 (fun _ _ _ h3 h4=>Ia 5 h3 h4) h1 h2) hk h
theorem JZ{K:Type} [DecidableEq K]{knd:KeyKind prog w K}{A:dj}(hu:A.units+8 < cLine):(X1 knd).room A:=by
 refine⟨?_,?_,?_⟩
 ·lia
 ·show A.units+1 < cLine; lia
 ·show A.units+1+1 < cLine; lia
theorem Dt{K:Type} [DecidableEq K]{knd:KeyKind prog w K}{A:dj}(hu:A.units+8 < cLine):(X1 knd).room A.in1:=by
 refine⟨?_,?_,?_⟩
 ·show A.units+1 < cLine; lia
 ·show A.units+1+1 < cLine; lia
 ·show A.units+1+1+1 < cLine; lia
end
end K2
end
section
namespace K2
open PySem
section
variable {K:Type} [DecidableEq K]
noncomputable def R6(xs:List (K×Addr×Value))(k:K):List (K×Addr×Value):=xs.filter fun x=>decide (x.1≠k)
theorem Jw{xs:List (K×Addr×Value)}(hn:(xs.map (·.1)).Nodup):∀ {j:Nat} {k:K} {p:Addr×Value},xs[j]?=some (k,p)->xs.eraseIdx j=R6 xs k:=by
 induction xs with
 | nil=>intro j k p h; simp at h
 | cons x r ih =>
  intro j k p h;rw [ak,aN] at hn;cases j with
  | zero =>
   simp only [aa,ur] at h;subst h;unfold R6;rw [K7,qU (by simp)];symm;refine List.filter_eq_self.mpr fun y hy=>?_;have:y.1≠k:=fun z=>hn.1 (List.mem_map.mpr ⟨y,hy,z⟩);simpa using this
  | succ j =>
   simp only [ae] at h;have:x.1≠k:=fun z=>hn.1 (by rw [z]; exact List.mem_map.mpr ⟨_,eD h,rfl⟩);unfold R6;rw [K8,K6 (by simpa using this),ih hn.2 h];rfl
theorem z9{α β:Type}(f:α->β):∀ (l:List α) (j:Nat),(l.eraseIdx j).map f=(l.map f).eraseIdx j
 | [],_=>rfl
 | _ :: _,0=>rfl
 | a :: l,j+1=>congrArg (f a :: ·) (z9 f l j)
end
section
variable {prog:bJ} {w:World} {K:Type} [DecidableEq K] {knd:Cy prog w K} {A:dj} {E:Value->av->Prop} {s:av}
theorem A6{d a:Addr}{xs:List (K×Addr×Value)}{k:K}{p:Addr×Value}{Q:Option eZ->av->Prop}(hu:knd.room A)(Qq:knd.is s.heap k a)(hm:s.heap.DictOfH knd d xs)(hp:atKey xs k=some p)(hsz:xs.length<=a8)
  (hQ:∀ e:eZ,e.val=p.2->∀ h',h'.DictOfH knd d (R6 xs k)->fc d s.heap h'->Q (some e) { s with heap:=h',toks:=s.toks+knd.draws k }) :
  wpAny (model prog w) A (CB d (.ref a)) Q E s:=by
 obtain⟨o,es,ep,ho,hc,hd,he,YR,hn⟩:=hm;unfold CB
 try with_reducible refine eK ?_
 refine ag (knd.pyHash hu Qq (ag (wpAny_dictFind_heap (s:={ s with toks:=s.toks+knd.draws k }) hu Qq ho hd he YR hn ?_ ?_)))
 ·intro VB;rw [atKey_none_of_get VB] at hp; cases hp
 ·intro j q hj;rw [atKey_of_get hn hj] at hp;cases hp;refine ag (gi (s:={ s with toks:=s.toks+knd.draws k }) ho hd ?_);rw [entry_at he j,hj]
  refine ag (wpAny_updateDictKeys (hz:=by have e:=size_of_entries he; lia) (s:={ s with toks:=s.toks+knd.draws k }) ho hd (aA (hQ _ rfl _ ⟨_,_,ep+1,ui _ ho (Obj.isFreed_of_dict (Obj.data_mapDictKeys hd _)),
   hc.mapDictKeys _,Obj.data_mapDictKeys hd _,?_,?_,?_⟩ (iT ..))))
  ·rw [<-Jw hn hj,z9,<-he];obtain⟨l⟩:=es;simp
  ·intro x hx;exact knd.keeps (YR x (List.mem_filter.mp hx).1) ho hd (iT ..)
  ·exact lS (ky _ jK) hn
theorem Mt{d a:Addr}{xs:List (K×Addr×Value)}{k:K}{p:Addr×Value}{Q:Value->av->Prop}(hu:knd.room A.in1)(Qq:knd.is s.heap k a)(hm:s.heap.DictOfH knd d xs)(hp:atKey xs k=some p)(hsz:xs.length<=a8)
  (hQ:∀ h',h'.DictOfH knd d (R6 xs k)->fc d s.heap h'->Q p.2 { s with heap:=h',toks:=s.toks+knd.draws k }) :
  wpAny (model prog w) A (call (.builtin "dict.pop") [.ref d,.ref a]) Q E s:=by
 have hT:s.TypeIs (.ref d) "dict":=by obtain⟨o,es,ep,ho,hc,_⟩:=hm; exact⟨o,ho,hc.1⟩
 refine cX rm hT PySem.F.entry_dict_pop ?_ (PySem.F.args_dict_pop_2 _ _);unfold Builtin.«dict.pop»;refine ag ?_;unfold Builtin.Dict.keyAndDefault;refine ag (wy hT ?_);show wpAny _ _ (pure (d,fk a,none)) _ _ s;refine aA ?_;have YO:=hm;obtain⟨o,es,ep,ho,hc,hd,he,YR,hn⟩:=YO;have Gk:es.isEmpty=false:=by
  have:xs≠[]:=by rintro rfl; cases hp
  have h2:=size_of_entries he;have h3:0 < xs.length:=List.length_pos_iff.mpr this;rw [Array.isEmpty_eq_false_iff];rintro rfl;simp at h2; lia
 simp only [keyPart,Option.isSome_none,ar,if_false];refine ag (gi ho hd (ag (aA ?_)));rw [Gk,if_neg iK];refine ag (A6 hu Qq hm hp hsz fun e hv h' YO RD=>?_);simp only [Option.isNone_some,ar,if_false];exact ag (wpAny_letGo (aA ⟨e.val,rfl,by rw [hv]; exact hQ h' YO RD⟩))
end
end K2
end
section
namespace K2
open PySem PySem.Spec PyProof.Rows L2
noncomputable def Us(K:ai)(H:Hp)(a:Addr)(xs:List V):Prop :=
 (∃ o,H a=some (.jl o (.lst xs))) \/
  ∃ (o:Obj) (bS:Array Value) (n:Nat),K.lookup a=some o/\o.cls=.type "list"/\o.dict=none/\o.data=.seq bS n/\bS.size<=a8/\Vals xs bS.toList
theorem Us.sq{K:ai}{H:Hp}{a:Addr}{xs:List V}(h:Us K H a xs):qc K H a xs:=by
 rcases h with ⟨o,h⟩ | h
 ·exact .inl (.inr ⟨o,h⟩)
 ·exact .inr h
noncomputable def dM:Key->D
 | .inl i=>.int i
 | .inr x=>.str x
noncomputable def ExcAt(K:ai)(H:Hp)(a:Addr)(c:Str):Prop:=∃ (o:Obj) (C:Addr),H a=some (.jl o (.ext fun h=>h.get? a=some o))/\o.cls=.ref C/\c5 K bP c=some (some (.ref C))
noncomputable def Jp(K:ai)(H:Hp)(a:Addr)(c:Str)(ns:List Str)(vs:List V):Prop:=∃ (o:Obj) (C dx:Addr) (od:Obj) (fs:List (Str×V)),H a=some (.jl o (.ext fun h=>h.get? a=some o))/\o.cls=.ref C/\c5 K bP c=some (some (.ref C))/\o.dict=some dx/\H dx=some (.jl od (.xd fs))/\PySem.W.notCls o=true/\fs.map (·.1)=ns/\fs.map (·.2)=vs
noncomputable def YE(hs:List Int):Int:=reduceHash (dE hs)
noncomputable def hP(k:PK):Int:=YE (k.map fun r=>YE (r.map fun t=>YE (t.map hashInt)))
noncomputable def Hg(a:Addr)(xs:List (PK×Addr×Value))(h:Heap):Prop:=xs.length<=a8/\(a == cY)=false/\∃ (o:Obj) (es:Array eZ) (ep:Nat),h.get? a=some o/\o.ExactDict/\o.data=.dict es ep/\es.toList=xs.map (fun x=>⟨hP x.1,.ref x.2.1,x.2.2⟩)/\(xs.map (·.1)).Nodup
noncomputable def Q0(kvs:List (PK×D))(ks vs:List V)(xs:List (PK×Addr×Value)):Prop:=kvs.map (fun p=>p.1)=xs.map (fun x=>x.1)/\ks=xs.map (fun x=>V.ref x.2.1)/\Vals vs (xs.map fun x=>x.2.2)
mutual
inductive ck (K:ai) (H:Hp):V->D->Prop
 | eh:ck K H .eh .eh
 | bl (b:Bool):ck K H (.bl b) (.bl b)
 | int (i:Int):ck K H (.int i) (.int i)
 | str (x:Str):ck K H (.str x) (.str x)
 | tup {a:Addr} {vs:List V} {ds:List D}:H a=some (.tup vs)->bh K H vs ds->ck K H (.ref a) (.tup ds)
 | dR {a:Addr} {vs:List V} {ds:List D}:Us K H a vs->bh K H vs ds->ck K H (.ref a) (.dR ds)
 | oI {a:Addr} {o:Obj} {kv:List (Key×V)} {kvs:List (D×D)}:H a=some (.jl o (.dK kv))->lh K H kv kvs->ck K H (.ref a) (.ji kvs)
 | oH {a:Addr} {o:Obj} {kv:List (List Key×V)} {kvs:List (D×D)}:H a=some (.jl o (.dT kv))->kY K H kv kvs->ck K H (.ref a) (.ji kvs)
 | ref (a:Addr):ck K H (.ref a) (.ref a)
 | exc {a:Addr} {c:Str}:ExcAt K H a c->ck K H (.ref a) (.exc c)
 | EZ {a:Addr} {c:Str} {ns:List Str} {vs:List V} {ds:List D}:Jp K H a c ns vs->bh K H vs ds->ck K H (.ref a) (.EZ c ns ds)
 | ny {a:Addr} {o:Obj} {xs:List (PK×Addr×Value)} {ks vs:List V} {kvs:List (PK×D)}:H a=some (.jl o (.ext (Hg a xs)))->Q0 kvs ks vs xs->bh K H ks (kvs.map fun p=>oq p.1)->bh K H vs (kvs.map fun p=>p.2)->ck K H (.ref a) (.ny kvs)
inductive bh (K:ai) (H:Hp):List V->List D->Prop
 | nil:bh K H [] []
 | cons {v:V} {d:D} {vs:List V} {ds:List D}:ck K H v d->bh K H vs ds->bh K H (v :: vs) (d :: ds)
inductive lh (K:ai) (H:Hp):List (Key×V)->List (D×D)->Prop
 | nil:lh K H [] []
 | cons {k:Key} {v:V} {d:D} {r:List (Key×V)} {t:List (D×D)}:ck K H v d->lh K H r t->lh K H ((k,v) :: r) ((dM k,d) :: t)
inductive kY (K:ai) (H:Hp):List (List Key×V)->List (D×D)->Prop
 | nil:kY K H [] []
 | cons {k:List Key} {v:V} {d:D} {r:List (List Key×V)} {t:List (D×D)}:ck K H v d->kY K H r t->kY K H ((k,v) :: r) ((.tup (k.map dM),d) :: t)
end
structure Kp(H H':Hp):Prop where
 tup:∀ a xs,H a=some (.tup xs)->H' a=some (.tup xs)
 jl:∀ a o u,H a=some (.jl o u)->H' a=some (.jl o u)
theorem Kp.refl(H:Hp):Kp H H:=⟨fun _ _ h=>h,fun _ _ _ h=>h⟩
theorem Kp.trans{H H1 H2:Hp}(a:Kp H H1)(b:Kp H1 H2):Kp H H2:=⟨fun c xs h=>b.tup c xs (a.tup c xs h),fun c o u h=>b.jl c o u (a.jl c o u h)⟩
theorem Kp.sqT{K:ai}{H H':Hp}{a:Addr}{xs:List V}(k:Kp H H')(h:wo K H a xs):wo K H' a xs:=by
 rcases h with (h | ⟨o,h⟩) | h
 ·exact .inl (.inl (k.tup _ _ h))
 ·exact .inl (.inr ⟨o,k.jl _ _ _ h⟩)
 ·exact .inr h
theorem Kp.Ua{K:ai}{H H':Hp}{a:Addr}{xs:List V}(k:Kp H H')(h:Us K H a xs):Us K H' a xs:=by
 rcases h with ⟨o,h⟩ | h
 ·exact .inl ⟨o,k.jl _ _ _ h⟩
 ·exact .inr h
theorem ExcAt.mono{K:ai}{H H':Hp}(k:Kp H H'){a:Addr}{c:Str}(h:ExcAt K H a c):ExcAt K H' a c :=
 let ⟨o,C,h1,h2,h3⟩:=h
 ⟨o,C,k.jl _ _ _ h1,h2,h3⟩
theorem Jp.mono{K:ai}{H H':Hp}(k:Kp H H'){a:Addr}{c:Str}{ns:List Str}{vs:List V}(h:Jp K H a c ns vs):Jp K H' a c ns vs :=
 let ⟨o,C,dx,od,fs,h1,h2,h3,h4,h5,h6⟩:=h
 ⟨o,C,dx,od,fs,k.jl _ _ _ h1,h2,h3,h4,k.jl _ _ _ h5,h6⟩
theorem bh.Gi{K:ai}{H:Hp}{P:List V->List D->Prop}(h0:P [] [])(h1:∀ {v:V} {d:D} {vs:List V} {ds:List D},ck K H v d->bh K H vs ds->P vs ds->P (v :: vs) (d :: ds)){vs:List V}{ds:List D}(h:bh K H vs ds):P vs ds :=
 bh.rec (motive_1:=fun _ _ _=>True) (motive_2:=fun vs ds _=>P vs ds) (motive_3:=fun _ _ _=>True) (motive_4:=fun _ _ _=>True) trivial (fun _=>trivial) (fun _=>trivial) (fun _=>trivial) (fun _ _ _=>trivial) (fun _ _ _=>trivial) (fun _ _ _=>trivial) (fun _ _ _=>trivial) (fun _=>trivial) (fun _=>trivial) (fun _ _ _=>trivial) (fun _ _ _ _ _ _=>trivial) h0 (fun a b _ ih=>h1 a b ih) trivial (fun _ _ _ _=>trivial) trivial (fun _ _ _ _=>trivial) h
theorem ck.mono{K:ai}{H H':Hp}(k:Kp H H'):∀ {v:V} {d:D},ck K H v d->ck K H' v d:=fun h =>
 ck.rec (motive_1:=fun v d _=>ck K H' v d) (motive_2:=fun v d _=>bh K H' v d) (motive_3:=fun v d _=>lh K H' v d) (motive_4:=fun v d _=>kY K H' v d)
  .eh .bl .int .str (fun h _ r=>.tup (k.tup _ _ h) r) (fun h _ r=>.dR (k.Ua h) r) (fun h _ r=>.oI (k.jl _ _ _ h) r) (fun h _ r=>.oH (k.jl _ _ _ h) r) .ref (fun h=>.exc (h.mono k)) (fun h _ r=>.EZ (h.mono k) r) (fun h z _ _ r1 r2=>.ny (k.jl _ _ _ h) z r1 r2) .nil (fun _ _ a b=>.cons a b) .nil (fun _ _ a b=>.cons a b) .nil (fun _ _ a b=>.cons a b) h
theorem bh.mono{K:ai}{H H':Hp}(k:Kp H H'){v:List V}{d:List D}(h:bh K H v d):bh K H' v d :=
 bh.Gi (P:=fun v d=>bh K H' v d) .nil (fun r _ ih=>.cons (r.mono k) ih) h
theorem lh.mono{K:ai}{H H':Hp}(k:Kp H H'){v:List (Key×V)}{d:List (D×D)}(h:lh K H v d):lh K H' v d :=
 lh.rec (motive_1:=fun v d _=>ck K H' v d) (motive_2:=fun v d _=>bh K H' v d) (motive_3:=fun v d _=>lh K H' v d) (motive_4:=fun v d _=>kY K H' v d)
  .eh .bl .int .str (fun h _ r=>.tup (k.tup _ _ h) r) (fun h _ r=>.dR (k.Ua h) r) (fun h _ r=>.oI (k.jl _ _ _ h) r) (fun h _ r=>.oH (k.jl _ _ _ h) r) .ref (fun h=>.exc (h.mono k)) (fun h _ r=>.EZ (h.mono k) r) (fun h z _ _ r1 r2=>.ny (k.jl _ _ _ h) z r1 r2) .nil (fun _ _ a b=>.cons a b) .nil (fun _ _ a b=>.cons a b) .nil (fun _ _ a b=>.cons a b) h
theorem kY.mono{K:ai}{H H':Hp}(k:Kp H H'){v:List (List Key×V)}{d:List (D×D)}(h:kY K H v d):kY K H' v d :=
 kY.rec (motive_1:=fun v d _=>ck K H' v d) (motive_2:=fun v d _=>bh K H' v d) (motive_3:=fun v d _=>lh K H' v d) (motive_4:=fun v d _=>kY K H' v d)
  .eh .bl .int .str (fun h _ r=>.tup (k.tup _ _ h) r) (fun h _ r=>.dR (k.Ua h) r) (fun h _ r=>.oI (k.jl _ _ _ h) r) (fun h _ r=>.oH (k.jl _ _ _ h) r) .ref (fun h=>.exc (h.mono k)) (fun h _ r=>.EZ (h.mono k) r) (fun h z _ _ r1 r2=>.ny (k.jl _ _ _ h) z r1 r2) .nil (fun _ _ a b=>.cons a b) .nil (fun _ _ a b=>.cons a b) .nil (fun _ _ a b=>.cons a b) h
theorem bh.length{K:ai}{H:Hp}:∀ {vs:List V} {ds:List D},bh K H vs ds->vs.length=ds.length:=fun h =>
 bh.Gi (P:=fun vs ds=>vs.length=ds.length) rfl (fun _ _ ih=>congrArg (· + 1) ih) h
theorem bh.get{K:ai}{H:Hp}:∀ {vs:List V} {ds:List D} {i:Nat} {d:D},bh K H vs ds->ds[i]?=some d->∃ v,vs[i]?=some v/\ck K H v d:=by
 intro vs ds i d h;refine bh.Gi (P:=fun vs ds=>∀ (i:Nat) (d:D),ds[i]?=some d->∃ v,vs[i]?=some v/\ck K H v d) (fun i d e=>by cases e) (fun r _ ih i d e=>?_) h i d;cases i with
 | zero=>cases e; exact⟨_,rfl,r⟩
 | succ i=>exact ih i d e
theorem bh.append{K:ai}{H:Hp}:∀ {vs ws:List V} {ds es:List D},bh K H vs ds->bh K H ws es->bh K H (vs++ws) (ds++es):=fun {_ ws _ es} h s =>
 bh.Gi (P:=fun vs ds=>bh K H (vs++ws) (ds++es)) s (fun r _ ih=>.cons r ih) h
theorem bh.take{K:ai}{H:Hp}:∀ {vs:List V} {ds:List D} (n:Nat),bh K H vs ds->bh K H (vs.take n) (ds.take n):=fun {_ _} n h =>
 bh.Gi (P:=fun vs ds=>∀ n,bh K H (vs.take n) (ds.take n)) (fun n=>by rw [yU,yU]; exact .nil) (fun r _ ih n=>by
  cases n with
  | zero=>exact .nil
  | succ n=>exact .cons r (ih n)) h n
theorem bh.drop{K:ai}{H:Hp}:∀ {vs:List V} {ds:List D} (n:Nat),bh K H vs ds->bh K H (vs.drop n) (ds.drop n):=fun {_ _} n h =>
 bh.Gi (P:=fun vs ds=>∀ n,bh K H (vs.drop n) (ds.drop n)) (fun n=>by rw [yV,yV]; exact .nil) (fun r t ih n=>by
  cases n with
  | zero=>exact .cons r t
  | succ n=>exact ih n) h n
theorem bh.set{K:ai}{H:Hp}{v:V}{d:D}(r:ck K H v d):∀ {vs:List V} {ds:List D} (i:Nat),bh K H vs ds->bh K H (vs.set i v) (ds.set i d):=fun {_ _} i h =>
 bh.Gi (P:=fun vs ds=>∀ i,bh K H (vs.set i v) (ds.set i d)) (fun i=>by rw [AY,AY]; exact .nil) (fun q t ih i=>by
  cases i with
  | zero=>exact .cons r t
  | succ i=>exact .cons q (ih i)) h i
theorem bh.one{K:ai}{H:Hp}:∀ {vs:List V} {d:D},bh K H vs [d]->∃ v,vs=[v]/\ck K H v d:=by
 intro vs d h;cases h with
 | cons r t=>cases t; exact⟨_,rfl,r⟩
theorem bh.two{K:ai}{H:Hp}:∀ {vs:List V} {d e:D},bh K H vs [d,e]->∃ v u,vs=[v,u]/\ck K H v d/\ck K H u e:=by
 intro vs d e h;cases h with
 | cons r t =>
  obtain⟨u,rfl,q⟩:=bh.one t;exact⟨_,_,rfl,r,q⟩
theorem bh.zero{K:ai}{H:Hp}:∀ {vs:List V},bh K H vs []->vs=[]
 | _,.nil=>rfl
theorem bh.ints{K:ai}{H:Hp}:∀ {vs:List V} {ns:List Int},bh K H vs (ns.map D.int)->vs=ns.map V.int:=by
 intro vs ns;induction ns generalizing vs with
 | nil=>intro h; exact h.zero
 | cons n ns ih =>
  intro h;cases h with
  | cons r t =>
   cases r;rw [ih t]; rfl
theorem bh.Iq{K:ai}{H:Hp}:∀ (ns:List Int),bh K H (ns.map V.int) (ns.map D.int)
 | []=>.nil
 | n :: ns=>.cons (.int n) (bh.Iq ns)
theorem lh.ind{K:ai}{H:Hp}{motive:∀ (kv:List (Key×V)) (kvs:List (D×D)),lh K H kv kvs->Prop}(nil:motive [] [] .nil)
  (cons:∀ {k:Key} {v:V} {d:D} {r:List (Key×V)} {t:List (D×D)} (re:ck K H v d) (rs:lh K H r t),motive r t rs->motive ((k,v) :: r) ((dM k,d) :: t) (.cons re rs)):∀ {kv:List (Key×V)} {kvs:List (D×D)} (h:lh K H kv kvs),motive kv kvs h:=fun h =>
 lh.rec (motive_1:=fun _ _ _=>True) (motive_2:=fun _ _ _=>True) (motive_3:=motive) (motive_4:=fun _ _ _=>True) trivial (fun _=>trivial) (fun _=>trivial) (fun _=>trivial) (fun _ _ _=>trivial) (fun _ _ _=>trivial) (fun _ _ _=>trivial) (fun _ _ _=>trivial) (fun _=>trivial) (fun _=>trivial) (fun _ _ _=>trivial) (fun _ _ _ _ _ _=>trivial) trivial (fun _ _ _ _=>trivial) nil (fun a b _ ih=>cons a b ih) trivial (fun _ _ _ _=>trivial) h
theorem kY.ind{K:ai}{H:Hp}{motive:∀ (kv:List (List Key×V)) (kvs:List (D×D)),kY K H kv kvs->Prop}(nil:motive [] [] .nil)
  (cons:∀ {k:List Key} {v:V} {d:D} {r:List (List Key×V)} {t:List (D×D)} (re:ck K H v d) (rs:kY K H r t),motive r t rs->motive ((k,v) :: r) ((.tup (k.map dM),d) :: t) (.cons re rs)):∀ {kv:List (List Key×V)} {kvs:List (D×D)} (h:kY K H kv kvs),motive kv kvs h:=fun h =>
 kY.rec (motive_1:=fun _ _ _=>True) (motive_2:=fun _ _ _=>True) (motive_3:=fun _ _ _=>True) (motive_4:=motive) trivial (fun _=>trivial) (fun _=>trivial) (fun _=>trivial) (fun _ _ _=>trivial) (fun _ _ _=>trivial) (fun _ _ _=>trivial) (fun _ _ _=>trivial) (fun _=>trivial) (fun _=>trivial) (fun _ _ _=>trivial) (fun _ _ _ _ _ _=>trivial) trivial (fun _ _ _ _=>trivial) trivial (fun _ _ _ _=>trivial) nil (fun a b _ ih=>cons a b ih) h
theorem lh.length{K:ai}{H:Hp}:∀ {v:List (Key×V)} {d:List (D×D)},lh K H v d->v.length=d.length:=fun h =>
 lh.ind (motive:=fun v d _=>v.length=d.length) rfl (fun _ _ ih=>congrArg (· + 1) ih) h
theorem kY.length{K:ai}{H:Hp}:∀ {v:List (List Key×V)} {d:List (D×D)},kY K H v d->v.length=d.length:=fun h =>
 kY.ind (motive:=fun v d _=>v.length=d.length) rfl (fun _ _ ih=>congrArg (· + 1) ih) h
noncomputable def Jr(K:ai)(H:Hp)(a:Addr):GO->Prop
 | .lst ds=>∃ vs,H a=some (.lst vs)/\bh K H vs ds
 | .fZ kvs=>(∃ kv,H a=some (.dK kv)/\lh K H kv kvs)\/∃ kv,H a=some (.dT kv)/\kY K H kv kvs
 | .ins c fs=>∃ C dx fv,H a=some (.ins C dx fv)/\c5 K bP c=some (some (.ref C))/\fv.map (·.1)=fs.map (·.1)/\bh K H (fv.map (·.2)) (fs.map (·.2))
 | .qP kvs=>∃ xs ks vs,H a=some (.ext (Hg a xs))/\Q0 kvs ks vs xs/\bh K H ks (kvs.map fun p=>oq p.1)/\bh K H vs (kvs.map fun p=>p.2)
noncomputable def kZ(K:ai)(H:Hp)(G:Gp):Prop:=∀ a g,G a=some g->Jr K H a g
theorem Jr.dk{K:ai}{H:Hp}{a:Addr}{kv:List (Key×V)}{kvs:List (D×D)}(h:H a=some (.dK kv))(r:lh K H kv kvs):Jr K H a (.fZ kvs):=.inl ⟨kv,h,r⟩
theorem Jr.dt{K:ai}{H:Hp}{a:Addr}{kv:List (List Key×V)}{kvs:List (D×D)}(h:H a=some (.dT kv))(r:kY K H kv kvs):Jr K H a (.fZ kvs):=.inr ⟨kv,h,r⟩
theorem Jr.mono{K:ai}{H H':Hp}{a:Addr}{g:GO}(k:Kp H H')(e:H' a=H a)(h:Jr K H a g):Jr K H' a g:=by
 cases g with
 | lst ds=>obtain⟨vs,q,r⟩:=h; exact⟨vs,e.trans q,r.mono k⟩
 | ins c fs=>obtain⟨C,dx,fv,q,h1,h2,r⟩:=h; exact⟨C,dx,fv,e.trans q,h1,h2,r.mono k⟩
 | qP kvs=>obtain⟨xs,ks,vs,q,h1,r1,r2⟩:=h; exact⟨xs,ks,vs,e.trans q,h1,r1.mono k,r2.mono k⟩
 | fZ kvs =>
  rcases h with ⟨kv,q,r⟩ | ⟨kv,q,r⟩
  ·exact .inl ⟨kv,e.trans q,r.mono k⟩
  ·exact .inr ⟨kv,e.trans q,r.mono k⟩
theorem Jr.tracked{K:ai}{H:Hp}{a:Addr}{g:GO}(h:Jr K H a g):H a≠none:=by
 cases g with
 | lst ds=>obtain⟨vs,q,r⟩:=h; rw [q]; simp
 | ins c fs=>obtain⟨C,dx,fv,q,_⟩:=h; rw [q]; simp
 | qP kvs=>obtain⟨xs,ks,vs,q,_⟩:=h; rw [q]; simp
 | fZ kvs =>
  rcases h with ⟨kv,q,r⟩ | ⟨kv,q,r⟩
  ·rw [q]; simp
  ·rw [q]; simp
theorem kZ.free{K:ai}{H:Hp}{G:Gp}{a:Addr}(h:kZ K H G)(e:H a=none):G a=none:=by
 cases q:G a with
 | none=>rfl
 | some g=>exact absurd e (h a g q).tracked
theorem kZ.Vf{K:ai}{H:Hp}{G:Gp}{a:Addr}{xs:List V}(h:kZ K H G)(e:H a=some (.tup xs)):G a=none:=by
 cases q:G a with
 | none=>rfl
 | some g =>
  have z:=h a g q;cases g with
  | lst ds=>obtain⟨vs,q,r⟩:=z; rw [e] at q; cases q
  | ins c fs=>obtain⟨C,dx,fv,q,_⟩:=z; rw [e] at q; cases q
  | qP kvs=>obtain⟨xs,ks,vs,q,_⟩:=z; rw [e] at q; cases q
  | fZ kvs =>
   rcases z with ⟨kv,q,r⟩ | ⟨kv,q,r⟩
   ·rw [e] at q; cases q
   ·rw [e] at q; cases q
theorem kZ.Vg{K:ai}{H:Hp}{G:Gp}{a:Addr}{o:Obj}{u:HO}(h:kZ K H G)(e:H a=some (.jl o u)):G a=none:=by
 cases q:G a with
 | none=>rfl
 | some g =>
  have z:=h a g q;cases g with
  | lst ds=>obtain⟨vs,q,r⟩:=z; rw [e] at q; cases q
  | ins c fs=>obtain⟨C,dx,fv,q,_⟩:=z; rw [e] at q; cases q
  | qP kvs=>obtain⟨xs,ks,vs,q,_⟩:=z; rw [e] at q; cases q
  | fZ kvs =>
   rcases z with ⟨kv,q,r⟩ | ⟨kv,q,r⟩
   ·rw [e] at q; cases q
   ·rw [e] at q; cases q
structure Mv(K:ai)(H:Hp)(G:Gp)(H':Hp)(G':Gp):Prop where
 keep:∀ a o,H a=some o->G a=none->H' a=some o/\G' a=none
 ly:∀ a,G a≠none->H' a≠none
 ab:kZ K H' G'
theorem Mv.refl{K:ai}{H:Hp}{G:Gp}(h:kZ K H G):Mv K H G H G:=⟨fun _ _ e n=>⟨e,n⟩,fun a n=>by
 cases q:G a with
 | none=>exact absurd q n
 | some g=>exact(h a g q).tracked,h⟩
theorem Mv.trans{K:ai}{H H1 H2:Hp}{G G1 G2:Gp}(a:Mv K H G H1 G1)(b:Mv K H1 G1 H2 G2):Mv K H G H2 G2 :=
 ⟨fun c o e n=>let ⟨e1,n1⟩:=a.keep c o e n; b.keep c o e1 n1,fun c n=>by
  have h1:=a.ly c n;cases q:G1 c with
  | some g=>exact b.ly c (by rw [q]; simp)
  | none =>
   cases q1:H1 c with
   | none=>exact absurd q1 h1
   | some o=>rw [(b.keep c o q1 q).1]; simp,b.ab⟩
theorem Mv.kp{K:ai}{H H':Hp}{G G':Gp}(m:Mv K H G H' G')(h:kZ K H G):Kp H H' :=
 ⟨fun a xs e=>(m.keep a _ e (h.Vf e)).1,fun a o u e=>(m.keep a _ e (h.Vg e)).1⟩
theorem Kp.new{H:Hp}{p:Addr}{o:HO}(hp:H p=none):Kp H (upd H p o):=⟨fun a xs e=>by rw [bL (dD e hp)]; exact e,fun a ob u e=>by rw [bL (dD e hp)]; exact e⟩
theorem Kp.putL{H:Hp}{p:Addr}{xs:List V}{o:HO}(hp:H p=some (.lst xs)):Kp H (upd H p o) :=
 ⟨fun a ys e=>by rw [bL (by rintro rfl; rw [hp] at e; cases e)]; exact e,fun a ob u e=>by rw [bL (by rintro rfl; rw [hp] at e; cases e)]; exact e⟩
theorem Mv.new{K:ai}{H:Hp}{G:Gp}{p:Addr}{o:HO}{g:GO}(h:kZ K H G)(hp:H p=none)(ho:Jr K (upd H p o) p g):Mv K H G (upd H p o) (eL G p g) where
 keep:=fun a ob e n=>by
  have ne:=dD e hp;exact⟨by rw [bL ne]; exact e,by rw [dP ne]; exact n⟩
 ly:=fun a n=>by
  have ne:a≠p:=by rintro rfl; exact n (h.free hp)
  rw [bL ne];exact(Mv.refl h).ly a n
 ab:=fun a g' e=>by
  by_cases ha:a=p
  ·subst ha; rw [aH] at e; cases e; exact ho
  ·rw [dP ha] at e;exact(h a g' e).mono (.new hp) (bL ha)
theorem Mv.Li{K:ai}{H:Hp}{G:Gp}{p:Addr}{o:HO}(h:kZ K H G)(hp:H p=none):Mv K H G (upd H p o) G where
 keep:=fun a ob e n=>⟨by rw [bL (dD e hp)]; exact e,n⟩
 ly:=fun a n=>by
  have ne:a≠p:=by rintro rfl; exact n (h.free hp)
  rw [bL ne];exact(Mv.refl h).ly a n
 ab:=fun a g' e=>by
  have ne:a≠p:=by rintro rfl; rw [h.free hp] at e; cases e
  exact(h a g' e).mono (.new hp) (bL ne)
theorem Mv.put{K:ai}{H:Hp}{G:Gp}{p:Addr}{o:HO}{g g0:GO}(h:kZ K H G)(hg:G p=some g0)(k:Kp H (upd H p o))(ho:Jr K (upd H p o) p g):Mv K H G (upd H p o) (eL G p g) where
 keep:=fun a ob e n=>by
  have ne:a≠p:=by rintro rfl; rw [hg] at n; cases n
  exact⟨by rw [bL ne]; exact e,by rw [dP ne]; exact n⟩
 ly:=fun a n=>by
  by_cases ha:a=p
  ·subst ha; rw [bY]; simp
  ·rw [bL ha]; exact(Mv.refl h).ly a n
 ab:=fun a g' e=>by
  by_cases ha:a=p
  ·subst ha; rw [aH] at e; cases e; exact ho
  ·rw [dP ha] at e;exact(h a g' e).mono k (bL ha)
theorem kZ.lst{K:ai}{H:Hp}{G:Gp}{a:Addr}{ds:List D}(h:kZ K H G)(e:G a=some (.lst ds)):∃ vs,H a=some (.lst vs)/\bh K H vs ds:=h a _ e
theorem Mv.FT{K:ai}{H:Hp}{G:Gp}{p:Addr}{vs:List V}{ds:List D}(h:kZ K H G)(hp:H p=none)(r:bh K H vs ds):Mv K H G (upd H p (.lst vs)) (eL G p (.lst ds)) :=
 .new h hp ⟨vs,bY,r.mono (.new hp)⟩
theorem Mv.putL{K:ai}{H:Hp}{G:Gp}{p:Addr}{ZL vs:List V}{ds0 ds:List D}(h:kZ K H G)(hg:G p=some (.lst ds0))(hp:H p=some (.lst ZL))(r:bh K H vs ds):Mv K H G (upd H p (.lst vs)) (eL G p (.lst ds)) :=
 .put h hg (.putL hp) ⟨vs,bY,r.mono (.putL hp)⟩
structure O0(K:ai)(H:Hp)(σ:L2.St)(τ:gZ):Prop where
 len:σ.length=τ.length
 at':∀ (i:Nat) (d:D),τ[i]?=some (some d)->∃ v,σ[i]?=some (some v)/\ck K H v d
theorem O0.mono{K:ai}{H H':Hp}{σ:L2.St}{τ:gZ}(k:Kp H H')(a:O0 K H σ τ):O0 K H' σ τ :=
 ⟨a.len,fun i d e=>let ⟨v,h1,h2⟩:=a.at' i d e; ⟨v,h1,h2.mono k⟩⟩
theorem O0.set{K:ai}{H:Hp}{σ:L2.St}{τ:gZ}{v:V}{d:D}(a:O0 K H σ τ)(i:Nat)(r:ck K H v d):O0 K H (σ.set i (some v)) (τ.set i (some d)):=by
 refine⟨by rw [du,du]; exact a.len,fun j e h=>?_⟩;by_cases hj:i=j
 ·subst hj;by_cases hi:i < τ.length
  ·rw [cT hi] at h;cases h;exact⟨v,by rw [cT (by rw [a.len]; exact hi)],r⟩
  ·rw [List.set_eq_of_length_le (by lia)] at h;rw [uf (by lia)] at h;cases h
 ·rw [eE hj] at h;obtain⟨w,h1,h2⟩:=a.at' j e h;exact⟨w,by rw [eE hj]; exact h1,h2⟩
structure I2(X:Cx)(pins:List (Addr×Obj))(σ:L2.St)(H:Hp)(τ:gZ)(G:Gp)(s:av):Prop where
 inv:Inv X pins σ H s
 st:O0 X.K H σ τ
 ab:kZ X.K H G
theorem I2.mv{X:Cx}{pins:List (Addr×Obj)}{σ:L2.St}{H H':Hp}{τ:gZ}{G G':Gp}{s s':av}(I:I2 X pins σ H τ G s)(I':Inv X pins σ H' s')(m:Mv X.K H G H' G'):I2 X pins σ H' τ G' s' :=
 ⟨I',I.st.mono (m.kp I.ab),m.ab⟩
noncomputable def CXe(P:bJ)(w:World):K5:=fun outer H s E e s'=>∃ (a C t:Addr) (B:Heap) (H':Hp),e=.ref a/\s'.os=s.os/\A0 s'.gens/\Un (Ll outer) [] H H' s.heap s'.heap/\oB P w H' s'.heap /\
 (∀ b o,s'.heap.get? b=some o->b∉Ll outer->(s.heap.get? b≠none\/H' b≠none)->B.get? b=some o)/\PySem.Heap.FlyingW B outer a (.ref C) (.ref t) s'.heap/\H' a=none/\s.heap.get? a=none/\E (.ref C) none H'
noncomputable def exK(K:ai)(mg:Str->Option Value)(E:kX):XK:=fun cls _ H=>∃ (ex:Ex) (C:Addr) (G:Gp),cls=.ref C/\mg ex.cls=some (.ref C)/\kZ K H G/\E ex G
structure Lk(X:Cx)(E:kX):Prop where
 made:∀ (pins:List (Addr×Obj)) (σ:L2.St) (H:Hp) (s:av) (h1:Heap) (a C:Addr) (args:List Value) (ex:Ex) (G:Gp),Inv X pins σ H s->kZ X.K H G->PySem.Heap.MadeExcOf s.heap h1 a (.ref C) args->X.mg ex.cls=some (.ref C)->E ex G->X.xe (.ref a) { s with heap:=h1 }
 pass:∀ (pins:List (Addr×Obj)) (σ:L2.St) (H:Hp) (s s':av) (e:Value),Inv X pins σ H s->CXe X.prog X.w X.stack H s (exK X.K X.mg E) e s'->X.xe e s'
theorem Lk.none{X:Cx}{E:kX}(h:∀ ex G,¬ E ex G):Lk X E where
 made:=fun _ _ _ _ _ _ _ _ ex _ _ _ _ _ z=>absurd z (h ex _)
 pass:=fun _ _ _ _ _ _ _ hc=>by
  obtain⟨_,_,_,_,_,_,_,_,_,_,_,_,_,_,hz⟩:=hc;obtain⟨ex,_,_,_,_,_,z⟩:=hz;exact absurd z (h ex _)
inductive si (X:Cx) (pins:List (Addr×Obj)) (σ:L2.St) (H:Hp) (G:Gp) (Q:DK) (u:Value) (s':av):Prop
 | mk (v:V) (H':Hp) (d:D) (G':Gp) (i:Inv X pins σ H' s') (m:Mv X.K H G H' G') (r:RelV v u) (rd:ck X.K H' v d) (q:Q d G'):si X pins σ H G Q u s'
inductive Ur (X:Cx) (pins:List (Addr×Obj)) (σ:L2.St) (H:Hp) (G:Gp) (Q:Bool->Gp->Prop) (b:Bool) (s':av):Prop
 | mk (H':Hp) (G':Gp) (i:Inv X pins σ H' s') (m:Mv X.K H G H' G') (q:Q b G'):Ur X pins σ H G Q b s'
inductive AP2 (X:Cx) (pins:List (Addr×Obj)) (σ:L2.St) (H:Hp) (G:Gp) (Q:List D->Gp->Prop) (us:List Value) (s':av):Prop
 | mk (vs:List V) (H':Hp) (ds:List D) (G':Gp) (i:Inv X pins σ H' s') (m:Mv X.K H G H' G') (r:Vals vs us) (rd:bh X.K H' vs ds) (q:Q ds G'):AP2 X pins σ H G Q us s'
inductive WV (X:Cx) (pins:List (Addr×Obj)) (H:Hp) (G:Gp) (P:gZ->Gp->Prop) (s':av):Prop
 | mk (jb:L2.St) (H':Hp) (oG:gZ) (G':Gp) (i:I2 X pins jb H' oG G' s') (m:Mv X.K H G H' G') (q:P oG G'):WV X pins H G P s'
inductive SPr (X:Cx) (pins:List (Addr×Obj)) (H:Hp) (G:Gp) (P:D->Gp->Prop) (u:Value) (s':av):Prop
 | mk (v:V) (jb:L2.St) (H':Hp) (d:D) (G':Gp) (i:Inv X pins jb H' s') (m:Mv X.K H G H' G') (r:RelV v u) (rd:ck X.K H' v d) (q:P d G'):SPr X pins H G P u s'
noncomputable def TZ(X:Cx)(pins:List (Addr×Obj))(H:Hp)(G:Gp)(D:kI)(f:Flow)(s':av):Prop :=
 match f with
 | .next=>WV X pins H G D.nx s'
 | .brk=>WV X pins H G D.bk s'
 | .cont=>WV X pins H G D.ct s'
 | .ret u=>SPr X pins H G D.rt u s'
noncomputable def gy(X:Cx)(e:Expr)(t:gb):Prop :=
 ∀ (E:kX) (pins:List (Addr×Obj)) (s:av) (σ:L2.St) (H:Hp) (τ:gZ) (G:Gp) (Q:DK),Lk X E->I2 X pins σ H τ G s->t E τ G Q->wpAny (model X.prog X.w) X.A (eval e X.env) (si X pins σ H G Q) X.xe s
noncomputable def Ln(X:Cx)(e:Expr)(t:vJ):Prop :=
 ∀ (E:kX) (pins:List (Addr×Obj)) (s:av) (σ:L2.St) (H:Hp) (τ:gZ) (G:Gp) (Q:Bool->Gp->Prop),Lk X E->I2 X pins σ H τ G s->t E τ G Q->wpAny (model X.prog X.w) X.A (isTrue e X.env (eval e X.env)) (Ur X pins σ H G Q) X.xe s
noncomputable def RU(X:Cx)(e:Expr)(t:vJ):Prop :=
 ∀ (wh:Sem Value) (E:kX) (pins:List (Addr×Obj)) (s:av) (σ:L2.St) (H:Hp) (τ:gZ) (G:Gp) (Q:Bool->Gp->Prop),Lk X E->I2 X pins σ H τ G s->t E τ G Q->wpAny (model X.prog X.w) X.A (isTrue e X.env wh) (Ur X pins σ H G Q) X.xe s
noncomputable def KS(X:Cx)(es:List Expr)(t:He):Prop :=
 ∀ (pos:Pos) (E:kX) (pins:List (Addr×Obj)) (s:av) (σ:L2.St) (H:Hp) (τ:gZ) (G:Gp) (Q:List D->Gp->Prop),Lk X E->I2 X pins σ H τ G s->t E τ G Q->wpAny (model X.prog X.w) X.A (spliced (oU pos (cU es X.env))) (AP2 X pins σ H G Q) X.xe s
noncomputable def Hf(X:Cx)(st:Stmt)(t:gW):Prop :=
 ∀ (E:kX) (pins:List (Addr×Obj)) (s:av) (σ:L2.St) (H:Hp) (τ:gZ) (G:Gp) (D:kI),Lk X E->I2 X pins σ H τ G s->t E D τ G->wpAny (model X.prog X.w) X.A (exec st X.env) (TZ X pins H G D) X.xe s
noncomputable def yH(X:Cx)(st:List Stmt)(t:gW):Prop :=
 ∀ (E:kX) (pins:List (Addr×Obj)) (s:av) (σ:L2.St) (H:Hp) (τ:gZ) (G:Gp) (D:kI),Lk X E->I2 X pins σ H τ G s->t E D τ G->wpAny (model X.prog X.w) X.A (execs st X.env) (TZ X pins H G D) X.xe s
theorem TZ.trans{X:Cx}{pins:List (Addr×Obj)}{H H1:Hp}{G G1:Gp}{D:kI}{f:Flow}{s':av}(m:Mv X.K H G H1 G1)(h:TZ X pins H1 G1 D f s'):TZ X pins H G D f s':=by
 cases f with
 | next=>obtain⟨jb,H',oG,G',I,m',q⟩:=h; exact⟨jb,H',oG,G',I,m.trans m',q⟩
 | brk=>obtain⟨jb,H',oG,G',I,m',q⟩:=h; exact⟨jb,H',oG,G',I,m.trans m',q⟩
 | cont=>obtain⟨jb,H',oG,G',I,m',q⟩:=h; exact⟨jb,H',oG,G',I,m.trans m',q⟩
 | ret u=>obtain⟨v,jb,H',d,G',I,m',r,rd,q⟩:=h; exact⟨v,jb,H',d,G',I,m.trans m',r,rd,q⟩
section
variable {X:Cx} {a b c:Expr} {ta tb tc:gb} {pos:Pos}
theorem jh{pins:List (Addr×Obj)}{σ:L2.St}{H:Hp}{τ:gZ}{G:Gp}{s:av}{E:kX}{R:DK}{Q:Value->av->Prop}(ha:gy X a ta)(hE:Lk X E)(I:I2 X pins σ H τ G s)(h:ta E τ G R)
  (k:∀ v H1 d G1 u s1,I2 X pins σ H1 τ G1 s1->Mv X.K H G H1 G1->RelV v u->ck X.K H1 v d->R d G1->Q u s1):wpAny (model X.prog X.w) X.A (eval a X.env) Q X.xe s :=
 gB (ha E pins s σ H τ G R hE I h) (by rintro u s1 ⟨v,H1,d,G1,I1,m,r,rd,q⟩; exact k v H1 d G1 u s1 (I.mv I1 m) m r rd q)
theorem si.trans{pins:List (Addr×Obj)}{σ:L2.St}{H H1:Hp}{G G1:Gp}{Q:DK}{u:Value}{s':av}(m:Mv X.K H G H1 G1)(h:si X pins σ H1 G1 Q u s'):si X pins σ H G Q u s':=by
 obtain⟨v,H',d,G',I,m',r,rd,q⟩:=h;exact⟨v,H',d,G',I,m.trans m',r,rd,q⟩
theorem Ur.trans{pins:List (Addr×Obj)}{σ:L2.St}{H H1:Hp}{G G1:Gp}{Q:Bool->Gp->Prop}{u:Bool}{s':av}(m:Mv X.K H G H1 G1)(h:Ur X pins σ H1 G1 Q u s'):Ur X pins σ H G Q u s':=by
 obtain⟨H',G',I,m',r⟩:=h;exact⟨H',G',I,m.trans m',r⟩
theorem PR {i:Nat} {x:Str} (hN:X.N[i]?=some x) (hv:WT X.env.scope x) (hd:autoParam ((x == ("__debug__" : Str))=false) Ad._auto_1) (IS:autoParam ((x == ("__classdict__" : Str))=false) Ad._auto_1):gy X (.Name x pos) (aw i):=by
 intro E pins s σ H τ G Q hE I h;unfold aw at h;split at h
 ·rename_i d e;obtain⟨v,h1,h2⟩:=I.st.at' i d e;exact gB (SO hN hv hd IS pins s σ H (fun v' H'=>v'=v/\H'=H) I.inv ⟨v,h1,rfl,rfl⟩) fun u s1 RH=>by
   obtain⟨v',H',I1,r,e1,e2⟩:=RH;subst e1; subst e2;exact⟨_,_,d,G,I1,.refl I.ab,r,h2,h⟩
 ·exact h.elim
theorem uF{e:Expr}{v:V}{d:D}(h:PE X e (tC v))(r:∀ K H,ck K H v d):gy X e (dC d):=by
 intro E pins s σ H τ G Q hE I hq;exact gB (h pins s σ H (fun v' H'=>v'=v/\H'=H) I.inv ⟨rfl,rfl⟩) fun u s1 YF=>by
  obtain⟨v',H',I1,rr,e1,e2⟩:=YF;subst e1; subst e2;exact⟨_,_,d,G,I1,.refl I.ab,rr,r _ _,hq⟩
theorem aP{i j}:gy X (.Constant (.int i) j pos) (dC (.int i)):=uF SQ fun _ _=>.int i
noncomputable def oM(X:Cx)(f:Value->Value->Sem Value)(r:zC):Prop :=
 ∀ (pins:List (Addr×Obj)) (s:av) (σ:L2.St) (H:Hp) (G:Gp) (x y:V) (dx dy:D) (v u:Value) (Q:DK),Inv X pins σ H s->kZ X.K H G->RelV x v->RelV y u->ck X.K H x dx->ck X.K H y dy->r dx dy G Q ->
  wpAny (model X.prog X.w) X.A (f v u) (si X pins σ H G Q) X.xe s
noncomputable def Wa(X:Cx)(f:Value->Sem Value)(r:D->Gp->DK->Prop):Prop :=
 ∀ (pins:List (Addr×Obj)) (s:av) (σ:L2.St) (H:Hp) (G:Gp) (x:V) (dx:D) (v:Value) (Q:DK),Inv X pins σ H s->kZ X.K H G->RelV x v->ck X.K H x dx->r dx G Q ->
  wpAny (model X.prog X.w) X.A (f v) (si X pins σ H G Q) X.xe s
noncomputable def qh(X:Cx)(f:Value)(r:List D->Gp->DK->Prop):Prop :=
 ∀ (pins:List (Addr×Obj)) (s:av) (σ:L2.St) (H:Hp) (G:Gp) (xs:List V) (ds:List D) (us:List Value) (Q:DK),Inv X pins σ H s->kZ X.K H G->Vals xs us->bh X.K H xs ds->r ds G Q ->
  wpAny (model X.prog X.w) X.A (call f us) (si X pins σ H G Q) X.xe s
noncomputable abbrev AU(K:ai)(H:Hp)(G:Gp)(Q:DK):VK:=fun v H'=>∃ d G',Mv K H G H' G'/\ck K H' v d/\Q d G'
theorem si.of{pins:List (Addr×Obj)}{σ:L2.St}{H:Hp}{G:Gp}{Q:DK}{u:Value}{s':av}(h:EP X pins σ (AU X.K H G Q) u s'):si X pins σ H G Q u s':=by
 obtain⟨v,H',I,r,d,G',m,rd,q⟩:=h;exact⟨v,H',d,G',I,m,r,rd,q⟩
theorem OB(ha:gy X a ta)(hb:gy X b tb){E:kX}{pins:List (Addr×Obj)}{s:av}{σ:L2.St}{H:Hp}{τ:gZ}{G:Gp}{R:D->D->Gp->Prop}(hE:Lk X E)(I:I2 X pins σ H τ G s)
  (h:ta E τ G fun x G1=>tb E τ G1 fun y G2=>R x y G2) {Q:Value->av->Prop} {f:Value->Value->Sem Value}
  (hf:∀ v u s2 x y dx dy H2 G2,I2 X pins σ H2 τ G2 s2->Mv X.K H G H2 G2->RelV x v->RelV y u->ck X.K H2 x dx->ck X.K H2 y dy->R dx dy G2->wpAny (model X.prog X.w) X.A (f v u) Q X.xe s2) :
  wpAny (model X.prog X.w) X.A (eval a X.env) (fun v ft=>wpAny (model X.prog X.w) X.A (eval b X.env) (fun u CK=>wpAny (model X.prog X.w) X.A (f v u) Q X.xe CK) X.xe ft) X.xe s:=by
 refine jh ha hE I h fun x H1 dx G1 v s1 I1 m1 r1 jd q1=>?_;refine jh hb hE I1 q1 fun y H2 dy G2 u s2 lX m2 r2 xc q2=>?_;exact hf v u s2 x y dx dy H2 G2 lX (m1.trans m2) r1 r2 (jd.mono (m2.kp I1.ab)) xc q2
theorem cu{op:Operator}{r:zC}(ho:oM X (iF op) r)(ha:gy X a ta)(hb:gy X b tb):gy X (.BinOp a op b pos) (bG r ta tb):=by
 intro E pins s σ H τ G Q hE I h;exact wpAny_BinOp (OB ha hb hE I h fun v u s2 x y dx dy H2 G2 lX m rx ry dX dY q=>gB (ho pins s2 σ H2 G2 x y dx dy v u Q lX.inv lX.ab rx ry dX dY q) fun _ _ z=>z.trans m)
theorem xu{op:UnaryOp}{r:D->Gp->DK->Prop}(ho:Wa X (unaryOp op) r)(ha:gy X a ta):gy X (.UnaryOp op a pos) (Oe r ta):=by
 intro E pins s σ H τ G Q hE I h;exact UnaryOp_ (jh ha hE I h fun x H1 dx G1 v s1 I1 m1 r1 jd q1=>gB (ho pins s1 σ H1 G1 x dx v Q I1.inv I1.ab r1 jd q1) fun _ _ z=>z.trans m1)
theorem PU{op:CmpOp}{r:zC}(ho:oM X (eY op) r)(ha:gy X a ta)(hb:gy X b tb)(hm:behindInMarks op b=false):gy X (.Compare a [op] [b] pos) (bG r ta tb):=by
 intro E pins s σ H τ G Q hE I h;exact wpAny_Compare1 (OB ha hb hE I h fun v u s2 x y dx dy H2 G2 lX m rx ry dX dY q=>gB (ho pins s2 σ H2 G2 x y dx dy v u Q lX.inv lX.ab rx ry dX dY q) fun _ _ z=>z.trans m) hm
end
end K2
end
section
namespace K2
open PySem PySem.Spec PyProof.Rows L2
theorem UL{K:ai}{H:Hp}{G:Gp}{x:V}{d:D}{k:Bool}(ab:kZ K H G)(r:ck K H x d)(e:EV d G=some k):(∃ p,x=.ref p/\Rd H p (.dT [])/\k=false)\/(∃ p kv,x=.ref p/\Rd H p (.dK kv)/\k=!kv.isEmpty)\/TY K x H k:=by
 have N9:∀ kvs:List (D×D),(if (kvs.all fun p=>ef p.1)=true then some (!kvs.isEmpty) else none)=some k->∀ p,((∃ kv,Rd H p (.dK kv)/\lh K H kv kvs)\/∃ kv,Rd H p (.dT kv)/\kY K H kv kvs) ->
   (∃ p',V.ref p=.ref p'/\Rd H p' (.dT [])/\k=false)\/(∃ p' kv,V.ref p=.ref p'/\Rd H p' (.dK kv)/\k=!kv.isEmpty)\/TY K (.ref p) H k:=by
  intro kvs e p z;by_cases ha:(kvs.all fun p=>ef p.1)=true
  ·rw [if_pos ha] at e;cases e;rcases z with ⟨kv,hv,rs⟩ | ⟨kv,hv,rs⟩
   ·right; left;refine⟨p,kv,rfl,hv,?_⟩;cases rs <;> rfl
   ·left;cases rs with
    | nil=>exact⟨p,rfl,hv,rfl⟩
    | cons _ _=>simp [ef] at ha
  ·rw [if_neg ha] at e; cases e
 cases r with
 | eh=>right; right; cases e; rfl
 | bl b=>right; right; cases e; rfl
 | int i=>right; right; cases e; rfl
 | str y =>
  right; right;unfold EV at e;dsimp only at e;by_cases h:y.length<=SZ
  ·rw [if_pos h] at e; cases e; exact⟨by rw [cS]; exact h,rfl⟩
  ·rw [if_neg h] at e; cases e
 | tup h rs =>
  right; right;cases e;refine .inr (.inl ⟨_,.of h,?_⟩);cases rs <;> rfl
 | dR h rs =>
  right; right;cases e;refine .inl ⟨_,h.sq,?_⟩;cases rs <;> rfl
 | oI h rs=>exact N9 _ e _ (.inl ⟨_,.inr ⟨_,h⟩,rs⟩)
 | oH h rs=>exact N9 _ e _ (.inr ⟨_,.inr ⟨_,h⟩,rs⟩)
 | exc h=>simp [EV] at e
 | EZ h _=>simp [EV] at e
 | ny _ _ _ _=>simp [EV] at e
 | ref a =>
  unfold EV at e;dsimp only at e;cases q:G a with
  | none=>rw [q] at e; cases e
  | some g =>
   rw [q] at e;have z:=ab a g q;cases g with
   | lst ds =>
    right; right;obtain⟨vs,hv,rs⟩:=z;cases e;refine .inl ⟨vs,.of hv,?_⟩;cases rs <;> rfl
   | ins _ _=>cases e
   | qP _=>cases e
   | fZ kvs =>
    refine N9 kvs e a ?_;rcases z with ⟨kv,hv,rs⟩ | ⟨kv,hv,rs⟩
    ·exact .inl ⟨kv,.inl hv,rs⟩
    ·exact .inr ⟨kv,.inl hv,rs⟩
section
variable {X:Cx} {a b c:Expr} {ta tb tc:gb} {pos:Pos}
noncomputable def Wb(X:Cx):Prop:=∀ (pins:List (Addr×Obj)) (s:av) (σ:L2.St) (H:Hp) (G:Gp) (x:V) (d:D) (v:Value) (k:Bool) (Q:Bool->av->Prop),Inv X pins σ H s->kZ X.K H G->RelV x v->ck X.K H x d->EV d G=some k ->
  (∀ s',Inv X pins σ H s'->Q k s')->wpAny (model X.prog X.w) X.A (truthy v) Q X.xe s
theorem LS:Wb X:=by
 intro pins s σ H G x d v k Q I ab rx rd e q;rcases UL ab rd e with ⟨p,rfl,hv,hk⟩ | ⟨p,kv,rfl,hv,hk⟩ | h
 ·obtain⟨z,hS,xs,rel,o,es,ep,ho,hx,yY,hl,nd⟩:=hv.ok I.cD;have Yr:xs=[]:=by cases rel; rfl
  subst Yr;have he:es=#[]:=by simpa using hl
  subst he;cases rx;have dd:s.heap.DictOf (cK X.prog X.w) p []:=⟨o,#[],ep,ho,hx,yY,(fun _ h=>by simp at h),.nil,cF⟩;refine E1 hS dd (by simp) ?_;subst hk;exact q _ (I.tok _)
 ·cases rx;subst hk;exact QB I hv q
 ·exact gB (Sb pins s σ H x v (fun k' H'=>k'=k/\H'=H) I rx ⟨k,h,rfl,rfl⟩) fun k' s' RH=>by
   obtain⟨H',I',e1,e2⟩:=RH;subst e1; subst e2; exact q s' I'
theorem je(ha:gy X a ta)(he:autoParam (∀ whole,isTrue a X.env whole=(do let v ← whole; standAt a.pos; Lw [v] (truthy v))) Ai._auto_1):Ln X a (jj ta):=by
 intro E pins s σ H τ G Q hE I h;refine isTrue_plain (jh ha hE I h fun x H1 d G1 v s1 I1 m1 r1 jd q1=>?_) (he _)
 try dsimp only at q1
 split at q1
 ·rename_i k e;exact LS pins s1 σ H1 G1 x d v k _ I1.inv I1.ab r1 jd e fun s' I'=>⟨H1,G1,I',m1,q1⟩
 ·exact q1.elim
theorem fP{op:CmpOp}{r:zC}(ho:oM X (eY op) r)(ha:gy X a ta)(hb:gy X b tb)(hm:behindInMarks op b=false):Ln X (.Compare a [op] [b] pos) (jj (bG r ta tb)):=by
 intro E pins s σ H τ G Q hE I h;refine wpAny_isTrue_Compare1 (jh ha hE I h fun x H1 dx G1 v s1 I1 m1 r1 jd q1=>jh hb hE I1 q1 fun y H2 dy G2 u s2 lX m2 r2 xc q2 =>
  gB (ho pins s2 σ H2 G2 x y dx dy v u _ lX.inv lX.ab r1 r2 (jd.mono (m2.kp I1.ab)) xc q2) ?_) hm
 rintro c s3 ⟨z,H3,dz,G3,I3,m3,r3,Xs,q3⟩
 try dsimp only at q3
 split at q3
 ·rename_i k e;exact LS pins s3 σ H3 G3 z dz c k _ I3 m3.ab r3 Xs e fun s' I'=>⟨H3,G3,I',(m1.trans m2).trans m3,q3⟩
 ·exact q3.elim
variable {tA tB:vJ} {rest:List Expr}
theorem RU.pt{e:Expr}{t:vJ}(h:RU X e t):Ln X e t:=fun E pins s σ H τ G Q hE I q=>h _ E pins s σ H τ G Q hE I q
theorem LU{pins:List (Addr×Obj)}{σ:L2.St}{H:Hp}{τ:gZ}{G:Gp}{s:av}{E:kX}{R:Bool->Gp->Prop}{Q:Bool->av->Prop}(ha:Ln X a tA)(hE:Lk X E)(I:I2 X pins σ H τ G s)(h:tA E τ G R)
  (k:∀ c H1 G1 s1,I2 X pins σ H1 τ G1 s1->Mv X.K H G H1 G1->R c G1->Q c s1):wpAny (model X.prog X.w) X.A (isTrue a X.env (eval a X.env)) Q X.xe s :=
 gB (ha E pins s σ H τ G R hE I h) (by rintro c s1 ⟨H1,G1,I1,m,q⟩; exact k c H1 G1 s1 (I.mv I1 m) m q)
theorem Be(ha:Ln X a tA):RU X (.BoolOp .Or [a] pos) tA:=by
 intro wh E pins s σ H τ G Q hE I h;refine isTrue_or (gB (ha E pins s σ H τ G Q hE I h) fun c s1 e=>?_);cases c with
 | false=>exact isTrue_or_nil e
 | true=>exact e
theorem Bf(ha:Ln X a tA)(hb:RU X (.BoolOp .Or (b :: rest) pos) tB):RU X (.BoolOp .Or (a :: b :: rest) pos) (QE tA tB):=by
 intro wh E pins s σ H τ G Q hE I h;refine isTrue_or (LU ha hE I h fun c H1 G1 s1 I1 m1 q1=>?_);cases c with
 | false=>exact gB (hb wh E pins s1 σ H1 τ G1 Q hE I1 (by simpa using q1)) fun _ _ z=>z.trans m1
 | true=>exact⟨H1,G1,I1.inv,m1,by simpa using q1⟩
theorem nM(ha:Ln X a tA):Ln X (.UnaryOp .Not a pos) (tT tA):=by
 intro E pins s σ H τ G Q hE I h;exact isTrue_not (gB (ha E pins s σ H τ G (fun c H1=>Q (!c) H1) hE I h) (by rintro c s' ⟨H',G',i,m,q⟩; exact⟨H',G',i,m,q⟩))
theorem PS{op}{t:gb}(h:gy X a t):gy X (.BoolOp op [a] pos) t:=fun E pins s σ H τ G Q hE I hw=>BoolOp_one (h E pins s σ H τ G Q hE I hw)
theorem PV(ha:gy X a ta)(hb:gy X (.BoolOp .And (b :: rest) pos) tb):gy X (.BoolOp .And (a :: b :: rest) pos) (Jf ta tb):=by
 intro E pins s σ H τ G Q hE I h;refine BoolOp_and (jh ha hE I h fun x H1 d G1 v s1 I1 m1 r1 jd q1=>?_)
 try dsimp only at q1
 split at q1
 ·rename_i e;exact LS pins s1 σ H1 G1 x d v true _ I1.inv I1.ab r1 jd e fun s' I'=>gB (hb E pins s' σ H1 τ G1 Q hE ⟨I',I1.st,I1.ab⟩ q1) fun _ _ z=>z.trans m1
 ·rename_i e;exact LS pins s1 σ H1 G1 x d v false _ I1.inv I1.ab r1 jd e fun s' I'=>⟨x,H1,d,G1,I',m1,r1,jd,q1⟩
 ·exact q1.elim
theorem PT(ha:gy X a ta):gy X (.UnaryOp .Not a pos) (Of ta):=by
 intro E pins s σ H τ G Q hE I h;refine UnaryOp_ (jh ha hE I h fun x H1 d G1 v s1 I1 m1 r1 jd q1=>?_)
 try dsimp only at q1
 split at q1
 ·rename_i k e;exact not_of (LS pins s1 σ H1 G1 x d v k _ I1.inv I1.ab r1 jd e fun s' I'=>⟨.bl (!k),H1,.bl (!k),G1,I',m1,rfl,.bl _,q1⟩)
 ·exact q1.elim
theorem MA(hc:Ln X c tA)(ha:gy X a ta)(hb:gy X b tb):gy X (.IfExp c a b pos) (V3 tA ta tb):=by
 intro E pins s σ H τ G Q hE I h;refine wpAny_IfExp (LU hc hE I h fun d H1 G1 s1 I1 m1 q1=>?_);cases d with
 | true=>exact gB (ha E pins s1 σ H1 τ G1 Q hE I1 (by simpa using q1)) fun _ _ z=>z.trans m1
 | false=>exact gB (hb E pins s1 σ H1 τ G1 Q hE I1 (by simpa using q1)) fun _ _ z=>z.trans m1
variable {e:Expr} {es:List Expr} {te:gb} {t:He}
theorem aL:KS X [] bq:=fun _ _ _ _ _ H _ G Q _ I h=>y8 ⟨[],H,[],G,I.inv,.refl I.ab,.nil,.nil,h⟩
theorem ah(ha:gy X e te)(hr:KS X es t)(hs:autoParam (cU (e :: es) X.env=(false,eval e X.env) :: cU es X.env) Ar._auto_1):KS X (e :: es) (ay te t):=by
 intro pos E pins s σ H τ G Q hE I h;rw [hs];show wpAny _ _ (spliced ((false,eval e X.env) :: oU pos (cU es X.env))) _ _ s;refine og (jh ha hE I h fun x H1 d G1 u s1 I1 m1 r1 jd q1=>?_);exact gB (hr pos E pins s1 σ H1 τ G1 _ hE I1 q1) (by rintro us s2 ⟨xs,H2,ds,G2,lX,m2,r2,xc,q2⟩; exact⟨x :: xs,H2,d :: ds,G2,lX,m1.trans m2,.cons r1 r2,.cons (jd.mono (m2.kp I1.ab)) xc,q2⟩)
theorem Fo{pins:List (Addr×Obj)}{σ:L2.St}{H:Hp}{τ:gZ}{G:Gp}{s:av}{E:kX}{R:List D->Gp->Prop}{Q:List Value->av->Prop}(ha:KS X es t)(pos:Pos)(hE:Lk X E)(I:I2 X pins σ H τ G s)(h:t E τ G R)
  (k:∀ vs H1 ds G1 us s1,I2 X pins σ H1 τ G1 s1->Mv X.K H G H1 G1->Vals vs us->bh X.K H1 vs ds->R ds G1->Q us s1):wpAny (model X.prog X.w) X.A (spliced (oU pos (cU es X.env))) Q X.xe s :=
 gB (ha pos E pins s σ H τ G R hE I h) (by rintro us s1 ⟨vs,H1,ds,G1,I1,m,r,rd,q⟩; exact k vs H1 ds G1 us s1 (I.mv I1 m) m r rd q)
theorem eA{x1}(h:KS X es t):gy X (.Tuple es x1 pos) (iM t):=by
 intro E pins s σ H τ G Q hE I hq;refine wpAny_Tuple_spliced (Fo h pos hE I hq ?_);rintro xs H1 ds G1 us s1 I1 m1 r rd ⟨z,q⟩;refine⟨by rw [<-r.length,rd.length,cS]; exact z,?_⟩;have hf:H1 s1.heap.objs.size=none:=I1.inv.cD.fresh (aE _);refine⟨.ref s1.heap.objs.size,upd H1 s1.heap.objs.size (.tup xs),.tup ds,G1,I1.inv.laid (t':=s1.toks) (fun b u e=>aJ _ e) (aE _) ?_,m1.trans (.Li I1.ab hf),rfl,?_,q⟩
 ·exact⟨by rw [rd.length,cS]; exact z,us,r,⟨_,bz _ rfl,rfl,_,rfl⟩⟩
 ·exact .tup bY (rd.mono (.new hf))
theorem mf(h:KS X es t):gy X (.List es pos) (oJ t):=by
 intro E pins s σ H τ G Q hE I hq;refine wpAny_List_spliced (Fo h pos hE I hq ?_);rintro xs H1 ds G1 us s1 I1 m1 r rd ⟨z,q⟩;refine⟨by rw [<-r.length,rd.length,cS]; exact z,?_⟩;have hf:H1 s1.heap.objs.size=none:=I1.inv.cD.fresh (aE _);refine⟨.ref s1.heap.objs.size,upd H1 s1.heap.objs.size (.lst xs),.ref _,eL G1 s1.heap.objs.size (.lst ds),I1.inv.laid (t':=s1.toks) (fun b u e=>aJ _ e) (aE _) ?_,m1.trans (.FT I1.ab hf rd),rfl,.ref _,q _ (I1.ab.free hf)⟩;exact⟨by rw [rd.length,cS]; exact z,us,0,r,bz _ rfl⟩
noncomputable def cG(K:ai)(sp:lR):Sp:=fun vs H Q _=>∃ ds G Q2,bh K H vs ds/\kZ K H G/\sp ds G Q2 (fun _ _=>False)/\∀ d G' v H',Q2 d G'->Mv K H G H' G'->ck K H' v d->Q v H'
variable {k:Nat} {f:Addr} {fd:aC} {ps:List Str} {sp:lR} {x:Str} {p:Pos} {r:List D->Gp->DK->Prop} {id:String}
theorem MD(F:fH X.prog X.w X.K X.mg X.base fD k f fd ps (cG X.K sp))(hr:lO k X.A)(hg:Gl X x)(hm:X.mg x=some (.ref f))(hk:kF X.K (.ref f)=true)(hb:Binds X.K fd ps [])
  (ha:KS X (e :: es) t) (Ks:autoParam ((x == ("__debug__" : Str))=false) Ad._auto_1) (he:autoParam (cU (e :: es) X.env=(false,eval e X.env) :: cU es X.env) Ar._auto_1) (Km:autoParam ((oU pos (cU es X.env)).any (·.1)=false) Ar._auto_1) :
  gy X (.Call (.Name x p) (e :: es) [] pos) (fun E τ G Q=>bC (fun ds G1 Q1 _=>sp ds G1 Q1 fun _ _=>False) t E τ G Q):=by
 intro E pins s σ H τ G Q hE I h;refine lu (Bs I.inv hg hm ?_ Ks);refine PySem.W.callWith_K (h₀:=X.base) I.inv.ok.mod.WC hk (Fo ha pos hE I h fun vs H1 ds G1 us s1 I1 m1 r rd q=>⟨I1.inv.ID,?_⟩) he Km;refine gB (Sx F hr hb .nil U0 I1.inv r (Q:=AU X.K H1 G1 Q) ?_) fun _ _ z=>(si.of z).trans m1;rw [cN];exact⟨ds,G1,Q,rd,I1.ab,q,fun d G' v H' q' m' Ub=>⟨d,G',m',Ub,q'⟩⟩
theorem k9 (hc:qh X (.builtin id) r) (hg:Gl X x) (hm:X.mg x=none) (hv:eC x=some (.builtin id)) (ha:KS X (e :: es) t) (hn:autoParam (x≠"__name__") Ad._auto_1) (Ks:autoParam ((x == ("__debug__" : Str))=false) Ad._auto_1)
  (he:autoParam (cU (e :: es) X.env=(false,eval e X.env) :: cU es X.env) Ar._auto_1) (Km:autoParam ((oU pos (cU es X.env)).any (·.1)=false) Ar._auto_1):gy X (.Call (.Name x p) (e :: es) [] pos) (zx r t):=by
 intro E pins s σ H τ G Q hE I h;refine lu (rJ I.inv hg hm hv ?_ hn Ks);exact uq (Fo ha pos hE I h fun vs H1 ds G1 us s1 I1 m1 r1 jd q1=>gB (hc pins s1 σ H1 G1 vs ds us Q I1.inv I1.ab r1 jd q1) fun _ _ z=>z.trans m1) he Km
variable {st:Stmt} {ZP:List Stmt} {u v:gW}
theorem fQ:yH X [] fA:=fun _ _ _ σ H τ G _ _ I h=>wz ⟨σ,H,τ,G,I,.refl I.ab,h⟩
theorem aM(h1:Hf X st u)(h2:yH X ZP v):yH X (st :: ZP) (cH u v):=by
 intro E pins s σ H τ G D hE I h;refine wpAny_execs_cons (gB (h1 E pins s σ H τ G { D with nx:=v E D } hE I h) fun f s1 q=>?_);cases f with
 | next =>
  obtain⟨jb,H',oG,G',I',m,q⟩:=q;exact gB (h2 E pins s1 jb H' oG G' D hE I' q) fun _ _ z=>z.trans m
 | ret v=>exact q
 | brk=>exact q
 | cont=>exact q
theorem aS(h1:Hf X st u):yH X [st] u:=by
 intro E pins s σ H τ G D hE I h;refine wpAny_execs_cons (gB (h1 E pins s σ H τ G D hE I h) fun f s1 q=>?_);cases f with
 | next=>exact wz q
 | ret v=>exact q
 | brk=>exact q
 | cont=>exact q
theorem cm(he:gy X e te):Hf X (.Return (some e) pos) (cR te):=by
 intro E pins s σ H τ G D hE I h;exact wpAny_Return_some (gB (he E pins s σ H τ G _ hE I h) (by rintro v s1 ⟨x,H1,d,G1,I1,m,r1,rd,q1⟩; exact⟨x,σ,H1,d,G1,I1,m,r1,rd,q1⟩))
theorem i9{sa sb:List Stmt}(hc:Ln X c tA)(ha:yH X sa u)(hb:yH X sb v):Hf X (.If c sa sb pos) (ja tA u v):=by
 intro E pins s σ H τ G D hE I h;refine wpAny_If (LU hc hE I h fun d H1 G1 s1 I1 m1 q1=>?_);cases d with
 | true=>exact gB (ha E pins s1 σ H1 τ G1 D hE I1 (by simpa using q1)) fun _ _ z=>z.trans m1
 | false=>exact gB (hb E pins s1 σ H1 τ G1 D hE I1 (by simpa using q1)) fun _ _ z=>z.trans m1
noncomputable def KR(X:Cx)(target:Expr)(t:y0):Prop :=
 ∀ (E:kX) (pins:List (Addr×Obj)) (s:av) (σ:L2.St) (H:Hp) (τ:gZ) (G:Gp) (w:V) (d:D) (u:Value) (Q:gZ->Gp->Prop),Lk X E->I2 X pins σ H τ G s->RelV w u->ck X.K H w d->t E d τ G Q ->
  wpAny (model X.prog X.w) X.A (Hn target X.env u) (fun _ s'=>∃ jb H' oG G',I2 X pins jb H' oG G' s'/\Mv X.K H G H' G'/\Q oG G') X.xe s
noncomputable def Q3(X:Cx)(ts:List Expr)(t:Ca):Prop :=
 ∀ (E:kX) (pins:List (Addr×Obj)) (s:av) (σ:L2.St) (H:Hp) (τ:gZ) (G:Gp) (ws:List V) (ds:List D) (us:List Value) (Q:gZ->Gp->Prop),Lk X E->I2 X pins σ H τ G s->Vals ws us->bh X.K H ws ds->t E ds τ G Q ->
  wpAny (model X.prog X.w) X.A (assignInOrder ((yQ ts X.env).map (·.2)) us) (fun _ s'=>∃ jb H' oG G',I2 X pins jb H' oG G' s'/\Mv X.K H G H' G'/\Q oG G') X.xe s
theorem Mx{i:Nat}{x:Str}(hN:X.N.Nodup)(hi:X.N[i]?=some x)(hx:Loc X.env.scope x)(hf:autoParam (X.fn x=true\/X.env.scope.names.lookup x=some .local) Ao._auto_1):KR X (.Name x pos) (aO i):=by
 intro E pins s σ H τ G w d u Q hE I r rd h;exact wpAny_assign_Name (CM I.inv hN hi hx r (fun s' I'=>⟨_,H,_,G,⟨I',I.st.set i rd,I.ab⟩,.refl I.ab,h⟩) hf)
theorem gM:Q3 X [] jG:=by
 intro E pins s σ H τ G ws ds us Q hE I r rd h;unfold jG at h;split at h
 ·have e:=rd.zero;subst e;cases r;exact assignInOrder_nil ⟨σ,H,τ,G,I,.refl I.ab,h⟩
 ·exact h.elim
theorem cJ{t:y0}{u:Ca}(h1:KR X e t)(h2:Q3 X es u)
  (hs:autoParam ((yQ (e :: es) X.env).map (·.2)=Hn e X.env :: (yQ es X.env).map (·.2)) Ar._auto_1):Q3 X (e :: es) (dN t u):=by
 intro E pins s σ H τ G ws ds us Q hE I r rd h;unfold dN at h;split at h
 ·cases rd with
  | cons jd xc =>
   cases r with
   | cons r1 r2 =>
    rw [hs];refine assignInOrder_cons (gB (h1 E pins s σ H τ G _ _ _ _ hE I r1 jd h) ?_);rintro _ s1 ⟨Wl,H1,nH,G1,I1,m1,q1⟩;exact gB (h2 E pins s1 Wl H1 nH G1 _ _ _ Q hE I1 r2 (xc.mono (m1.kp I.ab)) q1) (by rintro _ _ ⟨Xd,H2,ux,G2,lX,m2,q2⟩; exact⟨Xd,H2,ux,G2,lX,m1.trans m2,q2⟩)
 ·exact h.elim
theorem iX{k:Nat}{t:Ca}{n:Nat}(hc:X.calm=true)(h:Q3 X es t)(hgl:∀ E ds τ G Q,t E ds τ G Q->ds.length=n)
  (hn:autoParam ((yQ es X.env).length=n) Ar._auto_1) (hst:autoParam ((yQ es X.env).findIdx? (·.1)=none) Ar._auto_1):KR X (.Tuple es k pos) (jV t):=by
 intro E pins s σ H τ G w d u Q hE I r rd hw;unfold jV at hw;split at hw
 ·cases rd with
  | tup hq rs =>
   cases r;obtain⟨bS,rv,ht,hz⟩:=I.inv.tuple (.of hq);refine assign_Tuple_tuple (I.inv.ok.hd hc) ht (by rw [hn,aW,<-rv.length,rs.length]; exact(hgl _ _ _ _ _ hw).symm) hst fun h' hx=>?_;have I1:Inv X pins σ H { s with heap:=h' }:=I.inv.kept (t':=s.toks) fun b o e=>hx b o (bK (aU e)) e;exact h E pins _ σ H τ G _ _ _ Q hE ⟨I1,I.st,I.ab⟩ (by simpa using rv) rs hw
 ·exact hw.elim
theorem gN:∀ E ds τ G Q,jG E ds τ G Q->ds.length=0:=by
 intro E ds τ G Q h;cases ds with
 | nil=>rfl
 | cons _ _=>exact h.elim
theorem Ku{t:y0}{u:Ca}{n:Nat}(h:∀ E ds τ G Q,u E ds τ G Q->ds.length=n)(hm:∀ E d τ G (Q Q':gZ->Gp->Prop),t E d τ G Q->(∀ oG G',Q oG G'->Q' oG G')->t E d τ G Q')(hx:∀ E d τ G,¬ t E d τ G fun _ _=>False) :
  ∀ E ds τ G Q,dN t u E ds τ G Q->ds.length=n+1:=by
 intro E ds τ G Q q;cases ds with
 | nil=>exact q.elim
 | cons d ds =>
  by_cases hl:ds.length=n
  ·rw [aj,hl]
  ·exact absurd (hm E d τ G _ (fun _ _=>False) q fun oG G' z=>hl (h _ _ _ _ _ z)) (hx E d τ G)
theorem gY{tg:Expr}{g:y0}(he:gy X e te)(hg:KR X tg g)(hs:autoParam (swapsWithSole [tg] e pos.line X.env=pure false) Ar._auto_1)(hw:autoParam (swappedStores [tg] e X.env=pure none) Ar._auto_1)
  (h1:autoParam ((yQ [tg] X.env).map (·.2)=[Hn tg X.env]) Ar._auto_1):Hf X (.Assign [tg] e pos) (bM te g):=by
 intro E pins s σ H τ G D hE I h;refine wpAny_Assign_stores (jh he hE I h fun x H1 d G1 v s1 I1 m1 r1 jd q1=>?_) hs hw;rw [h1];exact gB (hg E pins s1 σ H1 τ G1 x d v _ hE I1 r1 jd q1) (by rintro _ s2 ⟨Xd,H2,ux,G2,lX,m2,q2⟩; exact⟨Xd,H2,ux,G2,lX,m1.trans m2,q2⟩)
theorem PI{i:Nat}{x:Str}{pos':Pos}(hN:X.N.Nodup)(hi:X.N[i]?=some x)(hx:Loc X.env.scope x)(he:gy X e te)(hs:autoParam (Ls e (some (.Name x pos')) pos.line X.env=pure false) Ar._auto_1)(hf:autoParam (X.fn x=true\/X.env.scope.names.lookup x=some .local) Ao._auto_1) :
  Hf X (.Assign [.Name x pos'] e pos) (bM te (aO i)):=by
 intro E pins s σ H τ G D hE I h;refine wpAny_Assign_Name (jh he hE I h fun y H1 d G1 v s1 I1 m1 r1 jd q1=>?_) hs;exact CM I1.inv hN hi hx r1 (fun s2 lX=>⟨_,H1,_,G1,⟨lX,I1.st.set i jd,I1.ab⟩,m1,q1⟩) hf
theorem xr(he:gy X e te)(hs:autoParam (Ls e none pos.line X.env=pure false) Ar._auto_1):Hf X (.Expr e pos) (rj te):=by
 intro E pins s σ H τ G D hE I h;exact wpAny_Expr_any (jh he hE I h fun y H1 d G1 v s1 I1 m1 r1 jd q1=>⟨σ,H1,τ,G1,I1,m1,q1⟩) I.inv.quiet hs
end
end K2
end
section
namespace K2
open PySem PySem.Spec PyProof.Rows L2
noncomputable def RT(K:ai)(J:It)(H':Hp)(ds:List D)(ok:Gp->Prop):Prop :=
 ∀ i H1 G1,Kp H' H1->kZ K H1 G1->ok G1->(∀ d,ds[i]?=some d->J.go i H1/\∀ x H2,J.ZI i H1 x H2->ck K H2 x d/\Mv K H1 G1 H2 G1)/\(ds.length<=i->J.stop i H1)
inductive KQ (X:Cx) (pins:List (Addr×Obj)) (σ:L2.St) (tg:Expr) (H:Hp) (G:Gp) (R:List D->(Gp->Prop)->Gp->Prop) (Rz:Value) (s2:av):Prop
 | mk (it:Addr) (fp:List Addr) (tn:Nat->Heap->Prop) (J:It) (H':Hp) (G':Gp) (ds:List D) (ok:Gp->Prop) (e:Rz=.ref it) (i:Inv X pins σ H' s2) (m:Mv X.K H G H' G') (T:Turn X.prog X.w X.K tg J fp it tn) (t0:tn 0 s2.heap) (f:∀ b∈fp,mP X pins H' b)
  (wk:RT X.K J H' ds ok) (q:R ds ok G'):KQ X pins σ tg H G R Rz s2
noncomputable def Lo(X:Cx)(tg iter:Expr)(wi:Lm):Prop :=
 ∀ (E:kX) (pins:List (Addr×Obj)) (s:av) (σ:L2.St) (H:Hp) (τ:gZ) (G:Gp) (R:List D->(Gp->Prop)->Gp->Prop),Lk X E->I2 X pins σ H τ G s->wi E τ G R ->
  wpAny (model X.prog X.w) X.A (eval iter X.env) (fun v s1=>wpAny (model X.prog X.w) X.A (Lu v) (KQ X pins σ tg H G R) X.xe s1) X.xe s
section
variable {X:Cx} {tg:Expr} {a b:Expr} {ta tb:gb} {pos p:Pos}
theorem IA{pins:List (Addr×Obj)}{σ:L2.St}{H H1:Hp}{G G1:Gp}{s1:av}{l:Addr}{vs:List V}{ds:List D}{ok:Gp->Prop}{R:List D->(Gp->Prop)->Gp->Prop}(I1:Inv X pins σ H1 s1)(m:Mv X.K H G H1 G1)(hq:qc X.K H1 l vs)
  (hk:∀ H2 G2,Kp H1 H2->kZ X.K H2 G2->ok G2->∃ ws,qc X.K H2 l ws/\bh X.K H2 ws ds) (q:R ds ok G1):wpAny (model X.prog X.w) X.A (Lu (.ref l)) (KQ X pins σ tg H G R) X.xe s1:=by
 obtain⟨bS,rv,pl,hz⟩:=I1.list hq;refine wpAny_pyIter_list pl.isList ?_;refine⟨s1.heap.objs.size,[s1.heap.objs.size],_,_,H1,G1,ds,ok,rfl,I1.kept (t':=s1.toks) fun b o e=>aJ _ e,m,Jx l _,⟨_,bz _ rfl,rfl,rfl⟩,fun b hb=>?_,fun i H2 G2 k ab o=>?_,q⟩
 ·have e:b=s1.heap.objs.size:=by simpa using hb
  subst e;exact I1.BB (aE _) (I1.cD.fresh (aE _))
 ·obtain⟨ws,hw,rd⟩:=hk H2 G2 k ab o;refine⟨fun d hd=>?_,fun hl=>⟨ws,hw,by rw [rd.length]; exact hl⟩⟩;obtain⟨v,hv,r⟩:=rd.get hd;refine⟨⟨ws,v,hw,hv⟩,?_⟩;rintro x H3 ⟨e,y⟩;subst e;have:=y ws hw;rw [hv] at this;cases this;exact⟨r,.refl ab⟩
theorem Sa{pins:List (Addr×Obj)}{σ:L2.St}{H H1:Hp}{G G1:Gp}{s1:av}{l:Addr}{vs:List V}{ds:List D}{R:List D->(Gp->Prop)->Gp->Prop}(I1:Inv X pins σ H1 s1)(m:Mv X.K H G H1 G1)(hq:wo X.K H1 l vs)(rd:bh X.K H1 vs ds)
  (q:R ds (fun _=>True) G1):wpAny (model X.prog X.w) X.A (Lu (.ref l)) (KQ X pins σ tg H G R) X.xe s1:=by
 obtain⟨bS,rv,pl,hz⟩:=I1.tuple hq;refine wpAny_pyIter_tuple (show s1.heap.IsTuple l bS.toArray from pl) ?_;refine⟨s1.heap.objs.size,[s1.heap.objs.size],_,_,H1,G1,ds,_,rfl,I1.kept (t':=s1.toks) fun b o e=>aJ _ e,m,Fh l _,⟨_,bz _ rfl,rfl,rfl⟩,fun b hb=>?_,fun i H2 G2 k ab _=>?_,q⟩
 ·have e:b=s1.heap.objs.size:=by simpa using hb
  subst e;exact I1.BB (aE _) (I1.cD.fresh (aE _))
 ·have hw:=k.sqT hq;have xc:=rd.mono k;refine⟨fun d hd=>?_,fun hl=>⟨vs,hw,by rw [rd.length]; exact hl⟩⟩;obtain⟨v,hv,r⟩:=xc.get hd;refine⟨⟨vs,v,hw,hv⟩,?_⟩;rintro x H3 ⟨e,y⟩;subst e;have:=y vs hw;rw [hv] at this;cases this;exact⟨r,.refl ab⟩
theorem gm(ha:gy X a ta):Lo X tg a (ni ta):=by
 intro E pins s σ H τ G R hE I h;refine jh ha hE I h fun x H1 d G1 v s1 I1 m1 r1 jd q1=>?_;cases jd with
 | tup hq rs=>cases r1; exact Sa I1.inv m1 (.of hq) rs q1
 | dR hq rs=>cases r1; exact IA I1.inv m1 hq.sq (fun H2 G2 k ab _=>⟨_,(k.Ua hq).sq,rs.mono k⟩) q1
 | ref p =>
  cases r1;dsimp only at q1;split at q1
  ·rename_i ds e;obtain⟨vs,hv,rs⟩:=I1.ab.lst e;refine IA I1.inv m1 (.of hv) (fun H2 G2 k ab o=>?_) q1;obtain⟨ws,hw,qJ⟩:=ab.lst o;exact⟨ws,.of hw,qJ⟩
  ·exact q1.elim
 | oI _ _=>exact q1.elim
 | oH _ _=>exact q1.elim
 | eh=>exact q1.elim
 | bl _=>exact q1.elim
 | int _=>exact q1.elim
 | str _=>exact q1.elim
 | exc _=>exact q1.elim
 | EZ _ _=>exact q1.elim
 | ny _ _ _ _=>exact q1.elim
theorem Sz{pins:List (Addr×Obj)}{σ:L2.St}{H H1:Hp}{G G1:Gp}{s:av}{R:List D->(Gp->Prop)->Gp->Prop}{lo hi:Int}{t u v:Tok}{tk:Nat}(I:Inv X pins σ H1 s)(m:Mv X.K H G H1 G1)(h1:-(2 ^ 62)<=lo)(h2:lo < 2 ^ 62)(h3:-(2 ^ 62)<=hi)(h4:hi < 2 ^ 62)
  (q:R (gS lo (hi - lo).toNat) (fun _=>True) G1):wpAny (model X.prog X.w) X.A (Lu (.ref s.heap.objs.size)) (KQ X pins σ tg H G R) X.xe { s with heap:=s.heap.push { cls:=.type "range",data:=.fields #[.int lo t,.int hi u,.int 1 v] },toks:=tk }:=by
 refine gB (Mm (tg:=tg) I h1 h2 h3 h4 (R:=fun J H'=>J=ZE lo (hi - lo).toNat/\H'=H1) ⟨rfl,rfl⟩) ?_;rintro Rz s2 ⟨it,fp,tn,J,H',e,lX,T,st,fo,eJ,eH⟩;subst eJ; subst eH;refine⟨it,fp,tn,_,H',G1,_,_,e,lX,m,T,st,fo,fun i H2 G2 k ab _=>⟨fun d hd=>?_,fun hl=>?_⟩,q⟩
 ·unfold gS at hd;rw [bB] at hd;cases NF:(ij (hi - lo).toNat)[i]? with
  | none=>rw [NF] at hd; cases hd
  | some j =>
   rw [NF] at hd;obtain⟨x5,ej⟩:=List.getElem?_eq_some_iff.mp NF;rw [zI] at x5;rw [oF] at ej;subst ej;cases hd;refine⟨x5,?_⟩;rintro x H3 ⟨e1,e2⟩;subst e1; subst e2;exact⟨.int _,.refl ab⟩
 ·unfold gS at hl;rw [aB,zI] at hl;exact hl
theorem rD (hg:Gl X "range") (hm:X.mg "range" = none) (ha:gy X a ta) (hs:autoParam (cU [a] X.env=[(false,eval a X.env)]) Ar._auto_1):Lo X tg (.Call (.Name "range" p) [a] [] pos) (DR ta):=by
 intro E pins s σ H τ G R hE I h;have hA:KS X [a] (ay ta bq):=ah ha aL hs;refine Call_ (rJ I.inv hg hm boot_range (g7 (Fo hA pos hE I (R:=fun ds G1=>match ds with | [.int n]=>-(2 ^ 62)<=n/\n < 2 ^ 62/\R (gS 0 n.toNat) (fun _=>True) G1 | _=>False) ?_ fun vs H1 ds G1 us s1 I1 m1 r1 jd q1=>?_) hs rfl))
 ·show ta E τ G _;have e:(fun (x:D) (G1:Gp)=>match [x] with | [.int n]=>-(2 ^ 62)<=n/\n < 2 ^ 62/\R (gS 0 n.toNat) (fun _=>True) G1 | _=>False)=fun x G1=>match x with | .int n=>-(2 ^ 62)<=n/\n < 2 ^ 62/\R (gS 0 n.toNat) (fun _=>True) G1 | _=>False:=by
   funext x G1; cases x <;> rfl
  exact e ▸ h
 ·split at q1
  ·rename_i n;obtain⟨w,rfl,CV⟩:=jd.one;cases CV;obtain⟨u,rfl,ru⟩:=r1.one;obtain⟨t,rfl⟩:=ru;obtain⟨q1,q2,q⟩:=q1;exact call_range_1 (Sz I1.inv m1 (by lia) (by lia) q1 q2 (by simpa using q))
  ·exact q1.elim
theorem dH{iter:Expr}{body:List Stmt}{wi:Lm}{g:y0}{t:gW}(hp:PassesOwn (model X.prog X.w) X.A X.env X.xe)(hc:X.calm=true)(hi:Lo X tg iter wi)(hg:KR X tg g)(hb:yH X body t)
  (hs:autoParam (∀ x,mz iter X.env x=pure x) Ai._auto_1):Hf X (.For tg iter body [] pos) (eQ wi g t):=by
 intro E pins s σ H τ G D hE I h;refine wpAny_For (gB (hi E pins s σ H τ G _ hE I h) fun v s1 h1=>gB h1 fun Rz s2 h2=>?_) hs;obtain⟨it,fp,tn,J,H2,G2,ds,ok,e,lX,m2,T,OU,f2,wk,q⟩:=h2;subst e;have Sj:∀ {H':Hp},(∀ b∈fp,H' b=none)->∀ b∈fp,mP X pins H' b:=fun hn b hb=>⟨hn b hb,(f2 b hb).2⟩;refine codeAny_forLoop_any (fun n s'=>∃ i jb H' oG G',I2 X pins jb H' oG G' s'/\Mv X.K H G H' G'/\Kp H2 H'/\tn i s'.heap/\(∀ b∈fp,H' b=none)/\n=ds.length - i/\i<=ds.length/\oz g t ok (ds.drop i) E D oG G') ?_ ds.length
  ⟨0,σ,H2,τ,G2,I.mv lX m2,m2,.refl _,OU,fun b hb=>(f2 b hb).1,rfl,cE _,q⟩
 rintro n s3 ⟨i,O8,H3,R0,G3,I3,m3,k3,Wq,fr3,rfl,hle,w3⟩;by_cases x5:i < ds.length
 ·rw [gE x5] at w3;obtain⟨Uc,w3⟩:=w3;obtain⟨go,yl⟩:=(wk i H3 G3 k3 I3.ab Uc).1 ds[i] (by simp [x5]);refine jm hp (gB (T.item X rfl rfl rfl hc i pins s3 O8 H3 X.xe I3.inv (Sj fr3) Wq go) ?_);rintro r s4 ⟨u,hr,h4⟩;subst hr;refine jm hp (gB h4 ?_);rintro _ s5 ⟨x,H5,I5,r5,y5,Xl,fr5⟩;obtain⟨rd5,m5⟩:=yl x H5 y5;have I5':=I5.pinned (Sj fr5) (T.obj _ _ Xl);have J5:I2 X (pins++pI fp s5.heap) O8 H5 R0 G3 s5:=⟨I5',I3.st.mono (m5.kp I3.ab),m5.ab⟩;refine jm hp (gB (hg E _ s5 O8 H5 R0 G3 x ds[i] u _ hE J5 r5 rd5 w3) ?_);rintro _ s6 ⟨σ6,H6,τ6,G6,I6,m6,q6⟩;refine jm hp (gB (hb E _ s6 σ6 H6 τ6 G6 _ hE I6 q6) fun f s7 q7=>?_);have again:∀ {Lc:L2.St} {H7:Hp} {Lb:gZ} {G7:Gp},I2 X (pins++pI fp s5.heap) Lc H7 Lb G7 s7->Mv X.K H6 G6 H7 G7->oz g t ok (ds.drop (i+1)) E D Lb G7 ->
    ∃ m,m < ds.length - i/\∃ i jb H' oG G',I2 X pins jb H' oG G' s7/\Mv X.K H G H' G'/\Kp H2 H'/\tn i s7.heap/\(∀ b∈fp,H' b=none)/\m=ds.length - i/\i<=ds.length/\oz g t ok (ds.drop i) E D oG G':=fun {Lc H7 Lb G7} I7 m7 n7=>by
   have mm:=m5.trans (m6.trans m7);refine⟨ds.length - (i+1),by lia,i+1,Lc,H7,Lb,G7,⟨I7.inv.sE,I7.st,I7.ab⟩,m3.trans mm,k3.trans (mm.kp I3.ab),T.keep _ _ _ Xl fun b hb o e=>(I7.inv.pin (b,o) (c3 _ (c3 _ (nR hb e)))).1,fun b hb=>?_,rfl,x5,n7⟩;obtain⟨o,e,d⟩:=T.obj _ _ Xl b hb;exact(I7.inv.pin (b,o) (c3 _ (c3 _ (nR hb e)))).2.1
  cases f with
  | next=>obtain⟨Lc,H7,Lb,G7,I7,m7,n7⟩:=q7; exact again I7 m7 n7
  | cont=>obtain⟨Lc,H7,Lb,G7,I7,m7,n7⟩:=q7; exact again I7 m7 n7
  | brk=>obtain⟨Lc,H7,Lb,G7,I7,m7,q7⟩:=q7; exact⟨Lc,H7,Lb,G7,⟨I7.inv.sE,I7.st,I7.ab⟩,m3.trans (m5.trans (m6.trans m7)),q7⟩
  | ret v=>obtain⟨x7,Lc,H7,d7,G7,I7,m7,r7,rd7,q7⟩:=q7; exact⟨x7,Lc,H7,d7,G7,I7.sE,m3.trans (m5.trans (m6.trans m7)),r7,rd7,q7⟩
 ·have hn:ds.length<=i:=by lia
  rw [kL hn] at w3;obtain⟨Uc,qn⟩:=w3;have stop:=(wk i H3 G3 k3 I3.ab Uc).2 hn;refine jm hp (gB (T.done X rfl rfl rfl hc i pins s3 O8 H3 X.xe I3.inv (Sj fr3) Wq stop) ?_);rintro r s4 ⟨hr,I4⟩;subst hr;exact wz ⟨O8,H3,R0,G3,⟨I4,I3.st,I3.ab⟩,m3,qn⟩
theorem JR{c:Expr}{body:List Stmt}{tc:vJ}{t:gW}(hp:PassesOwn (model X.prog X.w) X.A X.env X.xe)(hc:Ln X c tc)(hb:yH X body t):Hf X (.While c body [] pos) (GR tc t):=by
 intro E pins s σ H τ G D hE I h;obtain⟨n0,w0⟩:=h;refine wpAny_While (codeAny_whileLoop (fun n s'=>∃ jb H' oG G',I2 X pins jb H' oG G' s'/\Mv X.K H G H' G'/\CF tc t n E D oG G') ?_ n0 ⟨σ,H,τ,G,I,.refl I.ab,w0⟩);rintro n s1 ⟨Wl,H1,nH,G1,I1,m1,w1⟩;cases n with
 | zero=>exact w1.elim
 | succ n =>
  refine jm hp (LU hc hE I1 w1 fun b H2 G2 s2 lX m2 q2=>?_);cases b with
  | true =>
   rw [if_pos rfl] at q2 ⊢;refine jm hp (gB (hb E pins s2 Wl H2 nH G2 _ hE lX q2) fun f s3 q3=>?_);cases f with
   | next=>obtain⟨O8,H3,R0,G3,I3,m3,n3⟩:=q3; exact⟨n,Cw _,O8,H3,R0,G3,I3,m1.trans (m2.trans m3),n3⟩
   | cont=>obtain⟨O8,H3,R0,G3,I3,m3,n3⟩:=q3; exact⟨n,Cw _,O8,H3,R0,G3,I3,m1.trans (m2.trans m3),n3⟩
   | brk=>exact q3.trans (m1.trans m2)
   | ret v=>exact q3.trans (m1.trans m2)
  | false =>
   rw [if_neg iK] at q2 ⊢;exact wz ⟨Wl,H2,nH,G2,lX,m1.trans m2,q2⟩
end
end K2
end
section
namespace K2
open PySem PySem.Spec PyProof.Rows L2
theorem A9(n d:Nat)(o:Option Int):HT.iW n d o=iW n d o:=by cases o <;> rfl
theorem bh.cut{K:ai}{H:Hp}{vs:List V}{ds:List D}(r:bh K H vs ds)(lo hi:Option Int):bh K H (Es vs lo hi) (K2.cut ds lo hi):=by
 unfold Es K2.cut;rw [A9,A9,r.length];exact(r.drop _).take _
theorem bh.u7{K:ai}{H:Hp}{vs:List V}{ds:List D}{i:Int}{d:D}(r:bh K H vs ds)(h:K2.u7 ds i=some d):∃ v,L2.u7 vs i=some v/\ck K H v d:=by
 unfold K2.u7 at h;cases e:K2.II ds.length i with
 | none=>rw [e] at h; cases h
 | some j =>
  rw [e] at h;obtain⟨v,h1,h2⟩:=r.get (show ds[j]?=some d from h);refine⟨v,?_,h2⟩;show (L2.II vs.length i).bind _=_;have e':L2.II vs.length i=some j:=by rw [r.length]; exact e
  rw [e'];exact h1
section
variable {X:Cx} {a b c e:Expr} {ta tb tc te:gb} {pos p2:Pos}
theorem lN{pins:List (Addr×Obj)}{s:av}{σ:L2.St}{H:Hp}{G:Gp}{x:V}{d:D}{v:Value}{zs:List D}(I:Inv X pins σ H s)(ab:kZ X.K H G)(rx:RelV x v)(rd:ck X.K H x d)(hi:pM d G=some zs) :
  ∃ l vs bS,v=.ref l/\Vals vs bS/\bh X.K H vs zs/\s.heap.IsList l bS.toArray/\vs.length<=a8:=by
 cases rd with
 | dR hq rs =>
  cases hi;cases rx;obtain⟨bS,rv,pl,hz⟩:=I.list hq.sq;exact⟨_,_,bS,rfl,rv,rs,pl.isList,hz⟩
 | ref l =>
  unfold pM at hi;dsimp only at hi;cases hg:G l with
  | none=>rw [hg] at hi; cases hi
  | some gg =>
   rw [hg] at hi;cases gg with
   | lst ds =>
    cases hi;cases rx;obtain⟨vs,hv,rs⟩:=ab.lst hg;obtain⟨bS,rv,pl,hz⟩:=I.list (.of hv);exact⟨_,_,bS,rfl,rv,rs,pl.isList,hz⟩
   | ins _ _=>cases hi
   | qP _=>cases hi
   | fZ _=>cases hi
 | _=>cases hi
theorem uJ{pins:List (Addr×Obj)}{s:av}{σ:L2.St}{H:Hp}(I:Inv X pins σ H s){m:Str->Option Value}(F0:Fr X.base X.env.locals s.heap m){h':Heap}(F:Fr X.base X.env.locals h' m)(N:News X.base X.env.locals h' (qC X.base s.heap X.env.locals)) :
  (∀ b o,b≠X.env.locals->s.heap.get? b=some o->h'.get? b=some o)/\∀ m',s.heap.Ns X.env.locals m'->h'.Ns X.env.locals m':=by
 refine⟨fun b o hb e=>?_,fun m' hm=>?_⟩
 ·cases q:X.base.get? b with
  | some u =>
   have:=I.bk b u q;rw [e] at this; cases this;exact F.keep b _ q
  | none=>exact(N (b,o) (vB hb q e)).1
 ·have e1:=hm.eq_nsMap;have e2:=F0.ns.eq_nsMap;rw [e1,<-e2]; exact F.ns
theorem la{P:bJ}{w:World}{H:Hp}{h:Heap}{a:Addr}:∀ {o:HO},fB P w H h a o->∃ ob,h.get? a=some ob:=by
 intro o x;cases o with
 | lst _=>obtain⟨_,_,_,_,e⟩:=x; exact⟨_,e⟩
 | tup _=>obtain⟨_,_,_,ob,e,_⟩:=x; exact⟨ob,e⟩
 | dK _=>obtain⟨_,_,_,_,ob,_,_,e,_⟩:=x; exact⟨ob,e⟩
 | dT _=>obtain⟨_,_,_,_,ob,_,_,e,_⟩:=x; exact⟨ob,e⟩
 | set _ _=>obtain⟨ob,_,_,_,e,_⟩:=x; exact⟨ob,e⟩
 | ins _ _ _=>obtain⟨_,_,_,e,_⟩:=x; exact⟨_,e⟩
 | own _=>exact x
 | xd _=>obtain⟨_,⟨ob,_,_,e,_⟩,_⟩:=x; exact⟨ob,e⟩
 | met _ _=>exact⟨_,x⟩
 | UR _ _=>obtain⟨_,_,_,e⟩:=x; exact⟨_,e⟩
 | jl _ _=>exact⟨_,x.1⟩
 | Ra _=>obtain⟨_,e,_⟩:=x; exact⟨_,e⟩
 | ext _=>exact x.2.1
theorem IY{P:bJ}{w:World}{H:Hp}{h:Heap}{a:Addr}(ok:oB P w H h)(e:h.get? a=none):H a=none:=by
 cases q:H a with
 | none=>rfl
 | some o =>
  obtain⟨ob,z⟩:=la (ok a o q);rw [e] at z; cases z
theorem Inv.Rv{pins:List (Addr×Obj)}{s:av}{σ:L2.St}{H:Hp}(I:Inv X pins σ H s){h':Heap}{t':Nat}{a:Addr}{o:HO}(k:∀ b o,b≠X.env.locals->s.heap.get? b=some o->h'.get? b=some o)(ns:∀ m',s.heap.Ns X.env.locals m'->h'.Ns X.env.locals m')
  (hp:s.heap.get? a=none) (new:fB X.prog X.w (upd H a o) h' a o):Inv X pins σ (upd H a o) { s with heap:=h',toks:=t' }:=by
 have hn:H a=none:=IY I.cD hp;have ne:∀ b u,H b=some u->b≠a:=fun b u e=>dD e hn;have nL:∀ b u,H b=some u->b≠X.env.locals:=fun b u e=>dD e I.free;have ht:∀ b u,s.heap.get? b=some u->b≠a:=fun b u e z=>by subst z; rw [hp] at e; cases e
 have thL:∃ o',h'.get? X.env.locals=some o':=by
  obtain⟨m,hm,_⟩:=I.loc;obtain⟨o',_,_,ho,_⟩:=ns m hm;exact⟨o',ho⟩
 refine I.step (g':=s.gens) (d':=s.drawn) (ch:=[]) (fun b hb=>absurd hb (by simp)) (fun b o hL _ _ e _=>k b o hL e) (fun b o hL _ _ e _=>⟨o.slots,k b o hL e⟩) (fun b o _ e n=>by rw [bL (ht b o e)]; exact n)
  (fun b o _ e=>?_) (fun b xs e=>by rw [bL (ne _ _ e)]; exact e) (fun b o u e=>by rw [bL (ne _ _ e)]; exact e) (fun b ps e=>by rw [bL (ne _ _ e)]; exact e) (fun b ps e=>by rw [bL (ne _ _ e)]; exact e) ns (fun b u e=>?_) I.bare
 ·by_cases hb:b=X.env.locals
  ·rw [hb]; exact thL
  ·exact⟨o,k b o hb e⟩
 ·by_cases hb:b=a
  ·subst hb; rw [bY] at e; cases e; exact new
  ·rw [bL hb] at e;refine(I.cD b u e).ly (fun c v hc r=>k c v ?_ r) (fun c z=>by rw [bL (ne _ _ z)]; exact z) (fun c xs z=>by rw [bL (ne _ _ z)]; exact z);rcases hc with rfl | hc
   ·exact nL _ _ e
   ·exact nL _ _ hc
theorem eU:oM X (iF .Add) jy:=by
 intro pins s σ H G x y dx dy v u Q I ab rx ry dX dY q;have lists:Hd dx dy G Q->wpAny (model X.prog X.w) X.A (iF .Add v u) (si X pins σ H G Q) X.xe s:=by
  intro q;unfold Hd at q;split at q
  ·rename_i xs ys e1 e2;obtain⟨hz,q⟩:=q;obtain⟨l,vs,bS,rfl,rv,rs,hl,_⟩:=lN I ab rx dX e1;obtain⟨b,ws,uM,rfl,Md,HS,hb,_⟩:=lN I ab ry dY e2;obtain⟨m,F0⟩:=I.fr;have hsz:bS.length+uM.length<=a8:=by rw [<-rv.length,<-Md.length,rs.length,HS.length,cS]; exact hz
   refine PyProof.Rows.add_lists F0 Du hl hb (fun h' F N=>?_) hsz;obtain⟨kk,ns⟩:=uJ I F0 F fun p hp=>N p (aK _ hp);have hp:H s.heap.objs.size=none:=I.cD.fresh (aE _);refine⟨.ref s.heap.objs.size,upd H s.heap.objs.size (.lst (vs++ws)),.ref _,_,Inv.Rv (t':=s.toks) I kk ns (O7 (aE _)) ?_,.FT ab hp (rs.append HS),rfl,.ref _,q _ (ab.free hp)⟩;exact⟨by rw [aG,rv.length,Md.length]; exact hsz,bS++uM,0,rv.append Md,(N _ cc).1⟩
  ·exact q.elim
 cases dX with
 | int i =>
  cases dY with
  | int j=>exact gB (SX pins s σ H _ _ v u (AU X.K H G Q) I rx ry ⟨i,j,rfl,rfl,_,_,.refl ab,.int _,q⟩) fun _ _ z=>.of z
  | _=>exact lists q
 | str i =>
  cases dY with
  | str j =>
   obtain⟨hz,q⟩:=q;exact gB (FK pins s σ H _ _ v u (AU X.K H G Q) I rx ry ⟨i,j,rfl,rfl,by rw [cS]; exact hz,_,_,.refl ab,.str _,q⟩) fun _ _ z=>.of z
  | _=>exact lists q
 | tup h1 r1 =>
  cases dY with
  | tup h2 r2 =>
   obtain⟨hn,hz,q⟩:=q;refine gB (P2 pins s σ H _ _ v u (AU X.K H G Q) I rx ry ⟨_,_,_,_,rfl,rfl,.of h1,.of h2,?_,?_,fun e=>?_,fun e p hp=>?_⟩) fun _ _ z=>.of z
   ·rintro rfl; cases r1; exact hn rfl
   ·rw [r1.length,r2.length,cS]; exact hz
   ·subst e;cases r2;rw [cN] at q;exact⟨_,_,.refl ab,.tup h1 r1,q⟩
   ·exact⟨_,_,.Li ab hp,.tup bY ((r1.append r2).mono (.new hp)),q⟩
  | _=>exact lists q
 | ref l=>exact lists (by rw [xj] at q; exact q)
 | dR _ _=>exact lists (by rw [xi] at q; exact q)
 | _=>exact lists (by cases dY <;> exact q)
theorem v8:oM X (iF .Sub) JO:=by
 intro pins s σ H G x y dx dy v u Q I ab rx ry dX dY q;cases dX with
 | int i =>
  cases dY with
  | int j=>exact gB (SS pins s σ H _ _ v u (AU X.K H G Q) I rx ry ⟨i,j,rfl,rfl,_,_,.refl ab,.int _,q⟩) fun _ _ z=>.of z
  | _=>exact bO q
 | _=>exact bO q
theorem kQ:oM X (iF .Mult) xf:=by
 intro pins s σ H G x y dx dy v u Q I ab rx ry dX dY q;cases dX with
 | int i =>
  cases dY with
  | int j=>exact gB (SU pins s σ H _ _ v u (AU X.K H G Q) I rx ry ⟨i,j,rfl,rfl,q.1,_,_,.refl ab,.int _,q.2⟩) fun _ _ z=>.of z
  | _=>exact bO q
 | _=>exact bO q
theorem iZ:oM X (iF .Mod) qK:=by
 intro pins s σ H G x y dx dy v u Q I ab rx ry dX dY q;cases dX with
 | int i =>
  cases dY with
  | int j=>exact gB (SV pins s σ H _ _ v u (AU X.K H G Q) I rx ry ⟨i,j,rfl,rfl,q.1,_,_,.refl ab,.int _,q.2⟩) fun _ _ z=>.of z
  | _=>exact bO q
 | _=>exact bO q
theorem Dj:oM X (iF .FloorDiv) HZ:=by
 intro pins s σ H G x y dx dy v u Q I ab rx ry dX dY q;cases dX with
 | int i =>
  cases dY with
  | int j=>exact gB (PZ pins s σ H _ _ v u (AU X.K H G Q) I rx ry ⟨i,j,rfl,rfl,⟨q.1,q.2.1⟩,_,_,.refl ab,.int _,q.2.2⟩) fun _ _ z=>.of z
  | _=>exact bO q
 | _=>exact bO q
theorem MH(hu:X.A.units < cLine):oM X (eY .Lt) Ws:=by
 intro pins s σ H G x y dx dy v u Q I ab rx ry dX dY q;cases dX with
 | int i =>
  cases dY with
  | int j=>exact gB (U1 pins s σ H _ _ v u (AU X.K H G Q) I rx ry ⟨i,j,rfl,rfl,_,_,.refl ab,.bl _,q⟩) fun _ _ z=>.of z
  | _=>exact bO q
 | tup h1 r1 =>
  cases dY with
  | tup h2 r2 =>
   obtain⟨xs,ys,e1,e2,q⟩:=q;subst e1 e2;have z1:=r1.ints;have z2:=r2.ints;subst z1 z2;have el:∀ xs ys:List Int,HT.lexLt xs ys=K2.lexLt xs ys:=by
    intro xs;induction xs with
    | nil=>intro ys; cases ys <;> rfl
    | cons x xs ih=>intro ys; cases ys with
     | nil=>rfl
     | cons y ys=>unfold HT.lexLt K2.lexLt; rw [ih]
   exact gB (SW hu pins s σ H _ _ v u (AU X.K H G Q) I rx ry ⟨_,_,xs,ys,rfl,rfl,.of h1,.of h2,_,_,.refl ab,.bl _,by rw [el]; exact q⟩) fun _ _ z=>.of z
  | _=>exact bO q
 | _=>exact bO q
mutual
noncomputable def pd:D->PyData
 | .eh=>.none
 | .bl b=>.bool b
 | .int i=>.int i
 | .str x=>.str x
 | .tup ds=>.tuple (lW ds)
 | .dR ds=>.list (lW ds)
 | .ji _=>.none
 | .exc _=>.none
 | .EZ _ _ _=>.none
 | .ny _=>.none
 | .ref _=>.none
noncomputable def lW:List D->List PyData
 | []=>[]
 | d :: r=>pd d :: lW r
end
mutual
theorem uU:∀ (s t:D),nr s=true->nr t=true->yS (pd s) (pd t)=ig s t
 | .eh,t,_,ht=>by cases t <;> first | rfl | (exact bA (show false=true from ht))
 | .bl a,t,_,ht=>by cases t <;> first | rfl | (exact bA (show false=true from ht))
 | .int a,t,_,ht=>by cases t <;> first | rfl | (exact bA (show false=true from ht))
 | .str a,t,_,ht=>by cases t <;> first | rfl | (exact bA (show false=true from ht))
 | .tup a,t,hs,ht=>by
  cases t with
  | tup b=>exact BL a b hs ht
  | ref _=>exact bA (show false=true from ht)
  | exc _=>exact bA (show false=true from ht)
  | EZ _ _ _=>exact bA (show false=true from ht)
  | ny _=>exact bA (show false=true from ht)
  | ji _=>exact bA (show false=true from ht)
  | _=>rfl
 | .dR a,t,hs,ht=>by
  cases t with
  | dR b=>exact BL a b hs ht
  | ref _=>exact bA (show false=true from ht)
  | exc _=>exact bA (show false=true from ht)
  | EZ _ _ _=>exact bA (show false=true from ht)
  | ny _=>exact bA (show false=true from ht)
  | ji _=>exact bA (show false=true from ht)
  | _=>rfl
 | .ref _,_,hs,_=>bA (show false=true from hs)
 | .exc _,_,hs,_=>bA (show false=true from hs)
 | .EZ _ _ _,_,hs,_=>bA (show false=true from hs)
 | .ny _,_,hs,_=>bA (show false=true from hs)
 | .ji _,_,hs,_=>bA (show false=true from hs)
theorem BL:∀ (s t:List D),pK s=true->pK t=true->PyData.eqvAll (lW s) (lW t)=kg s t
 | [],[],_,_=>rfl
 | [],_ :: _,_,_=>rfl
 | _ :: _,[],_,_=>rfl
 | a :: r,b :: t,hs,ht=>by
  have RD:nr a=true/\pK r=true:=(mF).mp hs;have ht':nr b=true/\pK t=true:=(mF).mp ht;show (yS (pd a) (pd b)&&PyData.eqvAll (lW r) (lW t))=(ig a b&&kg r t);rw [uU a b RD.1 ht'.1,BL r t RD.2 ht'.2]
end
mutual
theorem jS:∀ (s:D),nr s=true->(pd s).canLay0=true
 | .eh,_=>rfl
 | .bl a,_=>rfl
 | .int a,_=>rfl
 | .str a,h=>h
 | .tup a,h=>wd a h
 | .dR a,h=>wd a h
 | .exc _,_=>rfl
 | .EZ _ _ _,_=>rfl
 | .ny _,_=>rfl
 | .ref _,_=>rfl
 | .ji _,_=>rfl
theorem wd:∀ (s:List D),pK s=true->PyData.canLayAll0 (lW s)=true
 | [],_=>rfl
 | a :: r,h=>by
  have h':nr a=true/\pK r=true:=(mF).mp h;show ((pd a).canLay0&&PyData.canLayAll0 (lW r))=true;rw [jS a h'.1,wd r h'.2]; rfl
end
theorem BS{G:Gp}{n:Nat}{d t:D}(h:Sn G n d t):(pd t).depth<=n:=by
 induction h with
 | eh=>exact cE _
 | bl b=>exact cE _
 | int i=>exact cE _
 | str x h=>exact cE _
 | Fm=>exact sr (cE _)
 | pb _ _ Nu Nt =>
  exact sr (Nat.max_le.mpr ⟨Nu,sC Nt⟩)
 | JM=>exact sr (cE _)
 | zU _ _ Nu Nt =>
  exact sr (Nat.max_le.mpr ⟨Nu,sC Nt⟩)
 | ref _ _ ih=>exact ih
theorem jP{pins:List (Addr×Obj)}{σ:L2.St}{H:Hp}{s:av}{G:Gp}(I:Inv X pins σ H s)(ab:kZ X.K H G){n:Nat}{d t:D}(h:Sn G n d t) :
  (∀ v u,ck X.K H v d->RelV v u->∃ as,Reads s.heap u (pd t) as) /\
  (∀ ds ss,(d=.dR ds/\t=.dR ss)\/(d=.tup ds/\t=.tup ss)->∀ vs us,bh X.K H vs ds->Vals vs us->∃ as,gL s.heap us (lW ss) as):=by
 have Q8:∀ {ds ss:List D},(∀ vs us,bh X.K H vs ds->Vals vs us->∃ as,gL s.heap us (lW ss) as)->∀ v u,ck X.K H v (.tup ds)->RelV v u->∃ as,Reads s.heap u (pd (.tup ss)) as:=by
  intro ds ss k v u r ru;cases r with
  | tup hq rs =>
   cases ru;obtain⟨bS,rv,⟨o,ho,hc,n,hd⟩,hz⟩:=I.tuple (.of hq);obtain⟨as,ra⟩:=k _ bS rs rv;exact⟨as,.tuple ho hc hd (by simpa using ra)⟩
 have Rg:∀ {ds ss:List D},(∀ vs us,bh X.K H vs ds->Vals vs us->∃ as,gL s.heap us (lW ss) as)->∀ v u,ck X.K H v (.dR ds)->RelV v u->∃ as,Reads s.heap u (pd (.dR ss)) as:=by
  intro ds ss k v u r ru;cases r with
  | dR hq rs =>
   cases ru;obtain⟨bS,rv,pl,hz⟩:=I.list hq.sq;obtain⟨o,ho,hc,n,hd⟩:=pl.isList;obtain⟨as,ra⟩:=k _ bS rs rv;exact⟨_,.list ho hc hd (by simpa using ra)⟩
 induction h with
 | eh=>exact⟨fun v u r ru=>by cases r; cases ru; exact⟨_,.none⟩,fun ds ss e=>by rcases e with ⟨e,_⟩ | ⟨e,_⟩ <;> cases e⟩
 | bl b=>exact⟨fun v u r ru=>by cases r; cases ru; exact⟨_,.bool b⟩,fun ds ss e=>by rcases e with ⟨e,_⟩ | ⟨e,_⟩ <;> cases e⟩
 | int i=>exact⟨fun v u r ru=>by cases r; obtain⟨t,rfl⟩:=ru; exact⟨_,.int i t⟩,fun ds ss e=>by rcases e with ⟨e,_⟩ | ⟨e,_⟩ <;> cases e⟩
 | str x hx=>exact⟨fun v u r ru=>by cases r; obtain⟨t,rfl⟩:=ru; exact⟨_,.str x t⟩,fun ds ss e=>by rcases e with ⟨e,_⟩ | ⟨e,_⟩ <;> cases e⟩
 | Fm =>
  have k:∀ vs us,bh X.K H vs []->Vals vs us->∃ as,gL s.heap us (lW []) as:=fun vs us r ru=>by
   have e:=r.zero;subst e;cases ru;exact⟨_,.nil⟩
  refine⟨Q8 k,fun ds ss e=>?_⟩;rcases e with ⟨e,_⟩ | ⟨e,e2⟩
  ·cases e
  ·cases e; cases e2; exact k
 | pb h1 h2 Nu Nt =>
  have k2:=Nt.2 _ _ (.inr ⟨rfl,rfl⟩);have k:∀ vs us,bh X.K H vs (_ :: _)->Vals vs us->∃ as,gL s.heap us (lW (_ :: _)) as:=fun vs us r ru=>by
   cases r with
   | cons r1 r2 =>
    cases ru with
    | cons u1 u2 =>
     obtain⟨as,ra⟩:=Nu.1 _ _ r1 u1;obtain⟨bs,rb⟩:=k2 _ _ r2 u2;exact⟨_,.cons ra rb⟩
  refine⟨Q8 k,fun ds ss e=>?_⟩;rcases e with ⟨e,_⟩ | ⟨e,e2⟩
  ·cases e
  ·cases e; cases e2; exact k
 | JM =>
  have k:∀ vs us,bh X.K H vs []->Vals vs us->∃ as,gL s.heap us (lW []) as:=fun vs us r ru=>by
   have e:=r.zero;subst e;cases ru;exact⟨_,.nil⟩
  refine⟨Rg k,fun ds ss e=>?_⟩;rcases e with ⟨e,e2⟩ | ⟨e,_⟩
  ·cases e; cases e2; exact k
  ·cases e
 | zU h1 h2 Nu Nt =>
  have k2:=Nt.2 _ _ (.inl ⟨rfl,rfl⟩);have k:∀ vs us,bh X.K H vs (_ :: _)->Vals vs us->∃ as,gL s.heap us (lW (_ :: _)) as:=fun vs us r ru=>by
   cases r with
   | cons r1 r2 =>
    cases ru with
    | cons u1 u2 =>
     obtain⟨as,ra⟩:=Nu.1 _ _ r1 u1;obtain⟨bs,rb⟩:=k2 _ _ r2 u2;exact⟨_,.cons ra rb⟩
  refine⟨Rg k,fun ds ss e=>?_⟩;rcases e with ⟨e,e2⟩ | ⟨e,_⟩
  ·cases e; cases e2; exact k
  ·cases e
 | ref hg h1 ih =>
  refine⟨fun v u r ru=>?_,fun ds ss e=>by rcases e with ⟨e,_⟩ | ⟨e,_⟩ <;> cases e⟩;cases r;cases ru;obtain⟨vs,hv,rs⟩:=ab.lst hg;obtain⟨bS,rv,pl,hz⟩:=I.list (.of hv);obtain⟨o,ho,hc,n,hd⟩:=pl.isList;obtain⟨as,ra⟩:=ih.2 _ _ (.inl ⟨rfl,rfl⟩) vs bS rs rv;exact⟨_,.list ho hc hd (by simpa using ra)⟩
theorem mI(hu:X.A.units+64 < cLine):oM X (eY .Eq) (H0 false):=by
 intro pins s σ H G x y dx dy v u Q I ab rx ry dX dY q;obtain⟨a,b,sa,sb,q⟩:=q;obtain⟨as,ra⟩:=(jP I ab sa).1 x v dX rx;obtain⟨bs,rb⟩:=(jP I ab sb).1 y u dY ry;have d1:=BS sa;refine SeqAt.compareEq_reads ra rb (jS _ sa.nr) (jS _ sb.nr) (by unfold SN at d1; lia) ?_;rw [uU _ _ sa.nr sb.nr];exact⟨.bl _,H,.bl _,G,I,.refl ab,rfl,.bl _,q⟩
theorem FL(hu:X.A.units+64 < cLine):oM X (eY .NotEq) (H0 true):=by
 intro pins s σ H G x y dx dy v u Q I ab rx ry dX dY q;obtain⟨a,b,sa,sb,q⟩:=q;obtain⟨as,ra⟩:=(jP I ab sa).1 x v dX rx;obtain⟨bs,rb⟩:=(jP I ab sb).1 y u dY ry;have d1:=BS sa;refine SeqAt.compareNe_reads ra rb (jS _ sa.nr) (jS _ sb.nr) (by unfold SN at d1; lia) ?_;rw [uU _ _ sa.nr sb.nr];exact⟨.bl _,H,.bl _,G,I,.refl ab,rfl,.bl _,q⟩
end
end K2
end
section
namespace K2
open PySem PySem.Spec PyProof.Rows L2
theorem tP(j k:Key):ig (dM j) (dM k)=decide (j=k):=by
 cases j with
 | inl a=>cases k with
  | inl b=>rw [M6]; rfl
  | inr b=>exact(decide_eq_false (fun z=>nomatch z)).symm
 | inr a=>cases k with
  | inl b=>exact(decide_eq_false (fun z=>nomatch z)).symm
  | inr b=>rw [M5]; exact(OR a b)
theorem AD:∀ (js ks:List Key),kg (js.map dM) (ks.map dM)=decide (js=ks)
 | [],[]=>(decide_eq_true rfl).symm
 | [],_ :: _=>(decide_eq_false (fun z=>nomatch z)).symm
 | _ :: _,[]=>(decide_eq_false (fun z=>nomatch z)).symm
 | j :: js,k :: ks=>by
  show (ig (dM j) (dM k)&&kg (js.map dM) (ks.map dM))=_;rw [tP,AD js ks,Eg]
theorem pT(js ks:List Key):ig (.tup (js.map dM)) (.tup (ks.map dM))=decide (js=ks):=by
 exact AD js ks
section
variable {K:ai} {H:Hp}
theorem tG{d:D}(h:ef d=true):∃ k:Key,d=dM k:=by
 cases d with
 | int i=>exact⟨.inl i,rfl⟩
 | str x=>exact⟨.inr x,rfl⟩
 | _=>exact absurd h (by simp [ef])
theorem IB:∀ {ds:List D},ds.all ef=true->∃ ks:List Key,ds=ks.map dM
 | [],_=>⟨[],rfl⟩
 | d :: r,h=>by
  rw [yW,aI] at h;obtain⟨k,rfl⟩:=tG h.1;obtain⟨ks,rfl⟩:=IB h.2;exact⟨k :: ks,rfl⟩
theorem IC{d:D}(h:jU d=true):∃ ks:List Key,d=.tup (ks.map dM):=by
 cases d with
 | tup ds=>obtain⟨ks,rfl⟩:=IB (ds:=ds) h; exact⟨ks,rfl⟩
 | _=>exact absurd h (by simp [jU])
theorem sQ{v:V}{k:Key}(r:ck K H v (dM k)):v=kV k:=by
 cases k with
 | inl i=>cases r; rfl
 | inr x=>cases r; rfl
theorem CY:∀ {vs:List V} {ks:List Key},bh K H vs (ks.map dM)->vs=ks.map kV
 | _,[],r=>r.zero
 | _,k :: ks,r=>by
  rw [ak] at r;cases r with
  | cons r1 r2=>rw [sQ r1,CY r2]; rfl
theorem CZ{v:V}{ks:List Key}(r:ck K H v (.tup (ks.map dM))):∃ b,v=.ref b/\H b=some (.tup (ks.map kV)):=by
 cases r with
 | tup h rs=>have e:=CY rs; subst e; exact⟨_,rfl,h⟩
theorem lh.look{kv:List (Key×V)}{kvs:List (D×D)}(r:lh K H kv kvs)(k:Key):(∃ v d,kM kv k=some v/\K2.look kvs (dM k)=some d/\ck K H v d)\/(kM kv k=none/\K2.look kvs (dM k)=none):=by
 induction r using lh.ind with
 | nil=>exact .inr ⟨rfl,rfl⟩
 | @cons j v d r t rd rs ih =>
  by_cases e:j=k
  ·left;refine⟨v,d,o6 (p:=(j,v)) e,?_,rd⟩;unfold K2.look;rw [cx (by show ig (dM j) (dM k)=true; rw [tP]; exact decide_eq_true e)]; rfl
  ·have e1:kM ((j,v) :: r) k=kM r k:=o7 (p:=(j,v)) e;have e2:K2.look ((dM j,d) :: t) (dM k)=K2.look t (dM k):=by
    unfold K2.look;rw [cy (by show ¬ ig (dM j) (dM k)=true; rw [tP]; simpa using e)]
   rw [e1,e2];exact ih
theorem kY.look{kv:List (List Key×V)}{kvs:List (D×D)}(r:kY K H kv kvs)(k:List Key):(∃ v d,kM kv k=some v/\K2.look kvs (.tup (k.map dM))=some d/\ck K H v d)\/(kM kv k=none/\K2.look kvs (.tup (k.map dM))=none):=by
 induction r using kY.ind with
 | nil=>exact .inr ⟨rfl,rfl⟩
 | @cons j v d r t rd rs ih =>
  by_cases e:j=k
  ·left;refine⟨v,d,o6 (p:=(j,v)) e,?_,rd⟩;unfold K2.look;rw [cx (by show ig (.tup (j.map dM)) (.tup (k.map dM))=true; rw [pT]; exact decide_eq_true e)]; rfl
  ·have e1:kM ((j,v) :: r) k=kM r k:=o7 (p:=(j,v)) e;have e2:K2.look ((.tup (j.map dM),d) :: t) (.tup (k.map dM))=K2.look t (.tup (k.map dM)):=by
    unfold K2.look;rw [cy (by show ¬ ig (.tup (j.map dM)) (.tup (k.map dM))=true; rw [pT]; simpa using e)]
   rw [e1,e2];exact ih
theorem lh.any{kv:List (Key×V)}{kvs:List (D×D)}(r:lh K H kv kvs)(k:Key):(kv.any fun p=>decide (p.1=k))=kvs.any fun p=>ig p.1 (dM k):=by
 induction r using lh.ind with
 | nil=>rfl
 | @cons j v d r t rd rs ih=>simp only [ku]; rw [ih,tP]
theorem kY.any{kv:List (List Key×V)}{kvs:List (D×D)}(r:kY K H kv kvs)(k:List Key):(kv.any fun p=>decide (p.1=k))=kvs.any fun p=>ig p.1 (.tup (k.map dM)):=by
 induction r using kY.ind with
 | nil=>rfl
 | @cons j v d r t rd rs ih=>simp only [ku]; rw [ih,pT]
theorem lh.put{kv:List (Key×V)}{kvs:List (D×D)}(r:lh K H kv kvs)(k:Key){v:V}{d:D}(rd:ck K H v d):lh K H (putK kv k v) (K2.put kvs (dM k) d):=by
 unfold putK K2.put;rw [r.any k];by_cases h:(kvs.any fun p=>ig p.1 (dM k))=true
 ·rw [if_pos h,if_pos h];clear h;induction r using lh.ind with
  | nil=>exact .nil
  | @cons j w e r t re rs ih =>
   simp only [ak];rw [tP];by_cases e:j=k
   ·simp only [e,if_true,decide_true]; exact .cons rd ih
   ·simp only [e,if_false,decide_false,ar]; exact .cons re ih
 ·rw [if_neg h,if_neg h];clear h;induction r using lh.ind with
  | nil=>exact .cons rd .nil
  | cons re rs ih=>exact .cons re ih
theorem kY.put{kv:List (List Key×V)}{kvs:List (D×D)}(r:kY K H kv kvs)(k:List Key){v:V}{d:D}(rd:ck K H v d):kY K H (putK kv k v) (K2.put kvs (.tup (k.map dM)) d):=by
 unfold putK K2.put;rw [r.any k];by_cases h:(kvs.any fun p=>ig p.1 (.tup (k.map dM)))=true
 ·rw [if_pos h,if_pos h];clear h;induction r using kY.ind with
  | nil=>exact .nil
  | @cons j w e r t re rs ih =>
   simp only [ak];rw [pT];by_cases e:j=k
   ·simp only [e,if_true,decide_true]; exact .cons rd ih
   ·simp only [e,if_false,decide_false,ar]; exact .cons re ih
 ·rw [if_neg h,if_neg h];clear h;induction r using kY.ind with
  | nil=>exact .cons rd .nil
  | cons re rs ih=>exact .cons re ih
end
theorem Kp.putD{H:Hp}{p:Addr}{o o':HO}(hp:H p=some o)(h:(∃ k,o=.dK k)\/∃ k,o=.dT k):Kp H (upd H p o') :=
 ⟨fun a ys e=>by rw [bL (by rintro rfl; rw [hp] at e; rcases h with ⟨_,rfl⟩ | ⟨_,rfl⟩ <;> cases e)]; exact e,fun a ob u e=>by rw [bL (by rintro rfl; rw [hp] at e; rcases h with ⟨_,rfl⟩ | ⟨_,rfl⟩ <;> cases e)]; exact e⟩
section
variable {X:Cx} {pins:List (Addr×Obj)} {σ:L2.St} {H:Hp} {s:av} {G:Gp} {a:Addr} {kvs:List (D×D)} {k:D} {y:V}
theorem toT(I:Inv X pins σ H s)(e:H a=some (.dK [])):Inv X pins σ (upd H a (.dT [])) s:=by
 obtain⟨z,hd,vs,rel,dd⟩:=AG I.cD e;have hv:vs=[]:=by cases rel; rfl
 subst hv;obtain⟨o,es,ep,ho,hx,yY,hko,hl,nd⟩:=dd;have he:es=#[]:=by
  cases hq:es.toList with
  | nil=>simpa using hq
  | cons _ _=>rw [hq] at hl; cases hl
 subst he;exact I.write (h':=s.heap) (t':=s.toks) (x:=a) (e:=a) (by rw [e]; exact fI) (.inl rfl) (fun b u _ q=>q) ⟨o,ho⟩ ⟨cE _,hd,[],.nil,o,#[],ep,ho,hx,yY,rfl,cF⟩
theorem toK(I:Inv X pins σ H s)(e:H a=some (.dT [])):Inv X pins σ (upd H a (.dK [])) s:=by
 obtain⟨z,hd,xs,rel,o,es,ep,ho,hx,yY,hl,nd⟩:=I.cD a _ e;have hv:xs=[]:=by cases rel; rfl
 subst hv;have he:es=#[]:=by simpa using hl
 subst he;exact I.write (h':=s.heap) (t':=s.toks) (x:=a) (e:=a) (by rw [e]; exact fI) (.inl rfl) (fun b u _ q=>q) ⟨o,ho⟩ ⟨cE _,hd,[],.nil,o,#[],ep,ho,hx,yY,(fun _ h=>by simp at h),.nil,cF⟩
theorem Iy{o:HO}(ab:kZ X.K H G)(hg:G a=some (.fZ kvs))(k:Kp H (upd H a o))(ho:Jr X.K (upd H a o) a (.fZ kvs)):Mv X.K H G (upd H a o) G:=by
 have m:=Mv.put ab hg k ho;have e:eL G a (.fZ kvs)=G:=by
  funext b; unfold eL; split
  ·rename_i z; rw [z,hg]
  ·rfl
 rw [e] at m;exact m
theorem BR(I:Inv X pins σ H s)(ab:kZ X.K H G)(hg:G a=some (.fZ kvs))(hk:gG kvs k=true)(ry:ck X.K H y k) :
  ∃ H',Inv X pins σ H' s/\Mv X.K H G H' G/\((∃ (kv:List (Key×V)) (kk:Key),H' a=some (.dK kv)/\lh X.K H' kv kvs/\k=dM kk/\y=kV kk)\/∃ (kv:List (List Key×V)) (kk:List Key) (b:Addr),H' a=some (.dT kv)/\kY X.K H' kv kvs/\k=.tup (kk.map dM)/\y=.ref b/\H' b=some (.tup (kk.map kV))):=by
 unfold gG at hk;rw [nv,aI,aI] at hk;rcases hk with ⟨h1,h2⟩ | ⟨h1,h2⟩
 ·obtain⟨kk,rfl⟩:=tG h1;have ey:=sQ ry;subst ey;rcases ab a _ hg with ⟨kv,hv,rs⟩ | ⟨kv,hv,rs⟩
  ·exact⟨H,I,.refl ab,.inl ⟨kv,kk,hv,rs,rfl,rfl⟩⟩
  ·cases rs with
   | nil =>
    refine⟨_,toK I hv,Iy ab hg (.putD hv (.inr ⟨_,rfl⟩)) (.inl ⟨[],bY,.nil⟩),.inl ⟨[],kk,bY,.nil,rfl,rfl⟩⟩
   | cons _ _=>simp [ef] at h2
 ·obtain⟨kk,rfl⟩:=IC h1;obtain⟨b,rfl,hb⟩:=CZ ry;rcases ab a _ hg with ⟨kv,hv,rs⟩ | ⟨kv,hv,rs⟩
  ·cases rs with
   | nil =>
    have kp:Kp H (upd H a (.dT [])):=.putD hv (.inl ⟨_,rfl⟩);exact⟨_,toT I hv,Iy ab hg kp (.inr ⟨[],bY,.nil⟩),.inr ⟨[],kk,b,bY,.nil,rfl,rfl,kp.tup _ _ hb⟩⟩
   | @cons j _ _ _ _ _ _=>cases j <;> simp [dM,jU] at h2
  ·exact⟨H,I,.refl ab,.inr ⟨kv,kk,b,hv,rs,rfl,rfl,hb⟩⟩
theorem Ef(I:Inv X pins σ H s)(ab:kZ X.K H G)(hg:G a=some (.fZ kvs))(hk:gG kvs k=true)(ry:ck X.K H y k) :
  ∃ H' o,Inv X pins σ H' s/\Mv X.K H G H' G/\yO H' a y o/\o.isSome=(look kvs k).isSome/\∀ d,look kvs k=some d->∃ v,o=some v/\ck X.K H' v d:=by
 obtain⟨H',I',m,h⟩:=BR I ab hg hk ry;rcases h with ⟨kv,kk,hv,rs,rfl,rfl⟩ | ⟨kv,kk,b,hv,rs,rfl,rfl,hb⟩
 ·refine⟨H',kM kv kk,I',m,.k hv,?_,fun d hd=>?_⟩
  ·rcases rs.look kk with ⟨v,d,e1,e2,_⟩ | ⟨e1,e2⟩ <;> rw [e1,e2] <;> rfl
  ·rcases rs.look kk with ⟨v,d',e1,e2,r⟩ | ⟨e1,e2⟩
   ·rw [e2] at hd; cases hd; exact⟨v,e1,r⟩
   ·rw [e2] at hd; cases hd
 ·refine⟨H',kM kv kk,I',m,.t hv hb,?_,fun d hd=>?_⟩
  ·rcases rs.look kk with ⟨v,d,e1,e2,_⟩ | ⟨e1,e2⟩ <;> rw [e1,e2] <;> rfl
  ·rcases rs.look kk with ⟨v,d',e1,e2,r⟩ | ⟨e1,e2⟩
   ·rw [e2] at hd; cases hd; exact⟨v,e1,r⟩
   ·rw [e2] at hd; cases hd
theorem Ba{x:V}(I:Inv X pins σ H s)(rd:ck X.K H x (.ji kvs))(hk:gG kvs k=true)(ry:ck X.K H y k) :
  ∃ a o,x=.ref a/\(kvs=[]\/yO H a y o)/\o.isSome=(look kvs k).isSome/\∀ d,look kvs k=some d->∃ v,o=some v/\ck X.K H v d:=by
 unfold gG at hk;rw [nv,aI,aI] at hk;cases rd with
 | oI h rs =>
  rename_i a ob kv;rcases hk with ⟨h1,h2⟩ | ⟨h1,h2⟩
  ·obtain⟨kk,rfl⟩:=tG h1;have ey:=sQ ry;subst ey;refine⟨a,kM kv kk,rfl,.inr (.inl ⟨kv,kk,.inr ⟨_,h⟩,rfl,rfl⟩),?_,fun d hd=>?_⟩
   ·rcases rs.look kk with ⟨v,d,e1,e2,_⟩ | ⟨e1,e2⟩ <;> rw [e1,e2] <;> rfl
   ·rcases rs.look kk with ⟨v,d',e1,e2,r⟩ | ⟨e1,e2⟩
    ·rw [e2] at hd; cases hd; exact⟨v,e1,r⟩
    ·rw [e2] at hd; cases hd
  ·cases rs with
   | nil=>exact⟨a,none,rfl,.inl rfl,rfl,fun d hd=>by cases hd⟩
   | cons _ _ =>
    rename_i kx _ _ _ _ _ _;rw [yW,aI] at h2;cases kx <;> exact absurd h2.1 (by simp [dM,jU])
 | oH h rs =>
  rename_i a ob kv;rcases hk with ⟨h1,h2⟩ | ⟨h1,h2⟩
  ·cases rs with
   | nil=>exact⟨a,none,rfl,.inl rfl,rfl,fun d hd=>by cases hd⟩
   | cons _ _ =>
    rw [yW,aI] at h2;exact absurd h2.1 (by simp [ef])
  ·obtain⟨kk,rfl⟩:=IC h1;obtain⟨b,rfl,hb⟩:=CZ ry;refine⟨a,kM kv kk,rfl,.inr (.inr ⟨kv,kk,b,.inr ⟨_,h⟩,rfl,hb,rfl⟩),?_,fun d hd=>?_⟩
   ·rcases rs.look kk with ⟨v,d,e1,e2,_⟩ | ⟨e1,e2⟩ <;> rw [e1,e2] <;> rfl
   ·rcases rs.look kk with ⟨v,d',e1,e2,r⟩ | ⟨e1,e2⟩
    ·rw [e2] at hd; cases hd; exact⟨v,e1,r⟩
    ·rw [e2] at hd; cases hd
theorem Oa{v:V}{d:D}(I:Inv X pins σ H s)(ab:kZ X.K H G)(hg:G a=some (.fZ kvs))(hk:gG kvs k=true)(hz:kvs.length < SZ)(ry:ck X.K H y k)(rv:ck X.K H v d) :
  ∃ H' H'',Inv X pins σ H' s/\K4 H' a y v H''/\Mv X.K H G H'' (eL G a (.fZ (put kvs k d))):=by
 obtain⟨H',I',m,h⟩:=BR I ab hg hk ry;have ZT:=rv.mono (m.kp ab);have sz:a8=16777216:=cS;rcases h with ⟨kv,kk,hv,rs,rfl,rfl⟩ | ⟨kv,kk,b,hv,rs,rfl,rfl,hb⟩
 ·have kp:Kp H' (upd H' a (.dK (putK kv kk v))):=.putD hv (.inl ⟨_,rfl⟩);exact⟨H',_,I',.k hv (by rw [rs.length,sz]; exact hz),m.trans (.put m.ab hg kp (.inl ⟨_,bY,(rs.put kk ZT).mono kp⟩))⟩
 ·have kp:Kp H' (upd H' a (.dT (putK kv kk v))):=.putD hv (.inr ⟨_,rfl⟩);exact⟨H',_,I',.t hv hb (by rw [rs.length,sz]; exact hz),m.trans (.put m.ab hg kp (.inr ⟨_,bY,(rs.put kk ZT).mono kp⟩))⟩
end
end K2
end
section
namespace K2
open PySem PySem.Spec PyProof.Rows L2
section
variable {X:Cx} {a b c e:Expr} {es:List Expr} {ta tb tc te:gb} {t:He} {pos p p2 apos jk:Pos} {x:Str}
theorem uG{k:Bool}{j}:gy X (.Constant (.bool k) j pos) (dC (.bl k)):=uF UZ fun _ _=>.bl k
theorem JS{st:Stmt}:Hf X st Og:=fun _ _ _ _ _ _ _ _ _ _ h=>h.elim
theorem sF:Wa X (unaryOp .USub) FD:=by
 intro pins s σ H G x dx v Q I ab rx dX q;cases dX with
 | int i=>exact gB (R9 pins s σ H _ v (AU X.K H G Q) I rx ⟨i,rfl,_,_,.refl ab,.int _,q⟩) fun _ _ z=>.of z
 | _=>exact bO q
theorem fG(hu:X.A.units+64 < cLine)(ha:gy X a ta)(hb:gy X b tb)(hs:QZ b):gy X (.Subscript a b pos) (bG oP ta tb):=by
 intro E pins s σ H τ G Q hE I h;refine Subscript_ (OB ha hb hE I h fun v u s2 x y dx dy H2 G2 J m rx ry dX dY q=>?_);have fin:∀ {rb:R2},ZD X rb->rb x y H2 (AU X.K H2 G2 Q)->wpAny (model X.prog X.w) X.A (subscriptTail a b v u) (si X pins σ H G Q) X.xe s2:=fun hr hq =>
  gB (hr a b pins s2 σ H2 x y v u _ J.inv rx ry hq (hs _ _)) fun _ _ z=>(si.of z).trans m
 cases dX with
 | tup hq rs =>
  cases dY with
  | int i =>
   rw [kc] at q;split at q
   ·rename_i d hd;obtain⟨w,hw,qJ⟩:=rs.u7 hd;exact fin Tf ⟨_,_,i,w,rfl,rfl,.of hq,hw,d,G2,.refl J.ab,qJ,q⟩
   ·exact q.elim
  | _=>exact bO q
 | dR hq rs =>
  cases dY with
  | int i =>
   rw [xg] at q;split at q
   ·rename_i d hd;obtain⟨w,hw,qJ⟩:=rs.u7 hd;exact fin IG ⟨_,_,i,w,rfl,rfl,hq.sq,hw,d,G2,.refl J.ab,qJ,q⟩
   ·exact q.elim
  | _=>exact bO q
 | oI h rs =>
  rw [v3] at q;obtain⟨hk,q⟩:=q;split at q
  ·rename_i d hd;obtain⟨a',o,ea,g,_,hv⟩:=Ba J.inv (.oI h rs) hk dY;obtain⟨w,rfl,qJ⟩:=hv d hd;cases ea;rcases g with rfl | g
   ·cases hd
   ·cases rx;exact tail_any (pV J.inv g) PySem.F.slot_dict_getitem.lookup (u0 (by lia) J.inv g ry fun w' s3 I4 rv=>⟨w,H2,d,G2,I4,m,rv,qJ,q⟩) (hs _ _)
  ·exact q.elim
 | oH h rs =>
  rw [v3] at q;obtain⟨hk,q⟩:=q;split at q
  ·rename_i d hd;obtain⟨a',o,ea,g,_,hv⟩:=Ba J.inv (.oH h rs) hk dY;obtain⟨w,rfl,qJ⟩:=hv d hd;cases ea;rcases g with rfl | g
   ·cases hd
   ·cases rx;exact tail_any (pV J.inv g) PySem.F.slot_dict_getitem.lookup (u0 (by lia) J.inv g ry fun w' s3 I4 rv=>⟨w,H2,d,G2,I4,m,rv,qJ,q⟩) (hs _ _)
  ·exact q.elim
 | ref l =>
  rw [HY] at q;split at q
  ·rename_i ds hl;obtain⟨vs,hv,rs⟩:=J.ab.lst hl;cases dY with
   | int i =>
    dsimp only at q;split at q
    ·rename_i d hd;obtain⟨w,hw,qJ⟩:=rs.u7 hd;exact fin IG ⟨_,_,i,w,rfl,rfl,.of hv,hw,d,G2,.refl J.ab,qJ,q⟩
    ·exact q.elim
   | _=>exact bO q
  ·rename_i kvs hl;obtain⟨hk,q⟩:=q;split at q
   ·rename_i d hd;obtain⟨H3,o,I3,m3,g,_,hv⟩:=Ef J.inv J.ab hl hk dY;obtain⟨w,rfl,qJ⟩:=hv d hd;cases rx;exact tail_any (pV I3 g) PySem.F.slot_dict_getitem.lookup (u0 (by lia) I3 g ry fun w' s3 I4 rv=>⟨w,H3,d,G2,I4,m.trans m3,rv,qJ,q⟩) (hs _ _)
   ·exact q.elim
  ·exact q.elim
 | _=>exact bO q
noncomputable def WW(X:Cx)(e:Option Expr)(t:Wc):Prop :=
 ∀ (E:kX) (pins:List (Addr×Obj)) (s:av) (σ:L2.St) (H:Hp) (τ:gZ) (G:Gp) (Q:Option Int->Gp->Prop),Lk X E->I2 X pins σ H τ G s->t E τ G Q ->
  wpAny (model X.prog X.w) X.A (evalPart e X.env) (fun u s'=>∃ o H' G',Inv X pins σ H' s'/\Mv X.K H G H' G'/\IsPart u o/\Q o G') X.xe s
theorem mV:WW X none jC:=by
 intro E pins s σ H τ G Q hE I h;rw [evalPart_none];exact aA ⟨none,H,G,I.inv,.refl I.ab,.none,h⟩
theorem kd(h:gy X e te):WW X (some e) (rh te):=by
 intro E pins s σ H τ G Q hE I hw;rw [evalPart_some];refine jh h hE I hw fun x H1 d G1 u s1 I1 m1 r1 jd q1=>?_;cases jd with
 | int i =>
  obtain⟨t,rfl⟩:=r1;exact⟨some i,H1,G1,I1.inv,m1,.int i t,q1⟩
 | _=>exact bO q1
theorem jQ{lo hi:Option Expr}{tl th:Wc}(he:gy X a ta)(hl:WW X lo tl)(hu:WW X hi th):gy X (.Subscript a (.Slice lo hi none p2) pos) (KI ta tl th):=by
 intro E pins s σ H τ G Q hE I h;refine Subscript_ (jh he hE I h fun x H1 d G1 v s1 I1 m1 r1 jd q1=>?_);refine wpAny_Slice (gB (hl E pins s1 σ H1 τ G1 _ hE I1 q1) ?_);rintro vl s2 ⟨l,H2,G2,lX,m2,pl,q2⟩;refine gB (hu E pins s2 σ H2 τ G2 _ hE (I1.mv lX m2) q2) ?_;rintro vu s3 ⟨r,H3,G3,I3,m3,pu,q3⟩;rw [evalPart_none];refine aA ?_;have Z7:=m2.trans m3;have mm:=m1.trans Z7;have I4:Inv X pins σ H3 { s3 with heap:=s3.heap.push { cls:=.type "slice",data:=.fields #[vl,vu,.none] } }:=I3.kept (t':=s3.toks) fun b ob q=>aJ _ q;have Xs:=jd.mono (Z7.kp I1.ab);have RS:=m3.ab;have key:∀ {rb:V->Option Int->Option Int->Hp->VK->Prop},Zv X rb->rb x l r H3 (AU X.K H3 G3 Q)->wpAny (model X.prog X.w) X.A (subscriptTail a (.Slice lo hi none p2) v (.ref s3.heap.objs.size)) (si X pins σ H G Q) X.xe { s3 with heap:=s3.heap.push { cls:=.type "slice",data:=.fields #[vl,vu,.none] } }:=fun hr hq=>by
  obtain⟨T,id,hT,ht,hg⟩:=hr pins { s3 with heap:=s3.heap.push { cls:=.type "slice",data:=.fields #[vl,vu,.none] } } σ H3 x v vl vu l r s3.heap.objs.size _ I4 r1 (Heap.IsSliceOf.new ..) pl pu hq;exact gB (tail_any (ops:=[.ref s3.heap.objs.size,v]) ht hT hg (by with_unfolding_all rfl)) fun _ _ z=>(si.of z).trans mm
 cases Xs with
 | tup hq rs =>
  obtain⟨hw,q⟩:=q3;refine key Ss ⟨_,_,rfl,.of hq,?_,fun p hp=>⟨_,G3,.Li RS hp,.tup bY ((rs.cut l r).mono (.new hp)),q⟩⟩;rw [A9,A9,rs.length];exact hw
 | dR hq rs=>exact key HK ⟨_,_,rfl,hq.sq,fun p hp=>⟨_,_,.FT RS hp (rs.cut l r),.ref _,q3 p (RS.free hp)⟩⟩
 | ref g =>
  rw [HW] at q3;split at q3
  ·rename_i ds hg;obtain⟨vs,hv,rs⟩:=RS.lst hg;exact key HK ⟨_,_,rfl,.of hv,fun p hp=>⟨_,_,.FT RS hp (rs.cut l r),.ref _,q3 p (RS.free hp)⟩⟩
  ·exact q3.elim
 | _=>exact bO q3
theorem PW(ss:List D)(s:D)(h1:pK ss=true)(h2:nr s=true):((lW ss).any fun y=>yS y (pd s))=ss.any (ig · s):=by
 induction ss with
 | nil=>rfl
 | cons d r ih =>
  have h':nr d=true/\pK r=true:=(mF).mp h1;show (yS (pd d) (pd s)||(lW r).any _)=_;rw [ih h'.2,uU d s h'.1 h2]; rfl
theorem QA{G:Gp}{n:Nat}{ds ss:List D}(h:Sn G (n+1) (.dR ds) (.dR ss)):cB (lW ss)<=n:=by
 exact sC (BS h)
theorem Bu(hu:X.A.units+64 < cLine)(neg:Bool){pins:List (Addr×Obj)}{s:av}{σ:L2.St}{H:Hp}{G:Gp}{x y:V}{dx t:D}{ds ss:List D}{v u:Value}{Q:DK}(I:Inv X pins σ H s)(ab:kZ X.K H G)(rx:RelV x v)(dX:ck X.K H x dx)
  (hy:(∃ l vs bS,u=.ref l/\Vals vs bS/\bh X.K H vs ds/\(s.heap.IsList l bS.toArray\/s.heap.IsTuple l bS.toArray))) (s1:Sn G SN dx t) (s2:Sn G SN (.dR ds) (.dR ss))
  (q:Q (.bl (if neg then !ss.any (ig · t) else ss.any (ig · t))) G):wpAny (model X.prog X.w) X.A (eY (if neg then .NotIn else .In) v u) (si X pins σ H G Q) X.xe s:=by
 obtain⟨l,vs,bS,rfl,rv,rs,hl⟩:=hy;obtain⟨as,ra⟩:=(jP I ab s1).1 x v dX rx;obtain⟨bs,rb⟩:=(jP I ab s2).2 ds ss (.inl ⟨rfl,rfl⟩) vs bS rs rv;have d2:=QA (n:=7) s2;have n2:pK ss=true:=s2.nr;have DJ:=wd _ n2;have e:=PW ss t n2 s1.nr;have Gj:X.A.units+1+min (cB (lW ss)) (pd t).depth < cLine:=by lia
 have Rj:gL s.heap bS.toArray.toList (lW ss) bs:=by simpa using rb
 have fin:∀ k:Bool,k=(if neg then !ss.any (ig · t) else ss.any (ig · t))->si X pins σ H G Q (.bool k) s:=fun k hk=>by subst hk; exact⟨.bl _,H,.bl _,G,I,.refl ab,rfl,.bl _,q⟩
 cases neg with
 | false =>
  rcases hl with hl | hl
  ·exact SeqAt.in_listAt _ hl (qS Rj ra DJ (jS _ s1.nr) Gj) (by rw [oV Rj DJ,e]; exact fin _ rfl)
  ·exact SeqAt.in_tupleAt _ hl (qS Rj ra DJ (jS _ s1.nr) Gj) (by rw [oV Rj DJ,e]; exact fin _ rfl)
 | true =>
  rcases hl with hl | hl
  ·exact SeqAt.notIn_listAt _ hl (qS Rj ra DJ (jS _ s1.nr) Gj) (by rw [oV Rj DJ,e]; exact fin _ rfl)
  ·exact SeqAt.notIn_tupleAt _ hl (qS Rj ra DJ (jS _ s1.nr) Gj) (by rw [oV Rj DJ,e]; exact fin _ rfl)
theorem Nr(hu:X.A.units+64 < cLine)(neg:Bool){pins:List (Addr×Obj)}{s:av}{σ:L2.St}{H:Hp}{G:Gp}{x y:V}{dx:D}{kvs:List (D×D)}{v u:Value}{Q:DK}(I:Inv X pins σ H s)(ab:kZ X.K H G)(rx:RelV x v)(ry:RelV y u)(dY:ck X.K H y (.ji kvs))(dX:ck X.K H x dx)
  (q:PC neg dx (.ji kvs) G Q):wpAny (model X.prog X.w) X.A (eY (if neg then .NotIn else .In) v u) (si X pins σ H G Q) X.xe s:=by
 obtain⟨Gk,hk,q⟩:=q;have go:∀ (a:Addr) (o:Option V),y=.ref a->yO H a x o->o.isSome=(look kvs dx).isSome->wpAny (model X.prog X.w) X.A (eY (if neg then .NotIn else .In) v u) (si X pins σ H G Q) X.xe s:=by
  intro a o ea g ho;subst ea;cases ry;cases neg with
  | false=>exact V0 (by lia) I g rx fun s3 I4=>⟨.bl _,H,.bl _,G,I4,.refl ab,rfl,.bl _,by rw [ho]; exact q⟩
  | true=>exact Jd (by lia) I g rx fun s3 I4=>⟨.bl _,H,.bl _,G,I4,.refl ab,rfl,.bl _,by rw [ho]; exact q⟩
 obtain⟨a,o,ea,g,ho,_⟩:=Ba I dY hk dX;rcases g with rfl | g
 ·exact absurd rfl Gk
 ·exact go a o ea g ho
theorem P5(hu:X.A.units+64 < cLine)(neg:Bool):oM X (eY (if neg then .NotIn else .In)) (PC neg):=by
 intro pins s σ H G x y dx dy v u Q I ab rx ry dX dY q;cases dY with
 | tup hq rs =>
  obtain⟨t,ss,s1,s2,q⟩:=q;cases ry;obtain⟨bS,rv,pl,hz⟩:=I.tuple (.of hq);exact Bu hu neg (y:=x) I ab rx dX ⟨_,_,bS,rfl,rv,rs,.inr pl⟩ s1 s2 q
 | dR hq rs =>
  obtain⟨t,ss,s1,s2,q⟩:=q;cases ry;obtain⟨bS,rv,pl,hz⟩:=I.list hq.sq;exact Bu hu neg (y:=x) I ab rx dX ⟨_,_,bS,rfl,rv,rs,.inl pl.isList⟩ s1 s2 q
 | oI h rs=>exact Nr hu neg I ab rx ry (.oI h rs) dX q
 | oH h rs=>exact Nr hu neg I ab rx ry (.oH h rs) dX q
 | ref l =>
  unfold PC at q;dsimp only at q;split at q
  ·rename_i kvs hl;obtain⟨hk,q⟩:=q;obtain⟨H3,o,I3,m3,g,ho,_⟩:=Ef I ab hl hk dX;cases ry;cases neg with
   | false=>exact V0 (by lia) I3 g rx fun s3 I4=>⟨.bl _,H3,.bl _,G,I4,m3,rfl,.bl _,by rw [ho]; exact q⟩
   | true=>exact Jd (by lia) I3 g rx fun s3 I4=>⟨.bl _,H3,.bl _,G,I4,m3,rfl,.bl _,by rw [ho]; exact q⟩
  ·rename_i ds hl;obtain⟨t,ss,s1,s2,q⟩:=q;cases ry;obtain⟨vs,hv,rs⟩:=ab.lst hl;obtain⟨bS,rv,pl,hz⟩:=I.list (.of hv);exact Bu hu neg (y:=x) I ab rx dX ⟨_,_,bS,rfl,rv,rs,.inl pl.isList⟩ s1 s2 q
  ·exact q.elim
 | _=>exact bO q
theorem SY(hu:X.A.units+64 < cLine):oM X (eY .In) (PC false):=P5 hu false
end
end K2
end
section
namespace K2
open PySem PySem.Spec PyProof.Rows L2
section
variable {X:Cx} {a b c e o:Expr} {es:List Expr} {ta tb tc te to:gb} {t:He} {pos p p2 apos jk:Pos} {x name:Str} {id T:String}
theorem u6:qh X (.builtin "len") zB:=by
 intro pins s σ H G xs ds us Q I ab rx rd q;unfold zB at q;split at q
 ·rename_i x;obtain⟨v,rfl,r⟩:=rd.one;have Pe:∀ (n:Nat),Wg X.K v H n->Q (.int (n:Int)) G->wpAny (model X.prog X.w) X.A (call (.builtin "len") us) (si X pins σ H G Q) X.xe s:=fun n hn hq =>
   gB (Ou pins s σ H [v] us (AU X.K H G Q) I rx ⟨v,n,rfl,hn,_,_,.refl ab,.int _,hq⟩) fun _ _ z=>.of z
  have sz:a8=16777216:=cS;cases r with
  | tup hq rs=>exact Pe _ (.inr ⟨_,.of hq,by rw [rs.length]⟩) q
  | dR hq rs=>exact Pe _ (.inl ⟨_,hq.sq,by rw [rs.length]⟩) q
  | str y =>
   unfold lenOf at q;dsimp only at q;by_cases hz:y.length<=SZ
   ·rw [if_pos hz] at q; exact Pe _ ⟨by rw [sz]; exact hz,rfl⟩ q
   ·rw [if_neg hz] at q; exact q.elim
  | oI h rs =>
   rename_i l o kv kvs;obtain⟨u,rfl,ru⟩:=rx.one;cases ru;unfold lenOf at q;dsimp only at q;by_cases ha:(kvs.all fun p=>ef p.1)=true
   ·rw [if_pos ha] at q;exact RP I (.inr ⟨_,h⟩) fun t s' I'=>⟨.int kv.length,H,_,G,I',.refl ab,⟨t,rfl⟩,.int _,by rw [rs.length]; exact q⟩
   ·rw [if_neg ha] at q; exact q.elim
  | oH h rs =>
   rename_i l o kv kvs;obtain⟨u,rfl,ru⟩:=rx.one;cases ru;unfold lenOf at q;dsimp only at q;by_cases ha:(kvs.all fun p=>ef p.1)=true
   ·rw [if_pos ha] at q;cases rs with
    | nil =>
     obtain⟨z,hS,xs,rel,ob,es,ep,ho,hx,yY,hl,nd⟩:=(I.cD l _ h).2;have Yr:xs=[]:=by cases rel; rfl
     subst Yr;have he:es=#[]:=by simpa using hl
     subst he;have dd:s.heap.DictOf (cK X.prog X.w) l []:=⟨ob,#[],ep,ho,hx,yY,(fun _ h=>by simp at h),.nil,cF⟩;refine call_len_dict hS dd (by simp) ?_;exact⟨.int 0,H,_,G,I.tok _,.refl ab,⟨_,rfl⟩,.int _,q⟩
    | cons _ _=>simp [ef] at ha
   ·rw [if_neg ha] at q; exact q.elim
  | ref l =>
   unfold lenOf at q;dsimp only at q;cases hg:G l with
   | none=>rw [hg] at q; exact q.elim
   | some g =>
    rw [hg] at q;cases g with
    | lst ds =>
     obtain⟨vs,hv,rs⟩:=ab.lst hg;exact Pe _ (.inl ⟨_,.of hv,by rw [rs.length]⟩) q
    | ins _ _=>exact q.elim
    | qP _=>exact q.elim
    | fZ kvs =>
     obtain⟨u,rfl,ru⟩:=rx.one;cases ru;dsimp only at q;by_cases ha:(kvs.all fun p=>ef p.1)=true
     ·rw [if_pos ha] at q;rcases ab l _ hg with ⟨kv,hv,rs⟩ | ⟨kv,hv,rs⟩
      ·exact RP I (.inl hv) fun t s' I'=>⟨.int kv.length,H,_,G,I',.refl ab,⟨t,rfl⟩,.int _,by rw [rs.length]; exact q⟩
      ·cases rs with
       | nil =>
        obtain⟨z,hd,vs,rel,dd⟩:=AG (toK I hv).cD bY;have hvs:vs=[]:=by cases rel; rfl
        subst hvs;refine call_len_dict hd dd (by simp) ?_;exact⟨.int 0,H,_,G,I.tok _,.refl ab,⟨_,rfl⟩,.int _,q⟩
       | cons _ _=>simp [ef] at ha
     ·rw [if_neg ha] at q; exact q.elim
  | _=>exact bO q
 ·exact q.elim
theorem GX:qh X (.type "list") vI:=by
 intro pins s σ H G xs ds us Q I ab rx rd q;unfold vI at q;split at q
 ·rename_i x;obtain⟨v,rfl,r⟩:=rd.one;have T9:∀ (l:Addr) (ys:List V) (zs:List D),v=.ref l->(qc X.K H l ys\/wo X.K H l ys)->bh X.K H ys zs->gw G (.lst zs) Q->wpAny (model X.prog X.w) X.A (call (.type "list") us) (si X pins σ H G Q) X.xe s:=fun l ys zs e h rs hq=>by
   subst e;exact gB (B2 pins s σ H _ us (AU X.K H G Q) I rx ⟨l,ys,rfl,h,fun p hp=>⟨_,_,.FT ab hp rs,.ref _,hq p (ab.free hp)⟩⟩) fun _ _ z=>.of z
  cases r with
  | tup hq rs=>exact T9 _ _ _ rfl (.inr (.of hq)) rs q
  | dR hq rs=>exact T9 _ _ _ rfl (.inl hq.sq) rs q
  | ref l =>
   unfold itemsOf at q;dsimp only at q;cases hg:G l with
   | none=>rw [hg] at q; exact q.elim
   | some g =>
    rw [hg] at q;cases g with
    | lst ds =>
     obtain⟨vs,hv,rs⟩:=ab.lst hg;exact T9 _ _ _ rfl (.inl (.of hv)) rs q
    | ins _ _=>exact q.elim
    | qP _=>exact q.elim
    | fZ kvs=>exact q.elim
  | _=>exact bO q
 ·exact q.elim
theorem rE {r:List D->Gp->DK->Prop} (hc:qh X (.type T) r) (hg:Gl X x) (hm:X.mg x=none) (hv:eC x=some (.type T)) (ha:KS X (e :: es) t) (hn:autoParam (x≠"__name__") Ad._auto_1) (Ks:autoParam ((x == ("__debug__" : Str))=false) Ad._auto_1)
  (he:autoParam (cU (e :: es) X.env=(false,eval e X.env) :: cU es X.env) Ar._auto_1) (Km:autoParam ((oU pos (cU es X.env)).any (·.1)=false) Ar._auto_1):gy X (.Call (.Name x p) (e :: es) [] pos) (zx r t):=by
 intro E pins s σ H τ G Q hE I h;refine lu (rJ I.inv hg hm hv ?_ hn Ks);exact g7 (Fo ha pos hE I h fun vs H1 ds G1 us s1 I1 m1 r1 jd q1=>gB (hc pins s1 σ H1 G1 vs ds us Q I1.inv I1.ab r1 jd q1) fun _ _ z=>z.trans m1) he Km
theorem S9 (K:ai):∀ C∈["int","bool","list","tuple","dict","str"],∀ T∈["NoneType","bool","int","str","tuple","list","dict"],PySem.W.kitOne K (.type T) (.type C)=some (T == C||(T == "bool" && C == "int")):=by
 intro C hC T hT;simp only [aY,dS,or_false] at hC hT;rcases hC with rfl | rfl | rfl | rfl | rfl | rfl <;> rcases hT with rfl | rfl | rfl | rfl | rfl | rfl | rfl <;> kernel_rfl
theorem Nj (C:String) (hC:C∈["int","bool","list","tuple","dict","str"]) {pins:List (Addr×Obj)} {s:av} {σ:L2.St} {H:Hp} {G:Gp} {v:V} {d:D} {u:Value} {k:Bool} {Q:DK} (I:Inv X pins σ H s) (ab:kZ X.K H G) (ru:RelV v u) (r:ck X.K H v d)
  (hk:RA C d G=some k) (q:Q (.bl k) G):wpAny (model X.prog X.w) X.A (call (.builtin "isinstance") [u,.type C]) (si X pins σ H G Q) X.xe s:=by
 have fin:∀ tk,si X pins σ H G Q (.bool k) { s with toks:=tk }:=fun tk=>⟨.bl k,H,.bl k,G,I.tok _,.refl ab,rfl,.bl k,q⟩;have hl:∀ T∈["NoneType","bool","int","str","tuple","list","dict"],k=(T == C||(T == "bool" && C == "int"))->PySem.W.kitOne X.K (.type T) (.type C)=some k:=fun T hT e=>by rw [S9 X.K C hC T hT,e]
 have tl:∀ {l:Addr} {o:Obj},s.heap.get? l=some o->o.cls=.type "list"->k=("list" == C||("list" == "bool" && C == "int"))->v=.ref l->wpAny (model X.prog X.w) X.A (call (.builtin "isinstance") [u,.type C]) (si X pins σ H G Q) X.xe s:=fun ho hc e ev=>by
  subst ev;cases ru;exact iG PySem.W.kitx_list I.ID ⟨_,ho,hc⟩ (hl "list" (by decide) e) (fun z=>nomatch z) fin
 have td:∀ {l:Addr} {o:Obj},s.heap.get? l=some o->o.cls=.type "dict"->k=("dict" == C||("dict" == "bool" && C == "int"))->v=.ref l->wpAny (model X.prog X.w) X.A (call (.builtin "isinstance") [u,.type C]) (si X pins σ H G Q) X.xe s:=fun ho hc e ev=>by
  subst ev;cases ru;exact iG PySem.W.kitx_dict I.ID ⟨_,ho,hc⟩ (hl "dict" (by decide) e) (fun z=>nomatch z) fin
 have mO:∀ P:String->Prop,(∀ C'∈["int","bool","list","tuple","dict","str"],P C')->P C:=fun P h=>h C hC;cases r with
 | eh =>
  cases ru;have e:k=("NoneType" == C||("NoneType" == "bool" && C == "int")):=by
   have:k=false:=(aX hk).symm;rw [this];exact mO (fun C=>false=("NoneType" == C||("NoneType" == "bool" && C == "int"))) (by decide)
  exact iG PySem.W.kitx_none I.ID fI (hl _ (by decide) e) (fun z=>nomatch z) fin
 | bl y =>
  cases ru;have e:k=("bool" == C||("bool" == "bool" && C == "int")):=by
   have:k=(C == "bool" || C == "int"):=(aX hk).symm;rw [this];exact mO (fun C=>(C == "bool" || C == "int")=("bool" == C||("bool" == "bool" && C == "int"))) (by decide)
  exact iG PySem.W.kitx_bool I.ID fI (hl _ (by decide) e) (fun z=>nomatch z) fin
 | int y =>
  obtain⟨t,rfl⟩:=ru;have e:k=("int" == C||("int" == "bool" && C == "int")):=by
   have:k=(C == "int"):=(aX hk).symm;rw [this];exact mO (fun C=>(C == "int")=("int" == C||("int" == "bool" && C == "int"))) (by decide)
  exact iG PySem.W.kitx_int I.ID fI (hl _ (by decide) e) (fun z=>nomatch z) fin
 | str y =>
  obtain⟨t,rfl⟩:=ru;have e:k=("str" == C||("str" == "bool" && C == "int")):=by
   have:k=(C == "str"):=(aX hk).symm;rw [this];exact mO (fun C=>(C == "str")=("str" == C||("str" == "bool" && C == "int"))) (by decide)
  exact iG PySem.W.kitx_str I.ID fI (hl _ (by decide) e) (fun z=>nomatch z) fin
 | tup hq rs =>
  cases ru;have e:k=("tuple" == C||("tuple" == "bool" && C == "int")):=by
   have:k=(C == "tuple"):=(aX hk).symm;rw [this];exact mO (fun C=>(C == "tuple")=("tuple" == C||("tuple" == "bool" && C == "int"))) (by decide)
  obtain⟨bS,rv,⟨o,h1,h2,_⟩,hz⟩:=I.tuple (.of hq);exact iG PySem.W.kitx_tuple I.ID ⟨o,h1,h2⟩ (hl _ (by decide) e) (fun z=>nomatch z) fin
 | dR hq rs =>
  obtain⟨bS,rv,pl,hz⟩:=I.list hq.sq;obtain⟨o,h1,h2,_⟩:=pl.isList;refine tl h1 h2 ?_ rfl;have:k=(C == "list"):=(aX hk).symm;rw [this];exact mO (fun C=>(C == "list")=("list" == C||("list" == "bool" && C == "int"))) (by decide)
 | oI h rs =>
  have e:k=("dict" == C||("dict" == "bool" && C == "int")):=by
   have:k=(C == "dict"):=(aX hk).symm;rw [this];exact mO (fun C=>(C == "dict")=("dict" == C||("dict" == "bool" && C == "int"))) (by decide)
  obtain⟨_,_,vs,_,ob,_,_,h1,h2,_⟩:=rg I.cD (.inr ⟨_,h⟩);exact td h1 h2.1 e rfl
 | oH h rs =>
  have e:k=("dict" == C||("dict" == "bool" && C == "int")):=by
   have:k=(C == "dict"):=(aX hk).symm;rw [this];exact mO (fun C=>(C == "dict")=("dict" == C||("dict" == "bool" && C == "int"))) (by decide)
  obtain⟨_,_,ys,_,ob,_,_,h1,h2,_⟩:=yv I.cD (.inr ⟨_,h⟩);exact td h1 h2.1 e rfl
 | exc h=>simp [RA] at hk
 | EZ h _=>simp [RA] at hk
 | ny _ _ _ _=>simp [RA] at hk
 | ref l =>
  unfold RA at hk;dsimp only at hk;cases hg:G l with
  | none=>rw [hg] at hk; cases hk
  | some g =>
   rw [hg] at hk;cases g with
   | lst ds =>
    obtain⟨vs,hv,rs⟩:=ab.lst hg;obtain⟨bS,rv,pl,hz⟩:=I.list (.of hv);obtain⟨o,h1,h2,_⟩:=pl.isList;refine tl h1 h2 ?_ rfl;have:k=(C == "list"):=(aX hk).symm;rw [this];exact mO (fun C=>(C == "list")=("list" == C||("list" == "bool" && C == "int"))) (by decide)
   | ins _ _=>cases hk
   | qP _=>cases hk
   | fZ kvs =>
    have e:k=("dict" == C||("dict" == "bool" && C == "int")):=by
     have:k=(C == "dict"):=(aX hk).symm;rw [this];exact mO (fun C=>(C == "dict")=("dict" == C||("dict" == "bool" && C == "int"))) (by decide)
    rcases ab l _ hg with ⟨kv,hv,rs⟩ | ⟨kv,hv,rs⟩
    ·obtain⟨_,_,vs,_,ob,_,_,h1,h2,_⟩:=AG I.cD hv;exact td h1 h2.1 e rfl
    ·obtain⟨_,_,ys,_,ob,_,_,h1,h2,_⟩:=N7 I.cD hv;exact td h1 h2.1 e rfl
theorem Bj (C:String) (hC:C∈["int","bool","list","tuple","dict","str"]) {y:Str} {py:Pos} (hg:Gl X "isinstance") (hm:X.mg "isinstance" = none) (hgC:Gl X y) (hmC:X.mg y=none) (hvC:eC y=some (.type C)) (ha:gy X a ta) (hn:autoParam (y≠"__name__") Ad._auto_1) (Ks:autoParam ((y == ("__debug__" : Str))=false) Ad._auto_1)
  (he:autoParam (cU [a,.Name y py] X.env=(false,eval a X.env) :: cU [.Name y py] X.env) Ar._auto_1) (Km:autoParam ((oU pos (cU [Expr.Name y py] X.env)).any (·.1)=false) Ar._auto_1) (VJ:autoParam (cU [.Name y py] X.env=[(false,eval (.Name y py) X.env)]) Ar._auto_1) :
  gy X (.Call (.Name "isinstance" p) [a,.Name y py] [] pos) (Oh C ta):=by
 intro E pins s σ H τ G Q hE I h;refine lu (rJ I.inv hg hm PyProof.Rows.boot_isinstance ?_);refine uq ?_ he Km;rw [he];show wpAny _ _ (spliced ((false,eval a X.env) :: oU pos (cU [.Name y py] X.env))) _ _ s;refine og (jh ha hE I h fun v H1 d G1 u s1 I1 m1 r1 jd q1=>?_);rw [VJ];show wpAny _ _ (spliced [(false,eval (.Name y py) X.env)]) _ _ s1;refine og (rJ I1.inv hgC hmC hvC (y8 ?_) hn Ks)
 try dsimp only at q1
 split at q1
 ·rename_i k hk;exact gB (Nj C hC I1.inv I1.ab r1 jd hk q1) fun _ _ z=>z.trans m1
 ·exact q1.elim
end
end K2
end
section
namespace K2
open PySem PySem.Spec PyProof.Rows L2
section
variable {X:Cx} {a b c e o:Expr} {es:List Expr} {ta tb tc te to:gb} {t:He} {pos p p2 apos jk:Pos} {x name:Str} {id T:String}
noncomputable def K3(X:Cx)(id:String)(r:D->List D->Gp->DK->Prop):Prop :=
 ∀ (pins:List (Addr×Obj)) (s:av) (σ:L2.St) (H:Hp) (G:Gp) (x:V) (d:D) (xs:List V) (ds:List D) (v:Value) (us:List Value) (Q:DK),Inv X pins σ H s->kZ X.K H G->RelV x v->ck X.K H x d->Vals xs us->bh X.K H xs ds->r d ds G Q ->
  wpAny (model X.prog X.w) X.A (call (.builtin id) (v :: us)) (si X pins σ H G Q) X.xe s
noncomputable def QX(X:Cx)(T:String)(ty:D->Gp->Prop):Prop:=∀ (pins:List (Addr×Obj)) (s:av) (σ:L2.St) (H:Hp) (G:Gp) (x:V) (d:D) (v:Value),Inv X pins σ H s->kZ X.K H G->RelV x v->ck X.K H x d->ty d G ->
  s.TypeIs v T/\∀ a,v=.ref a->∃ ob,s.heap.get? a=some ob/\ob.dict=none
theorem wM:QX X "list" Ld:=by
 intro pins s σ H G x d v I ab r rd h;cases rd with
 | dR hq rs=>exact A3 I r (.inl ⟨rfl,_,hq.sq⟩)
 | ref l =>
  unfold Ld at h;dsimp only at h;split at h
  ·rename_i ds hg;obtain⟨vs,hv,rs⟩:=ab.lst hg;exact A3 I r (.inl ⟨rfl,vs,.of hv⟩)
  ·exact h.elim
 | _=>exact bO h
theorem mS:QX X "dict" Ph:=by
 intro pins s σ H G x d v I ab r rd h;cases rd with
 | oI q rs =>
  cases r;obtain⟨t1,t2,_⟩:=Nk I (.inl ⟨_,.inr ⟨_,q⟩⟩);exact⟨t1,t2⟩
 | oH q rs =>
  cases r;obtain⟨t1,t2,_⟩:=Nk I (.inr ⟨_,.inr ⟨_,q⟩⟩);exact⟨t1,t2⟩
 | ref l =>
  unfold Ph at h;dsimp only at h;split at h
  ·rename_i kvs hg;rcases ab l _ hg with ⟨kv,hv,rs⟩ | ⟨kv,hv,rs⟩
   ·exact A3 I r (.inr (.inr (.inl ⟨rfl,.inl ⟨kv,hv⟩⟩)))
   ·exact A3 I r (.inr (.inr (.inl ⟨rfl,.inr ⟨kv,hv⟩⟩)))
  ·exact h.elim
 | _=>exact bO h
theorem nN {ty:D->Gp->Prop} {r:D->List D->Gp->DK->Prop} (pa:PlainAttrs T) (slot:Slot T name id) (hty:typeOf (.builtin id)=pure (.type "method_descriptor")) (ht:QX X T ty) (hm:K3 X id r) (ho:gy X o to) (ha:KS X (e :: es) t)
  (x8:autoParam (oC o name X.env (eval o X.env)=eval o X.env) Ar._auto_1)
  (YZ:autoParam (((oU jk (cU (e :: es) X.env)).all (fun x=>!x.1)&&(backToKw jk (keywordEach [] X.env)).all (fun x=>x.1.isSome)
   && decide ((e :: es).length+([]:List LC).length+(if ([]:List LC).isEmpty then 0 else 1) < 30))=true) Ar._auto_1)
  (x6:autoParam ((apos.endLine == jk.line)=true) Ar._auto_1) (hs:autoParam (cU (e :: es) X.env=(false,eval e X.env) :: cU es X.env) Ar._auto_1) (Ti:autoParam ((oU jk (cU es X.env)).any (·.1)=false) Ar._auto_1) :
  gy X (.Call (.Attribute o name apos) (e :: es) [] jk) (BX ty r to t):=by
 intro E pins s σ H τ G Q hE I h;refine wpAny_Call_method_late x8 YZ x6 rfl (jh ho hE I h ?_);rintro x H1 d G1 v s1 I1 m1 r1 jd ⟨hy,q1⟩;obtain⟨h1,h2⟩:=ht pins s1 σ H1 G1 x d v I1.inv I1.ab r1 jd hy;refine⟨T,id,pa,slot,hty,h1,h2,?_⟩;have hA:=ha jk E pins s1 σ H1 τ G1 _ hE I1 q1;rw [hs] at hA ⊢;refine kG (by show (false||(oU jk (cU es X.env)).any (·.1))=false; rw [Ti] <;> rfl) (Calls.evalArgs_plain ?_);exact gB hA (by rintro us s2 ⟨vs,H2,ds,G2,lX,m2,r2,xc,q2⟩; exact gB (hm pins s2 σ H2 G2 x d vs ds v us Q lX m2.ab r1 (jd.mono (m2.kp I1.ab)) r2 xc q2) fun _ _ z=>z.trans (m1.trans m2))
theorem xO:K3 X "list.append" tf:=by
 intro pins s σ H G x d xs ds v us Q I ab rx rd OV C1 q;unfold tf at q;split at q
 ·rename_i l d';cases rd;obtain⟨w,rfl,qJ⟩:=C1.one;split at q
  ·rename_i zs hg;obtain⟨hz,q⟩:=q;obtain⟨vs,hv,rs⟩:=ab.lst hg;exact gB (z8 pins s σ H _ _ v us (AU X.K H G Q) I rx OV ⟨l,vs,w,rfl,rfl,hv,by rw [rs.length,cS]; exact hz,_,_,.putL ab hg hv (rs.append (.cons qJ .nil)),.eh,q⟩) fun _ _ z=>.of z
  ·exact q.elim
 ·exact q.elim
theorem GC(l:Addr)(xs:Array Value)(n:Nat)(b:Addr)(ys:Array Value)(n2:Nat)(dd:Option Addr)(sl:Array (Option Value))(RI:¬(!xs.isEmpty&&i6 (xs.size+ys.size))=true)(hx:xs.size<=a8)(Ui:xs.size+ys.size<=a8+1) :
  Meets (Builtin.«list.extend» ⟨[.ref l,.ref b],[]⟩) (fun _ R s=>s.heap.get? l=some { cls:=.type "list",dict:=none,data:=.seq xs n,slots:=#[] }/\s.heap.get? b=some { cls:=.type "list",dict:=dd,data:=.seq ys n2,slots:=sl }/\R (.ok (.ret fE)) { s with heap:=s.heap.update l (iD fun x=>x++ys),toks:=s.toks }) :=
 .of_wp fun prog w A R s h=>by
  obtain⟨hp,g,d,tk,os⟩:=s;obtain⟨h1,h2,h3⟩:=h;have e1:=AutoSeq1.idx_int;have e2:=oo;have e3:=Ff;have e4:=AutoSeq1.sub_tuple_list;have e5:=AutoSeq1.sub_list_tuple;have hz':(xs++ys).size<=a8+1:=by rw [Array.size_append]; exact Ui
  wp_walk using (wpAny_updateSeq h1 rfl (hz:=hx) (_hz':=hz')),cg h1,cg h2
  exact⟨_,rfl,h3⟩
theorem FU:K3 X "list.extend" wb:=by
 intro pins s σ H G x d xs ds v us Q I ab rx rd OV C1 q;unfold wb at q;split at q
 ·rename_i l y;cases rd;obtain⟨w,rfl,qJ⟩:=C1.one;obtain⟨u,rfl,ru⟩:=OV.one;split at q
  ·rename_i zs ys hg YT;obtain⟨hz,q⟩:=q;obtain⟨vs,hv,rs⟩:=ab.lst hg;obtain⟨b,ws,uM,rfl,Md,HS,hb,_⟩:=lN I ab ru qJ YT;cases rx;obtain⟨z,bS,n,r,hl,e⟩:=I.Vk hv;obtain⟨⟨cl,dd,dt,sl⟩,ho,NH,n2,hdt⟩:=hb;simp only at NH hdt;subst NH hdt;have h1:=Md.length;have h2:=HS.length;have h3:=rs.length;have h4:=r.length;have h5:a8=16777216:=cS;have h6:SZ=16777216:=rfl;have hsz:bS.toArray.size+uM.toArray.size<=a8:=by rw [aW,aW]; lia
   have RI:¬ (!bS.toArray.isEmpty&&i6 (bS.toArray.size+uM.toArray.size))=true:=by
    rw [MM hsz,Hy];exact iK
   refine call_meets F.slot_list_extend ⟨_,e,rfl⟩ F.entry_list_extend (F.args_list_extend_2 _ _) (GC l bS.toArray n b uM.toArray n2 dd sl RI (by rw [aW]; lia) (by lia)) ⟨e,ho,?_⟩;refine⟨.eh,_,.eh,_,I.Vl (its':=bS++uM) hv e (by simp) (r.append Md) ?_,.putL ab hg hv (rs.append HS),rfl,.eh,q⟩;rw [aG];lia
  ·exact q.elim
 ·exact q.elim
theorem kP:gy X (.Dict [] [] pos) mM:=by
 intro E pins s σ H τ G Q hE I h;exact gB (Mz pins s σ H (AU X.K H G Q) I.inv fun p hp=>⟨_,_,.new I.ab hp (.dk bY .nil),.ref _,h p (I.ab.free hp)⟩) fun _ _ z=>.of z
end
end K2
end
section
namespace K2
open PySem PySem.Spec PyProof.Rows L2
noncomputable def fM(env:Env):List (Str×qT)->List (Str×Addr)->List (Str×Addr)
 | [],acc=>acc
 | (n,k) :: r,acc=>if k=.free then fM env r ((n,(env.cells.lookup n).getD 0) :: acc) else fM env r acc
theorem r8(env:Env)(f:Str×qT->List (Str×Addr)->Sem (ForInStep (List (Str×Addr))))(hf:∀ n k c,f (n,k) c=if (k == jI)=true then (cellOf env n >>= fun a=>pure (qH ((n,a) :: c))) else pure (qH c)) :
  ∀ (ns:List (Str×qT)) (acc:List (Str×Addr)),(∀ x∈ns,x.2=.free->∃ c,env.cells.lookup x.1=some c)->forIn ns acc f=(pure (fM env ns acc):Sem (List (Str×Addr)))
 | [],acc,_=>rfl
 | (n,k) :: r,acc,h=>by
  rw [List.forIn_cons,hf];have hr:∀ x∈r,x.2=.free->∃ c,env.cells.lookup x.1=some c:=fun x hx=>h x (aK _ hx);by_cases hk:k=.free
  ·subst hk;obtain⟨c,hc⟩:=h (n,.free) cc rfl;have ec:cellOf env n=pure c:=by unfold cellOf; rw [hc]
   rw [if_pos (by decide),ec,pure_bind,pure_bind];show forIn r ((n,c) :: acc) f=_;rw [r8 env f hf r _ hr];show _=(pure (fM env ((n,.free) :: r) acc):Sem (List (Str×Addr)));rw [fM,if_pos rfl,hc]; rfl
  ·rw [if_neg (by simpa using hk),pure_bind];show forIn r acc f=_;rw [r8 env f hf r _ hr];show _=(pure (fM env ((n,k) :: r) acc):Sem (List (Str×Addr)));rw [fM,if_neg hk]
theorem zy{env:Env}{scope:Scope}(h:∀ x∈scope.names,x.2=.free->∃ c,env.cells.lookup x.1=some c):closureFor scope env=pure (fM env scope.names []):=by
 unfold closureFor;dsimp only;rw [r8 env _ (fun n k c=>?_) scope.names [] h]
 ·rfl
 ·by_cases hk:(k == jI)=true
  ·simp only [hk,if_true]
  ·simp only [hk,if_false,ar]
theorem sG{env:Env}{x:Str}{c:Addr}:∀ {ns:List (Str×qT)} {acc:List (Str×Addr)},(∀ y∈ns,y.2=.free->∃ c,env.cells.lookup y.1=some c)->(∀ y c,acc.lookup y=some c->env.cells.lookup y=some c)->(fM env ns acc).lookup x=some c->env.cells.lookup x=some c
 | [],_,_,ha,e=>ha _ _ e
 | (n,k) :: r,acc,h,ha,e=>by
  have hr:∀ y∈r,y.2=.free->∃ c,env.cells.lookup y.1=some c:=fun y hy=>h y (aK _ hy);unfold fM at e;by_cases hk:k=.free
  ·rw [if_pos hk] at e;refine sG hr (fun y c' q=>?_) e;rw [Cg] at q;by_cases hy:(y == n)=true
   ·rw [hy] at q;have e1:y=n:=eq_of_beq hy;subst e1;obtain⟨c0,hc0⟩:=h (y,k) cc hk;rw [hc0] at q ⊢;exact q
   ·have RB:(y == n)=false:=by simpa using hy
    rw [RB] at q;exact ha y c' q
  ·rw [if_neg hk] at e;exact sG hr ha e
theorem nJ{env:Env}{x:Str}:∀ {ns:List (Str×qT)} {acc:List (Str×Addr)},((x,jI)∈ns\/∃ c,acc.lookup x=some c)->∃ c,(fM env ns acc).lookup x=some c
 | [],_,h=>by rcases h with h | h; exact absurd h (by simp); exact h
 | (n,k) :: r,acc,h=>by
  unfold fM;have grow:∀ a,(∃ c,acc.lookup x=some c)->∃ c,((n,a) :: acc).lookup x=some c:=fun a RH=>by
   obtain⟨c,hc⟩:=RH;rw [Cg];by_cases hy:(x == n)=true
   ·rw [hy]; exact⟨_,rfl⟩
   ·have RB:(x == n)=false:=by simpa using hy
    rw [RB]; exact⟨c,hc⟩
  by_cases hk:k=.free
  ·rw [if_pos hk];refine nJ ?_;rcases h with h | h
   ·rcases List.mem_cons.mp h with e | h
    ·injection e with e1 e2
     subst e1;exact .inr ⟨(env.cells.lookup x).getD 0,by rw [Cg]; simp⟩
    ·exact .inl h
   ·exact .inr (grow _ h)
  ·rw [if_neg hk];refine nJ ?_;rcases h with h | h
   ·rcases List.mem_cons.mp h with e | h
    ·injection e with e1 e2
     exact absurd e2.symm hk
    ·exact .inl h
   ·exact .inr h
noncomputable abbrev dF(X:Cx)(N:List Str)(scope:Scope)(C:Addr)(s:av)(H:Hp)(fp:List Addr):Cx :=
 { X with env:=compEnvC scope (fM X.env scope.names []) C X.env,N:=N,lU:=s,OK:=H,outer:=X.stack,stack:=X.stack,ex:=fp,fn:=fun _=>false,pn:=[],xe:=fun _ _=>False }
theorem sR{scope:Scope}{env:Env}{x:Str}(h:(E3 scope env).names.lookup x=some .cell\/(E3 scope env).names.lookup x=some .free)(ow:∀ y∈scope.names,y.2≠.cell):(x,jI)∈scope.names:=by
 have go:∀ k,(E3 scope env).names.lookup x=some k->k=.cell\/k=.free->(x,jI)∈scope.names:=by
  intro k hk hkk;have hm:=g4 hk;unfold E3 at hm;dsimp only at hm;obtain⟨⟨n,j⟩,hj,e⟩:=List.mem_map.mp hm;dsimp only at e;by_cases hc:(j == jI&&env.scope.kind == .function&&env.kindOf n == some .cell)=true
  ·rw [if_pos hc] at e;rw [aI,aI] at hc;injection e with e1 e2
   have ej:j=.free:=eq_of_beq hc.1.1;rw [ej,e1] at hj;exact hj
  ·rw [if_neg hc] at e;injection e with e1 e2
   subst e1;rcases hkk with r | r
   ·exact absurd (e2.trans r) (ow _ hj)
   ·rw [e2.trans r] at hj; exact hj
 rcases h with h | h
 ·exact go _ h (.inl rfl)
 ·exact go _ h (.inr rfl)
section
variable {X:Cx} {N:List Str} {scope:Scope} {fp:List Addr} {pins:List (Addr×Obj)} {σ:L2.St} {H:Hp} {s:av} {C:Addr}
theorem TK(I:Inv X pins σ H s)(ow:∀ y∈scope.names,y.2≠.cell)(Av:scope.kind=.function)(ou:∀ y∈scope.names,y.2=.free->X.env.kindOf y.1=some .cell)(hC:s.heap.objs.size<=C)(YV:∀ b∈fp,mP X pins H b/\b < s.heap.objs.size):(dF X N scope C s H fp).Ok:=by
 have NH:∀ y∈scope.names,y.2=.free->∃ c,X.env.cells.lookup y.1=some c:=fun y hy hf=>I.ok.has _ (.inl (ou y hy hf));have Sd:∀ x c,(fM X.env scope.names []).lookup x=some c->X.env.cells.lookup x=some c:=fun x c e=>sG NH (fun y c q=>by simp at q) e;refine⟨I.ok.mod,Av,I.ok.glob,I.ok.blt,hC,fun x y c h1 h2=>I.ok.inj x y c (Sd x c h1) (Sd y c h2),fun x hx=>?_,fun x c h=>absurd h (by simp),I.ok.hd,I.ok.frames,.inl rfl,fun b hb=>?_,I.bs,aZ I.ok.QU I.sz,fun b o e hb=>?_,fun b hb=>?_,I.stack,I.HG⟩
 ·exact nJ (.inl (sR hx ow))
 ·obtain⟨⟨f0,f1,f2,f3,f4,f5⟩,x5⟩:=YV b hb;exact⟨bK (bN x5 hC),fun x c e=>f4 x c (Sd x c e)⟩
 ·obtain⟨⟨f0,f1,f2,f3,f4,f5⟩,x5⟩:=YV b hb;rcases f3 with f3 | f3
  ·exact I.ok.JY b o e f3
  ·exact absurd (bN (aU e) (aZ I.ok.QU f3)) (jf _)
 ·obtain⟨⟨f0,f1,f2,f3,f4,f5⟩,x5⟩:=YV b hb;intro z;rcases List.mem_cons.mp (I.Ft b z) with e | e
  ·exact f1 e
  ·exact f2 e
theorem QJ{qN:Heap}{m:Nat}{fr:List Nat}{tk:Nat}(I:Inv X pins σ H s)(ok:(dF X N scope s.heap.objs.size s H fp).Ok)(Tp:∀ y∈scope.names,y.2≠.cell)(ou:∀ y∈scope.names,y.2=.free->X.env.kindOf y.1=some .cell)(hN:N.length=m+fr.length)
  (YU:∀ j i x,fr[j]?=some i->N[m+j]?=some x->X.N[i]?=some x/\X.env.scope.names.lookup x=some .cell/\(E3 scope X.env).names.lookup x=some .cell) (OY:∃ mm,qN.Ns s.heap.objs.size mm) (hk:∀ b o,s.heap.get? b=some o->qN.get? b=some o) :
  Inv (dF X N scope s.heap.objs.size s H fp) [] (bg m none++fr.map fun i=>(σ[i]?).getD none) H { s with heap:=qN,toks:=tk }:=by
 have NH:∀ y∈scope.names,y.2=.free->∃ c,X.env.cells.lookup y.1=some c:=fun y hy hf=>I.ok.has _ (.inl (ou y hy hf));have Sd:∀ x c,(fM X.env scope.names []).lookup x=some c->X.env.cells.lookup x=some c:=fun x c e=>sG NH (fun y c q=>by simp at q) e;obtain⟨mm,OY⟩:=OY;refine⟨ok,rfl,I.bare,Un.kept hk,⟨mm,OY,fun i x v h1 h2 h3=>?_⟩,fun x c e=>?_,I.cD.fresh (aE _),fun x c e=>?_,fun p hp=>absurd hp (by simp),I.cD.kept hk,?_⟩
 ·by_cases hi:i < m
  ·rw [cO (by simpa using hi),kr] at h2;split at h2 <;> cases h2
  ·obtain⟨j,rfl⟩:∃ j,i=m+j:=⟨i - m,by lia⟩;rw [cz (by simp),fb,rn,bB] at h2;cases hj:fr[j]? with
   | none=>rw [hj] at h2; cases h2
   | some k =>
    rw [hj] at h2;have NM:(σ[k]?).getD none=some v:=by simpa using h2
    have WI:σ[k]?=some (some v):=by
     cases q:σ[k]? with
     | none=>rw [q] at NM; cases NM
     | some o=>rw [q] at NM; simp at NM; rw [NM]
    obtain⟨e1,e2,e3⟩:=YU j k x hj h1;obtain⟨m0,hn0,hl0⟩:=I.loc;obtain⟨u,r,l⟩:=hl0 k x v e1 WI (.inr (.inl e2));refine⟨u,r,.inr ⟨.inl e3,?_⟩⟩;rcases l with ⟨l1,_⟩ | ⟨_,c,hc,ow⟩
    ·have:X.env.scope.names.lookup x=some .local:=l1;rw [e2] at this; cases this
    ·have hx:(x,jI)∈scope.names:=sR (.inl e3) Tp;obtain⟨c',RM⟩:=nJ (env:=X.env) (x:=x) (ns:=scope.names) (acc:=[]) (.inl hx);have:=Sd x c' RM;rw [hc] at this;have ec:c=c':=aX this;subst ec;obtain⟨oc,Uj,hd⟩:=ow;exact⟨c,RM,oc,hk _ _ Uj,hd⟩
 ·obtain⟨v,oc,Uj,hd⟩:=I.cell x c (Sd x c e);exact⟨v,oc,hk _ _ Uj,hd⟩
 ·exact I.oy x c (Sd x c e)
 ·rw [aG,fb,aB];exact hN.symm
theorem B1{prog:bJ}{w:World}{A:dj}{R:Result->av->Prop}{s:av}{elt target iter:Expr}{ifs:List Expr}{sc:Scope}{pos:Pos}{it acc:Value}{env:Env}(J:Nat->av->Prop)
  (turn:∀ n s,J n s->wpAny (model prog w) A (Ct it) (fun r ft=>match r with
   | none=>R (.ok .next) ft
   | some v=>wpAny (model prog w) A (wB target it v) (fun _ UM=>wpAny (model prog w) A (Hn target env v) (fun _ CK =>
     wpAny (model prog w) A (forIn ifs true fun c r=>if r=true then do let ok ← isTrue c env (eval c env); pure (qH ok) else pure (qH r)) (fun k LX =>
      if k=true then wpAny (model prog w) A (eval elt env) (fun x JD=>wpAny (model prog w) A (call (.builtin "list.append") [acc,x]) (fun _ LW=>∃ m,m < n/\J m LW) (fun _ _=>False) JD) (fun _ _=>False) LX
      else ∃ m,m < n/\J m LX) (fun _ _=>False) CK) (fun _ _=>False) UM) (fun _ _=>False) ft) (fun _ _=>False) s) (n:Nat) (h:J n s) :
  E5 (model prog w) A (.compLoop (.ListComp elt [⟨target,iter,ifs,0⟩] sc pos) 0 it acc env) R s:=by
 have no:∀ {α:Type} {t:Sem α} {Q:α->av->Prop} {E:Value->av->Prop} {s:av},wpAny (model prog w) A t Q (fun _ _=>False) s->wpAny (model prog w) A t Q E s:=fun h=>wpAny_mono h (fun _ _ q=>q) fun _ _ z=>z.elim;refine codeAny_loop rfl J (fun n s hJ=>?_) n h;show wpAny _ A ((compTurn (.ListComp elt [⟨target,iter,ifs,0⟩] sc pos) 0 it acc env).onRaise (fun x=>do noteFrame x env; theTreesLotGoes x)) _ _ s;refine wpAny_noted ?_;rw [compTurn_list];refine ag (Cp (ag (gB (no (turn n s hJ)) fun r ft qN=>?_)));cases r with
 | none=>exact aA qN
 | some v =>
  refine ag (gB (no qN) fun _ CK Nx=>ag (gB (no Nx) fun _ LX Ym=>ag (gB (no Ym) fun k JD Vt=>?_)));cases k with
  | false=>exact aA ⟨rfl,Vt⟩
  | true=>exact ag (ag (gB (no Vt) fun x LW Yl=>ag (gB (no Yl) fun _ aa9 Yk=>aA (aA ⟨rfl,Yk⟩))))
noncomputable def CompEnd(X:Cx)(pins:List (Addr×Obj))(σ:L2.St)(H:Hp)(G:Gp)(Q:DK)(C Dd:Addr)(s':av):Prop :=
 ∃ m H' G',Inv X pins σ H' s'/\s'.heap.Ns C m/\mP X pins H' C/\Mv X.K H G H' G'/\Q (.ref Dd) G'
inductive T1 (Xc:Cx):List Expr->Option vJ->Prop
 | none:T1 Xc [] none
 | some {c:Expr} {t:vJ}:Ln Xc c t->T1 Xc [c] (some t)
theorem AK{τ:gZ}{G G2:Gp}{H2:Hp}{s2:av}{tg elt iter:Expr}{ifs:List Expr}{pos:Pos}{m:Nat}{fr:List Nat}{E:kX}{g:y0}{c:Option vJ}{te:gb}{J:It}{tn:Nat->Heap->Prop}{it:Addr}{ds:List D}{ok:Gp->Prop}{Q:DK}{Rr:Value->Addr->Result->av->Prop}{E0:Value->av->Prop}
  (hc:X.calm=true) (ow:∀ y∈scope.names,y.2≠.cell) (Av:scope.kind=.function) (ou:∀ y∈scope.names,y.2=.free->X.env.kindOf y.1=some .cell) (hN:N.length=m+fr.length)
  (YU:∀ j i x,fr[j]?=some i->N[m+j]?=some x->X.N[i]?=some x/\X.env.scope.names.lookup x=some .cell/\(E3 scope X.env).names.lookup x=some .cell)
  (hg:∀ C s H fp,KR (dF X N scope C s H fp) tg g) (hi:∀ C s H fp,T1 (dF X N scope C s H fp) ifs c) (he:∀ C s H fp,gy (dF X N scope C s H fp) elt te)
  (I:I2 X pins σ H2 τ G2 s2) (m2:Mv X.K H G H2 G2) (T:Turn X.prog X.w X.K tg J fp it tn) (OU:tn 0 s2.heap) (f2:∀ b∈fp,mP X pins H2 b) (wk:RT X.K J H2 ds ok) (hz:ds.length<=SZ)
  (Y7:∀ ex G,¬ E ex G) (q:iN g c te ok ds E (yB m fr τ) G2 [] fun xs G3=>gw G3 (.lst xs) Q)
  (fin:∀ C s',CompEnd X pins σ H G Q C s2.heap.objs.size s'->Rr (.ref s2.heap.objs.size) C (.ok .next) s') :
  wpAny (model X.prog X.w) X.A (newList []) (fun acc LX=>wpAny (model X.prog X.w) X.A (newFunctionEnv scope X.env.globals (fM X.env scope.names []) [] X.env.qual none .none (some X.env)) (fun V4 JD =>
   E5 (model X.prog X.w) X.A (.compStart (.ListComp elt [⟨tg,iter,ifs,0⟩] scope pos) 0 (.ref it) acc { V4 with scope:=E3 scope X.env }) (Rr acc V4.locals) JD) E0 LX) E0 s2:=by
 have sz:a8=16777216:=cS;have uO:H2 s2.heap.objs.size=none:=I.inv.cD.fresh (aE _);have Tw:G2 s2.heap.objs.size=none:=I.ab.free uO;refine dg (wpAny_newFunctionEnv ow (by intro y hy; simp at hy) (fun qN NA Ny=>?_) Av);dsimp only at NA Ny ⊢;have I3:Inv X pins σ (upd H2 s2.heap.objs.size (.lst [])) { s2 with heap:=s2.heap.push { cls:=.type "list",data:=.seq ([]:List Value).toArray },toks:=s2.toks }:=I.inv.X7 (ys:=[]) .nil (cE _);generalize hs3:({ s2 with heap:=s2.heap.push { cls:=.type "list",data:=.seq ([]:List Value).toArray },toks:=s2.toks }:av)=s3 at I3;generalize VS:upd H2 s2.heap.objs.size (.lst [])=H3 at I3;have eH3:∀ b,b≠s2.heap.objs.size->H3 b=H2 b:=fun b hb=>by rw [<-VS,bL hb]
 have DV:s3.heap=s2.heap.push { cls:=.type "list",data:=.seq ([]:List Value).toArray }:=by rw [<-hs3]
 have UO:s3.heap.objs.size=s2.heap.objs.size+1:=by rw [DV,Hv]
 have NG:∀ b∈fp,b < s2.heap.objs.size:=fun b hb=>by
  obtain⟨o,e,_⟩:=T.obj _ _ OU b hb;exact aU e
 have VI:∀ b∈fp,mP X pins H3 b/\b < s3.heap.objs.size:=fun b hb=>by
  have hb2:=NG b hb;obtain⟨f0,f1⟩:=f2 b hb;exact⟨⟨by rw [eH3 b (bK hb2)]; exact f0,f1⟩,bN hb2 (by rw [UO]; exact Nat.le_succ _)⟩
 have Wv:(dF X N scope s3.heap.objs.size s3 H3 fp).Ok:=TK I3 ow Av ou (aE _) VI;have RJ:∀ b o,s3.heap.get? b=some o->qN.get? b=some o:=fun b o e=>by
  have hb:b < s3.heap.objs.size:=aU e;refine Ny.extBut b o ?_ (aJ _ ?_)
  ·rw [<-DV]; exact bK hb
  ·rw [<-DV]; exact e
 have YJ:∃ mm,qN.Ns s3.heap.objs.size mm:=⟨_,by rw [DV]; exact NA⟩;have I4:=QJ (tk:=s3.toks+([]:List (Str×Value)).length) I3 Wv ow ou hN YU YJ RJ;have Yd:Kp H2 H3:=by rw [<-VS]; exact .new uO
 have RS:kZ X.K H3 G2:=by rw [<-VS]; exact(Mv.Li I.ab uO).ab
 have mv3:Mv X.K H2 G2 H3 G2:=by rw [<-VS]; exact .Li I.ab uO
 have Wq:O0 X.K H3 (bg m none++fr.map fun i=>(σ[i]?).getD none) (yB m fr τ):=by
  refine⟨by unfold yB; rw [aG,aG,aB,aB,fb,fb],fun i d h2=>?_⟩;unfold yB at h2;by_cases hi:i < m
  ·rw [cO (by simpa using hi),kr] at h2;split at h2 <;> cases h2
  ·obtain⟨j,rfl⟩:∃ j,i=m+j:=⟨i - m,by lia⟩;rw [cz (by simp),fb,rn,bB] at h2;rw [cz (by simp),fb,rn,bB];cases hj:fr[j]? with
   | none=>rw [hj] at h2; cases h2
   | some k =>
    rw [hj] at h2;have NM:(τ[k]?).getD none=some d:=by simpa using h2
    have WI:τ[k]?=some (some d):=by
     cases qq:τ[k]? with
     | none=>rw [qq] at NM; cases NM
     | some o=>rw [qq] at NM; simp at NM; rw [NM]
    obtain⟨v,e1,e2⟩:=I.st.at' k d WI;exact⟨v,by simp [e1],e2.mono Yd⟩
 have hD3:H3 s2.heap.objs.size=some (.lst []):=by rw [<-VS,bY]
 have UN:tn 0 qN:=T.keep _ _ _ OU fun b hb o e=>RJ b o (by rw [DV]; exact aJ _ e);have L4:∀ {Hc:Hp},(∀ b∈fp,Hc b=none)->∀ b∈fp,mP (dF X N scope s3.heap.objs.size s3 H3 fp) [] Hc b:=fun hn b hb =>
  ⟨hn b hb,(Wv.WQ b hb).1,Wv.N1 b hb,.inl hb,fun x c e=>(Wv.WQ b hb).2 x c e,fun p hp=>absurd hp (by simp)⟩
 have neD:∀ b∈fp,b≠s2.heap.objs.size:=fun b hb=>bK (NG b hb);have loop:E5 (model X.prog X.w) X.A (.compLoop (.ListComp elt [⟨tg,iter,ifs,0⟩] scope pos) 0 (.ref it) (.ref s2.heap.objs.size) (dF X N scope s3.heap.objs.size s3 H3 fp).env) (Rr (.ref s2.heap.objs.size) s3.heap.objs.size)
   { s3 with heap:=qN,toks:=s3.toks+([]:List (Str×Value)).length }:=by
  refine B1 (fun n s'=>∃ i OS Hc LI Gc sd ub,I2 (dF X N scope s3.heap.objs.size s3 H3 fp) [] OS Hc LI Gc s'/\Gc s2.heap.objs.size=none/\Hc s2.heap.objs.size=some (.lst sd)/\bh X.K Hc sd ub/\ub.length<=i/\Mv X.K H2 G2 Hc Gc/\tn i s'.heap/\(∀ b∈fp,Hc b=none) /\
   n=ds.length - i/\i<=ds.length/\iN g c te ok (ds.drop i) E LI Gc ub fun xs G3=>gw G3 (.lst xs) Q) ?_ ds.length
   ⟨0,_,H3,_,G2,[],[],⟨I4,Wq,RS⟩,Tw,hD3,.nil,aE _,mv3,UN,fun b hb=>by rw [eH3 b (neD b hb)]; exact(f2 b hb).1,rfl,cE _,q⟩
  rintro n s4 ⟨i,OS,Hc,LI,Gc,sd,ub,Ic,gD,hD,rA,hA,mc,ZQ,frc,rfl,hle,wq⟩;have kpc:Kp H2 Hc:=mc.kp I.ab;by_cases x5:i < ds.length
  ·rw [gE x5] at wq;obtain⟨XD,wq⟩:=wq;obtain⟨go,yl⟩:=(wk i Hc Gc kpc Ic.ab XD).1 ds[i] (by simp [x5]);refine gB (T.item (dF X N scope s3.heap.objs.size s3 H3 fp) rfl rfl rfl hc i [] s4 OS Hc (fun _ _=>False) Ic.inv (L4 frc) ZQ go) ?_;rintro r s5 ⟨u,hr,h5⟩;subst hr;refine gB h5 ?_;rintro _ s6 ⟨x,H6,I6,r6,y6,Xk,fr6⟩;obtain⟨rd6,m6⟩:=yl x H6 y6;have I6':=I6.pinned (L4 fr6) (T.obj _ _ Xk);have J6:I2 (dF X N scope s3.heap.objs.size s3 H3 fp) ([]++pI fp s6.heap) OS H6 LI Gc s6:=⟨I6',Ic.st.mono (m6.kp Ic.ab),m6.ab⟩;have back:∀ {Xb:L2.St} {H9:Hp} {Wj:gZ} {G9:Gp} {s9:av} {aV:List V} {aD:List D},I2 (dF X N scope s3.heap.objs.size s3 H3 fp) ([]++pI fp s6.heap) Xb H9 Wj G9 s9->Mv X.K H2 G2 H9 G9->G9 s2.heap.objs.size=none->H9 s2.heap.objs.size=some (.lst aV)->bh X.K H9 aV aD->aD.length<=i+1 ->
     (iN g c te ok (ds.drop (i+1)) E Wj G9 aD fun xs G3=>gw G3 (.lst xs) Q)->∃ mm,mm < ds.length - i/\∃ i OS Hc LI Gc sd ub,I2 (dF X N scope s3.heap.objs.size s3 H3 fp) [] OS Hc LI Gc s9/\Gc s2.heap.objs.size=none/\Hc s2.heap.objs.size=some (.lst sd)/\bh X.K Hc sd ub/\ub.length<=i /\
      Mv X.K H2 G2 Hc Gc/\tn i s9.heap/\(∀ b∈fp,Hc b=none)/\mm=ds.length - i/\i<=ds.length/\iN g c te ok (ds.drop i) E LI Gc ub fun xs G3=>gw G3 (.lst xs) Q:=fun {Xb H9 Wj G9 s9 aV aD} I9 m9 g9 h9 r9 l9 n9=>by
    refine⟨ds.length - (i+1),by lia,i+1,Xb,H9,Wj,G9,aV,aD,⟨I9.inv.sE,I9.st,I9.ab⟩,g9,h9,r9,l9,m9,T.keep _ _ _ Xk fun b hb o e=>(I9.inv.pin (b,o) (c3 _ (c3 _ (nR hb e)))).1,fun b hb=>?_,rfl,x5,n9⟩;obtain⟨o,e,d⟩:=T.obj _ _ Xk b hb;exact(I9.inv.pin (b,o) (c3 _ (c3 _ (nR hb e)))).2.1
   have mc6:=mc.trans m6;have hD6:=m6.keep _ _ hD gD;refine gB (hg _ _ _ _ E _ s6 OS H6 LI Gc x ds[i] u _ (Lk.none Y7) J6 r6 rd6 wq) ?_;rintro _ s7 ⟨Lc,H7,Lb,G7,I7,m7,q7⟩;have WL:=m7.keep _ _ hD6.1 gD;have Z6:=mc6.trans m7;have ZU:=rA.mono ((m6.trans m7).kp Ic.ab);have VZ:∀ (H8:Hp) (G8:Gp) (s8:av),I2 (dF X N scope s3.heap.objs.size s3 H3 fp) ([]++pI fp s6.heap) Lc H8 Lb G8 s8->Mv X.K H7 G7 H8 G8->(te E Lb G8 fun y G9=>iN g c te ok (ds.drop (i+1)) E Lb G9 (ub++[y]) fun xs G3=>gw G3 (.lst xs) Q) ->
     wpAny (model X.prog X.w) X.A (eval elt (dF X N scope s3.heap.objs.size s3 H3 fp).env) (fun y JD=>wpAny (model X.prog X.w) X.A (call (.builtin "list.append") [.ref s2.heap.objs.size,y]) (fun _ LW=>∃ mm,mm < ds.length - i/\∃ i OS Hc LI Gc sd ub,I2 (dF X N scope s3.heap.objs.size s3 H3 fp) [] OS Hc LI Gc LW/\Gc s2.heap.objs.size=none/\Hc s2.heap.objs.size=some (.lst sd)/\bh X.K Hc sd ub/\ub.length<=i /\
      Mv X.K H2 G2 Hc Gc/\tn i LW.heap/\(∀ b∈fp,Hc b=none)/\mm=ds.length - i/\i<=ds.length/\iN g c te ok (ds.drop i) E LI Gc ub fun xs G3=>gw G3 (.lst xs) Q) (fun _ _=>False) JD) (fun _ _=>False) s8:=fun H8 G8 s8 I8 m8 q8=>by
    refine jh (he _ _ _ _) (Lk.none Y7) I8 q8 fun v H9 d9 G9 u9 s9 I9 m9 r9 rd9 q9=>?_;have X6:=m8.trans m9;have WK:=X6.keep _ _ WL.1 WL.2;have rA9:=ZU.mono (X6.kp I7.ab);have Z5:=Z6.trans X6;refine gB (z8 (X:=dF X N scope s3.heap.objs.size s3 H3 fp) _ s9 Lc H9 (.ref s2.heap.objs.size) [v] _ [u9] (fun _ H'=>H'=upd H9 s2.heap.objs.size (.lst (sd++[v]))) I9.inv rfl (.cons r9 .nil)
     ⟨_,sd,v,rfl,rfl,WK.1,by rw [rA.length,sz]; have:SZ=16777216:=rfl; lia,rfl⟩) ?_
    rintro _ s10 ⟨v10,H10,I10,_,e10⟩;subst e10;have Yc:Kp H9 (upd H9 s2.heap.objs.size (.lst (sd++[v]))):=.putL WK.1;have abA:kZ X.K (upd H9 s2.heap.objs.size (.lst (sd++[v]))) G9:=fun a g' e=>by
     have ne:a≠s2.heap.objs.size:=by rintro rfl; rw [WK.2] at e; cases e
     exact(I9.ab a g' e).mono Yc (bL ne)
    have mA:Mv X.K H2 G2 (upd H9 s2.heap.objs.size (.lst (sd++[v]))) G9:=⟨fun a o e n=>by
      have ne:a≠s2.heap.objs.size:=dD e uO;obtain⟨e1,e2⟩:=Z5.keep a o e n;exact⟨by rw [bL ne]; exact e1,e2⟩,fun a n=>by
      by_cases ha:a=s2.heap.objs.size
      ·rw [ha,bY]; simp
      ·rw [bL ha]; exact Z5.ly a n,abA⟩
    exact back ⟨I10,I9.st.mono Yc,abA⟩ mA WK.2 bY ((rA9.append (.cons rd9 .nil)).mono Yc) (by rw [aG,dq]; lia) q9
   cases hi s3.heap.objs.size s3 H3 fp with
   | none =>
    refine wpAny_tests_nil ?_;rw [if_pos rfl];exact VZ H7 G7 s7 I7 (.refl I7.ab) q7
   | some VN =>
    refine wpAny_tests_one (LU VN (Lk.none Y7) I7 q7 fun k H8 G8 s8 I8 m8 q8=>?_);cases k with
    | true =>
     rw [if_pos rfl] at q8 ⊢;exact VZ H8 G8 s8 I8 m8 q8
    | false =>
     rw [if_neg iK] at q8 ⊢;have hD8:=m8.keep _ _ WL.1 WL.2;exact back I8 (Z6.trans m8) hD8.2 hD8.1 (ZU.mono (m8.kp I7.ab)) (by lia) q8
  ·have hn:ds.length<=i:=by lia
   rw [kL hn] at wq;obtain⟨XD,qn⟩:=wq;have stop:=(wk i Hc Gc kpc Ic.ab XD).2 hn;refine gB (T.done (dF X N scope s3.heap.objs.size s3 H3 fp) rfl rfl rfl hc i [] s4 OS Hc (fun _ _=>False) Ic.inv (L4 frc) ZQ stop) ?_;rintro r s5 ⟨hr,I5⟩;subst hr;refine fin s3.heap.objs.size s5 ?_;obtain⟨mm,YK,_⟩:=I5.loc;have hC5:Hc s3.heap.objs.size=none:=I5.free;have I6:Inv X pins σ Hc s5:=by
    obtain⟨h5,g5,d5,t5,o5⟩:=s5;have eo:o5=s3.os:=I5.os;subst eo;exact I3.call (h':=h5) (g':=g5) (d':=d5) (t':=t5) (ch:=fp) I5.base I5.cD I5.bare fun b hb=>by
     obtain⟨⟨f0,f1,f2',f3,f4,f5⟩,hl⟩:=VI b hb;exact⟨f3,f1,f4,f5⟩
   have mvF:Mv X.K H2 G2 Hc (eL Gc s2.heap.objs.size (.lst ub)):=⟨fun a o e n=>by
     have ne:a≠s2.heap.objs.size:=dD e uO;obtain⟨e1,e2⟩:=mc.keep a o e n;exact⟨e1,by rw [dP ne]; exact e2⟩,mc.ly,fun a g' e=>by
     by_cases ha:a=s2.heap.objs.size
     ·subst ha;rw [aH] at e;cases e;exact⟨sd,hD,rA⟩
     ·rw [dP ha] at e;exact Ic.ab a g' e⟩
   exact⟨mm,Hc,_,I6,YK,I3.BB (aE _) hC5,m2.trans mvF,qn _ gD⟩
 have all:E5 (model X.prog X.w) X.A (.compStart (.ListComp elt [⟨tg,iter,ifs,0⟩] scope pos) 0 (.ref it) (.ref s2.heap.objs.size) (dF X N scope s3.heap.objs.size s3 H3 fp).env) (Rr (.ref s2.heap.objs.size) s3.heap.objs.size)
   { s3 with heap:=qN,toks:=s3.toks+([]:List (Str×Value)).length }:=codeAny_compStart_list loop (T.self _ 0 _ _ _ UN loop)
 subst hs3;exact all
end
end K2
end
section
namespace K2
open PySem PySem.Spec PyProof.Rows L2
section
variable {X:Cx} {N:List Str} {scope:Scope} {tg elt iter:Expr} {ifs:List Expr} {pos:Pos} {m:Nat} {fr:List Nat} {wi:Lm} {g:y0} {c:Option vJ} {te:gb}
structure yP(X:Cx)(N:List Str)(scope:Scope)(m:Nat)(fr:List Nat):Prop where
 cell:∀ y∈scope.names,y.2≠.cell
 kind:scope.kind=.function
 names:∀ y∈scope.names,y.2=.local->scope.names.lookup y.1=some .local
 free:∀ y∈scope.names,y.2=.free->X.env.kindOf y.1=some .cell
 len:N.length=m+fr.length
 at':∀ j i x,fr[j]?=some i->N[m+j]?=some x->X.N[i]?=some x/\X.env.scope.names.lookup x=some .cell/\(E3 scope X.env).names.lookup x=some .cell
theorem yP.closed{X:Cx}{N:List Str}{scope:Scope}{m:Nat}{fr:List Nat}(k:yP X N scope m fr){pins:List (Addr×Obj)}{σ:L2.St}{H:Hp}{s:av}(I:Inv X pins σ H s):closureFor scope X.env=pure (fM X.env scope.names []) :=
 zy fun y hy hf=>I.ok.has _ (.inl (k.free y hy hf))
theorem JW(hc:X.calm=true)(k:yP X N scope m fr)(hi:Lo X tg iter wi)(hg:∀ C s H fp,KR (dF X N scope C s H fp) tg g)(Tn:∀ C s H fp,T1 (dF X N scope C s H fp) ifs c)(he:∀ C s H fp,gy (dF X N scope C s H fp) elt te)
  (hs:autoParam (∀ x,mz iter X.env x=pure x) Ai._auto_1):gy X (.ListComp elt [⟨tg,iter,ifs,0⟩] scope pos) (iR m fr wi g c te):=by
 intro E pins s σ H τ G Q hE I h;rw [eval_ListComp];refine wpAny_comprehension_free (use:=none) rfl hs (k.closed I.inv) k.kind k.names (gB (hi E pins s σ H τ G _ hE I h) fun xv ft qN=>gB qN fun Rz CK Nx=>?_);obtain⟨it,fp,tn,J,H2,G2,ds,ok,e,lX,m2,T,OU,f2,wk,hz,q⟩:=Nx;subst e;refine AK (Rr:=fun acc C=>compPost (model X.prog X.w) X.A X.xe none (si X pins σ H G Q) acc C) hc k.cell k.kind k.free k.len k.at' hg Tn he (I.mv lX m2) m2 T OU f2 wk hz (fun _ _ z=>z) q ?_;rintro C s' ⟨mm,H',G',I',OY,Zc,mv,q'⟩;refine⟨mm,OY,fun h' RD=>?_⟩;obtain⟨f0,f1,_,f3,f4,f5⟩:=Zc;exact⟨.ref _,H',.ref _,G',I'.turned (t':=s'.toks) (fun b o hb e=>RD.extBut b o hb e) f0 f1 f3 f4 f5,mv,rfl,.ref _,q'⟩
theorem Dc{i:Nat}{y:Str}{py L7:Pos}(hN:X.N.Nodup)(Yp:X.N[i]?=some y)(hy:X.env.scope.names.lookup y=some .local)(hc:X.calm=true)(k:yP X N scope m fr)(hi:Lo X tg iter wi)(hg:∀ C s H fp,KR (dF X N scope C s H fp) tg g)
  (Tn:∀ C s H fp,T1 (dF X N scope C s H fp) ifs c) (he:∀ C s H fp,gy (dF X N scope C s H fp) elt te) (YB:autoParam (Ls (.ListComp elt [⟨tg,iter,ifs,0⟩] scope pos) (some (.Name y py)) L7.line X.env=pure true) Ar._auto_1)
  (hs:autoParam (∀ x,mz iter X.env x=pure x) Ai._auto_1):Hf X (.Assign [.Name y py] (.ListComp elt [⟨tg,iter,ifs,0⟩] scope pos) L7) (bM (iR m fr wi g c te) (aO i)):=by
 intro E pins s σ H τ G D hE I h;rw [exec_Assign_Name_used _ _ _ _ YB];refine ag (Cp (ag ?_));show wpAny _ X.A (do let _ ← comprehension (.ListComp elt [⟨tg,iter,ifs,0⟩] scope pos) scope X.env _ (newList []) false (eval iter X.env) (some (Hn (.Name y py) X.env))) _ _ s;refine ag (gB (wpAny_comprehension_free (use:=some (Hn (.Name y py) X.env)) (Q:=fun _ s'=>TZ X pins H G D .next s') rfl hs (k.closed I.inv) k.kind k.names (gB (hi E pins s σ H τ G _ hE I h) fun xv ft qN=>gB qN fun Rz CK Nx=>?_)) fun _ s' hq=>aA (aA hq));obtain⟨it,fp,tn,J,H2,G2,ds,ok,e,lX,m2,T,OU,f2,wk,hz,q⟩:=Nx;subst e;refine AK (Rr:=fun acc C=>compPost (model X.prog X.w) X.A X.xe (some (Hn (.Name y py) X.env)) (fun _ s'=>TZ X pins H G D .next s') acc C) hc k.cell k.kind k.free k.len k.at' hg Tn he (I.mv lX m2) m2 T OU f2 wk hz (fun _ _ z=>z) q ?_;rintro C s' ⟨mm,H',G',I',OY,Zc,mv,q'⟩;show wpAny (model X.prog X.w) X.A (Hn (.Name y py) X.env (.ref CK.heap.objs.size)) _ X.xe s';obtain⟨f0,f1,_,f3,f4,f5⟩:=Zc;refine wpAny_assign_Name (zK (v:=.ref CK.heap.objs.size) I' hN Yp (.inl hy) rfl (?_) (.inr hy));rintro s3 I3 ⟨a,hsb,ha⟩;have hCa:C≠a:=by
  rcases ha with rfl | ha
  ·exact f1
  ·exact fun e=>f4 y a ha e.symm
 refine⟨mm,OY.sameBut hsb hCa,fun h' RD=>?_⟩;exact⟨_,H',_,G',⟨I3.turned (t':=s3.toks) (fun b o hb e=>RD.extBut b o hb e) f0 f1 f3 f4 f5,(I.st.mono (mv.kp I.ab)).set i (.ref _),mv.ab⟩,mv,q'⟩
theorem cL{i:Nat}{u:Ca}{n:Nat}(h:∀ E ds τ G Q,u E ds τ G Q->ds.length=n):∀ E ds τ G Q,dN (aO i) u E ds τ G Q->ds.length=n+1 :=
 Ku h (fun _ _ _ _ _ _ q k=>k _ _ q) fun _ _ _ _ q=>q
theorem bH (i:Nat) {x:Str} {pos:Pos} (hN:autoParam (X.N[i]?=some x) Ar._auto_1) (hv:autoParam (WT X.env.scope x) Ao._auto_1) (hd:autoParam ((x == ("__debug__" : Str))=false) Ad._auto_1)
  (IS:autoParam ((x == ("__classdict__" : Str))=false) Ad._auto_1):gy X (.Name x pos) (aw i):=PR hN hv hd IS
theorem SI{body:List Stmt}{t2:gW}(h:yH X body t2){E:kX}(hE:Lk X E):Ut X body (fun D σ H=>∃ (τ:gZ) (G:Gp) (D2:kI),O0 X.K H σ τ/\kZ X.K H G/\t2 E D2 τ G /\
  (∀ jb H' oG G',Mv X.K H G H' G'->D2.nx oG G'->D.nx jb H')/\(∀ v H' d G',Mv X.K H G H' G'->ck X.K H' v d->D2.rt d G'->D.rt v H')/\(∀ τ G,¬ D2.bk τ G)/\(∀ τ G,¬ D2.ct τ G)):=by
 rintro pins s σ H D I ⟨τ,G,D2,st,ab,q,k1,k2,k3,k4⟩;refine gB (h E pins s σ H τ G D2 hE ⟨I,st,ab⟩ q) fun f s1 z=>?_;cases f with
 | next=>obtain⟨jb,H',oG,G',J,mv,z⟩:=z; exact⟨jb,H',J.inv,k1 jb H' oG G' mv z⟩
 | brk=>obtain⟨jb,H',oG,G',J,mv,z⟩:=z; exact(k3 _ _ z).elim
 | cont=>obtain⟨jb,H',oG,G',J,mv,z⟩:=z; exact(k4 _ _ z).elim
 | ret u=>obtain⟨v,jb,H',d,G',J,mv,r,rd,z⟩:=z; exact⟨v,jb,H',J,r,k2 v H' d G' mv rd z⟩
theorem L5{K:ai}{H:Hp}{Nn:List Str}{vs:List V}{ds:List D}(r:bh K H vs ds):O0 K H (L2.start Nn vs) (bD Nn.length ds):=by
 unfold L2.start bD;refine⟨by simp [r.length],fun i d h=>?_⟩;by_cases hi:i < ds.length
 ·rw [cO (by simpa using hi),bB] at h;cases hd:ds[i]? with
  | none=>rw [hd] at h; cases h
  | some d' =>
   rw [hd] at h;have e:d'=d:=by simpa using h
   subst e;obtain⟨v,h1,h2⟩:=r.get hd;refine⟨v,?_,h2⟩;rw [cO (by simpa [r.length] using hi),bB,h1]; rfl
 ·rw [cz (by simpa using hi),kr] at h;split at h <;> cases h
theorem Qs{P:bJ}{w:World}{K:ai}{mg:Str->Option Value}{base:Heap}{x qual:Str}{st:Stmt}{f:Addr}{fd:aC}{Nn ps:List Str}{k:Nat}{sp:lR}{rd:gW}(F:nu K x qual st f fd)(S:cA Nn ps (bc st))(len:∀ ds G Q E,sp ds G Q E->ds.length=ps.length)
  (hr:∀ ds G Q,sp ds G Q (fun _ _=>False)->rd (fun _ _=>False) (ends Q) (bD Nn.length ds) G)
  (hb:∀ (nB:Value) (A:dj) (outer:List Env) (s:av) (H:Hp) (E:XK),lO k (A.deeper (Cu qual (bc st) s.heap.objs.size f nB))->yH (Ep fD P w K mg base Nn qual (bc st) f nB A outer s H E).Ue (jB st) rd):fH P w K mg base fD (k+1) f fd ps (cG K sp):=by
 refine F.ok S ((by rintro vs H Q E ⟨ds,G,Q2,r,ab,q,_⟩; exact by rw [r.length]; exact len _ _ _ _ q)) ?_;rintro nB A outer s H vs Q E Vv ⟨ds,G,Q2,r,ab,q,kk⟩;refine⟨_,SI (hb nB A outer s H E Vv) (E:=fun _ _=>False) (Lk.none fun _ _ z=>z),?_⟩;exact⟨bD Nn.length ds,G,ends Q2,L5 r,ab,hr ds G Q2 q,fun jb H' oG G' mv z=>kk _ _ _ _ z mv .eh,fun v H' d G' mv Xr z=>kk _ _ _ _ z mv Xr,fun _ _ z=>z,fun _ _ z=>z⟩
noncomputable def Xq(scope sc:Scope):List (Str×qT):=scope.names.map fun (n,k)=>if (k == .free&&sc.kind == .function&&sc.names.lookup n == some .cell) then (n,.cell) else (n,k)
noncomputable def wj(N:List Str)(scope:Scope)(m:Nat)(fr:List Nat)(sc:Scope)(XN:List Str):Bool :=
 scope.names.all (fun y=>decide (y.2≠.cell))&&decide (scope.kind=.function)&&scope.names.all (fun y=>!decide (y.2=.local)||decide (scope.names.lookup y.1=some .local)) &&
 scope.names.all (fun y=>!decide (y.2=.free)||decide (sc.names.lookup y.1=some .cell))&&decide (N.length=m+fr.length) &&
 (ij fr.length).all (fun j=>match fr[j]?,N[m+j]? with
  | some i,some x=>decide (XN[i]?=some x)&&decide (sc.names.lookup x=some .cell)&&decide ((Xq scope sc).lookup x=some .cell)
  | _,_=>false)
theorem AM{sc:Scope}{XN:List Str}(Vu:X.env.scope=sc)(VQ:X.N=XN)(hb:wj N scope m fr sc XN=true):yP X N scope m fr:=by
 subst Vu VQ;unfold wj at hb;simp only [aI] at hb;obtain⟨⟨⟨⟨⟨h1,h2⟩,h3⟩,h4⟩,h5⟩,h6⟩:=hb;refine⟨fun y hy=>of_decide_eq_true (List.all_eq_true.mp h1 y hy),of_decide_eq_true h2,fun y hy hl=>?_,fun y hy hl=>?_,of_decide_eq_true h5,fun j i x e1 e2=>?_⟩
 ·have:=List.all_eq_true.mp h3 y hy;simp only [hl,decide_true,bQ,K9] at this;exact of_decide_eq_true this
 ·have:=List.all_eq_true.mp h4 y hy;simp only [hl,decide_true,bQ,K9] at this;exact of_decide_eq_true this
 ·have hj:j < fr.length:=(List.getElem?_eq_some_iff.mp e1).1;have:=List.all_eq_true.mp h6 j (List.mem_range.mpr hj);rw [e1,e2] at this;simp only [aI] at this;exact⟨of_decide_eq_true this.1.1,of_decide_eq_true this.1.2,of_decide_eq_true this.2⟩
theorem pJ(N:List Str){sc:Scope}{XN:List Str}(hi:Lo X tg iter wi)(hg:∀ C s H fp,KR (dF X N scope C s H fp) tg g)(Tn:∀ C s H fp,T1 (dF X N scope C s H fp) ifs c)(he:∀ C s H fp,gy (dF X N scope C s H fp) elt te)
  (Vu:autoParam (X.env.scope=sc) Ar._auto_1) (VQ:autoParam (X.N=XN) Ar._auto_1) (hb:autoParam (wj N scope m fr sc XN=true) Ak._auto_1) (hc:autoParam (X.calm=true) Ar._auto_1) (hs:autoParam (∀ x,mz iter X.env x=pure x) Ai._auto_1):gy X (.ListComp elt [⟨tg,iter,ifs,0⟩] scope pos) (iR m fr wi g c te) :=
 JW hc (AM Vu VQ hb) hi hg Tn he hs
theorem xn(N:List Str){sc:Scope}{XN:List Str}{i:Nat}{y:Str}{py L7:Pos}(hN:X.N.Nodup)(Yp:X.N[i]?=some y)(hy:X.env.scope.names.lookup y=some .local)(hi:Lo X tg iter wi)(hg:∀ C s H fp,KR (dF X N scope C s H fp) tg g)
  (Tn:∀ C s H fp,T1 (dF X N scope C s H fp) ifs c) (he:∀ C s H fp,gy (dF X N scope C s H fp) elt te) (Vu:autoParam (X.env.scope=sc) Ar._auto_1) (VQ:autoParam (X.N=XN) Ar._auto_1) (hb:autoParam (wj N scope m fr sc XN=true) Ak._auto_1) (hc:autoParam (X.calm=true) Ar._auto_1)
  (YB:autoParam (Ls (.ListComp elt [⟨tg,iter,ifs,0⟩] scope pos) (some (.Name y py)) L7.line X.env=pure true) Ar._auto_1) (hs:autoParam (∀ x,mz iter X.env x=pure x) Ai._auto_1) :
  Hf X (.Assign [.Name y py] (.ListComp elt [⟨tg,iter,ifs,0⟩] scope pos) L7) (bM (iR m fr wi g c te) (aO i)) :=
 Dc hN Yp hy hc (AM Vu VQ hb) hi hg Tn he YB hs
theorem J8{K:ai}{H:Hp}{a:Addr}{ns:List Int}(hO:Q4 H)(hS:qc K H a (ns.map V.int))(hl:ns.length<=63):cG K zL [.ref a] H (fun v _=>v=.bl true) fun _ _ _=>False:=by
 have hF:Us K H a (ns.map V.int):=by
  rcases hS with (h | ⟨o,h⟩) | h
  ·rcases hO a with z | ⟨o,xs,z⟩
   ·rw [z] at h; cases h
   ·rw [z] at h; cases h
  ·exact .inl ⟨o,h⟩
  ·exact .inr h
 refine⟨[.dR (ns.map D.int)],fun _=>none,fun d _=>d=.bl true,.cons (.dR hF (bh.Iq ns)) .nil,fun a g e=>(by cases e),⟨ns,rfl,hl,fun _=>rfl,fun _=>rfl⟩,fun d G' v H' e mv r=>?_⟩;subst e;cases r;rfl
theorem M0{l:AX}{q:bJ}{loose:List Str}{XP:(Str->Option Value)->Heap->Prop}{YP:World->Heap->Prop}{d:DefRec}{K:Params->ai}{k:Nat}{x:Str}(hn:l.most=some 63)(VL:d.params.defaults=[])(hr:lO k E6)
  (hY:∀ (w:World) (h:Heap),YP w h->(K w.params).In h)
  (F:∀ (w:World) (mg:Str->Option Value) (fa:Addr) (h:Heap),(K w.params).In h->h.Ns bP mg->mg d.name=some (.ref fa) ->
   ∃ fd:aC,(∀ (s:av) (u:Value),LG s fd ⟨[u],[]⟩ [(x,u)])/\∀ base:Heap,(K w.params).In base->base.Ns bP mg->fH l.prog w (K w.params) mg base fD k fa fd [x] (cG (K w.params) zL)) :
  PySem.W.WalkO q loose XP YP l.row.toRowW d [] (fun f vs=>Ho f vs) :=
 L2.Pc (n:=63) (k:=k) (x:=x) (CX:=fun _=>fD) (sp:=fun w=>cG (K w.params) zL) hn (by decide) VL hr hY F (fun _ _ _ _ hl hO hS=>J8 hO hS hl) fun _ _ _ _ _ z=>z
end
end K2
end
section
namespace K2
open PySem PySem.Spec PyProof.Rows L2
noncomputable def Ot:HO->Bool
 | .lst _=>true
 | .dK _=>true
 | .dT _=>true
 | .ext _=>true
 | _=>false
noncomputable def nq(h:Heap)(S:Addr->Bool)(H:Hp):Hp:=fun a=>match H a with
 | some u=>if (Ot u&&S a)=true then (match h.get? a with
  | some o=>some (.jl o u)
  | none=>some u) else some u
 | none=>none
section
variable {h:Heap} {S:Addr->Bool} {H:Hp} {a:Addr}
theorem Gq(n:∀ u,H a=some u->Ot u=false):nq h S H a=H a:=by
 unfold nq;cases e:H a with
 | none=>rfl
 | some u=>simp only [n u e,Hx,ar,if_false]
theorem yf(hs:S a=false):nq h S H a=H a:=by
 unfold nq;cases e:H a with
 | none=>rfl
 | some u=>simp only [hs,Hy,ar,if_false]
theorem tN{u:HO}{o:Obj}(hs:S a=true)(e:H a=some u)(hu:Ot u=true)(ho:h.get? a=some o):nq h S H a=some (.jl o u):=by
 unfold nq;simp only [e,hs,hu,Bool.and_self,if_true,ho]
theorem nk(e:H a=none):nq h S H a=none:=by unfold nq; rw [e]
theorem kS{u:HO}(e:H a=some u)(hu:Ot u=false):nq h S H a=some u:=by rw [Gq (fun v z=>by rw [e] at z; cases z; exact hu)]; exact e
theorem qw:Kp H (nq h S H):=⟨fun a xs e=>kS e rfl,fun a o u e=>kS e rfl⟩
end
section
variable {X:Cx} {pins:List (Addr×Obj)} {σ:L2.St} {H:Hp} {s:av} {G:Gp}
theorem Inv.freeze(I : Inv X pins σ H s)(S : Addr -> Bool) : Inv X pins σ (nq s.heap S H) s where
  ok := I.ok
  os := I.os
  bare := I.bare
  base := { keep := I.base.keep, slot := I.base.slot, there := I.base.there
            free := fun b o q n hx => nk (I.base.free b o q n hx)
            za := fun b xs q => kS (I.base.za b xs q) rfl
            ye := fun b o u q => kS (I.base.ye b o u q) rfl
            zc := fun b ps q => kS (I.base.zc b ps q) rfl
            zf := fun b x q => kS (I.base.zf b x q) rfl }
  loc := I.loc
  cell := I.cell
  free := nk I.free
  oy := fun x c e => nk (I.oy x c e)
  pin := fun p hp => let ⟨h1, h2, h3⟩ := I.pin p hp; ⟨h1, nk h2, h3⟩
  cD := fun a o q => by
    have st : ∀ u, H a = some u -> fB X.prog X.w (nq s.heap S H) s.heap a u := fun u e =>
      (I.cD a u e).ly (fun b v _ r => r) (fun b r => kS r rfl) (fun b xs r => kS r rfl)
    cases e : H a with
    | none => rw [nk e] at q; cases q
    | some u =>
      by_cases hc : Ot u = true
      · by_cases hs : S a = true
        · obtain⟨ob, ho⟩ := la (I.cD a _ e)
          rw [tN hs e hc ho] at q;cases q;exact⟨ho, st _ e⟩
        · rw [yf (by simpa using hs), e] at q
          cases q;exact st _ e
      · rw [kS e (by simpa using hc)] at q
        cases q;exact st _ e
  len := I.len
noncomputable def mT(R:Nat->Bool)(G:Gp):Addr->Bool:=fun a=>R a&&(G a).isSome
theorem AB(I:Inv X pins σ H s)(ab:kZ X.K H G)(R:Nat->Bool):Mv X.K H G (nq s.heap (mT R G) H) (zr R G) where
 keep:=fun a o e n=>by
  refine⟨by rw [yf (by simp [mT,n])]; exact e,?_⟩;unfold zr; split
  ·rfl
  ·exact n
 ly:=fun a n=>by
  cases q:G a with
  | none=>exact absurd q n
  | some g =>
   have t:=(ab a g q).tracked;cases e:H a with
   | none=>exact absurd e t
   | some u =>
    unfold nq;rw [e];dsimp only;split
    ·split <;> simp
    ·simp
 ab:=fun a g e=>by
  unfold zr at e;split at e
  ·cases e
  ·rename_i hr;exact(ab a g e).mono qw (yf (by simp [mT,hr]))
theorem NP(I:Inv X pins σ H s)(ab:kZ X.K H G){R:Nat->Bool}:∀ {d t:D} {v:V},Fz G R d t->ck X.K H v d->ck X.K (nq s.heap (mT R G) H) v t:=by
 intro d t v h;revert v;refine Fz.rec (motive_1:=fun d t _=>∀ {v:V},ck X.K H v d->ck X.K (nq s.heap (mT R G) H) v t)
  (motive_2:=fun ds ts _=>∀ {vs:List V},bh X.K H vs ds->bh X.K (nq s.heap (mT R G) H) vs ts)
  (motive_3:=fun ds ts _=>(∀ {vs:List (Key×V)},lh X.K H vs ds->lh X.K (nq s.heap (mT R G) H) vs ts)/\∀ {vs:List (List Key×V)},kY X.K H vs ds->kY X.K (nq s.heap (mT R G) H) vs ts)
  ?_ ?_ ?_ ?_ ?_ ?_ ?_ ?_ ?_ ?_ h
 ·intro d v r; exact r.mono qw
 ·intro ds ss _ ih v r;cases r with
  | tup h rs=>exact .tup (qw.tup _ _ h) (ih rs)
 ·intro ds ss _ ih v r;cases r with
  | dR h rs=>exact .dR (qw.Ua h) (ih rs)
 ·intro a ds ss g hr _ ih v r;cases r;obtain⟨vs,hv,rs⟩:=ab a _ g;obtain⟨ob,ho⟩:=la (I.cD a _ hv);exact .dR (.inl ⟨_,tN (by simp [mT,hr,g]) hv rfl ho⟩) (ih rs)
 ·intro a ds ss g hr _ ih v r;cases r;rcases ab a _ g with ⟨kv,hv,rs⟩ | ⟨kv,hv,rs⟩
  ·obtain⟨ob,ho⟩:=la (I.cD a _ hv);exact .oI (tN (by simp [mT,hr,g]) hv rfl ho) (ih.1 rs)
  ·obtain⟨ob,ho⟩:=la (I.cD a _ hv);exact .oH (tN (by simp [mT,hr,g]) hv rfl ho) (ih.2 rs)
 ·intro a kvs Rw g hr _ ek ih v r;cases r;obtain⟨xs,ks,vs,hv,rel,r1,r2⟩:=ab a _ g;obtain⟨ob,ho⟩:=la (I.cD a _ hv);have e2:(Rw.map fun p=>oq p.1)=kvs.map fun p=>oq p.1:=by
   have:=congrArg (List.map oq) ek;rw [bt,bt] at this;exact this.symm
  exact .ny (tN (by simp [mT,hr,g]) hv rfl ho) ⟨ek.symm.trans rel.1,rel.2⟩ (by rw [e2]; exact r1.mono qw) (ih r2)
 ·intro vs r; cases r; exact .nil
 ·intro d s ds ss _ _ i1 i2 vs r;cases r with
  | cons r rs=>exact .cons (i1 r) (i2 rs)
 ·exact⟨fun r=>by cases r; exact .nil,fun r=>by cases r; exact .nil⟩
 ·intro k d s ds ss _ _ i1 i2;exact⟨fun r=>by cases r with | cons r rs=>exact .cons (i1 r) (i2.1 rs),fun r=>by cases r with | cons r rs=>exact .cons (i1 r) (i2.2 rs)⟩
variable {e:Expr} {te:gb} {st:Stmt} {t:gW}
theorem bb(he:gy X e te):gy X e (dh te):=by
 intro E pins s σ H τ G Q hE I h;refine gB (he E pins s σ H τ G _ hE I h) ?_;rintro u s1 ⟨v,H1,d,G1,I1,m,r,rd,R,t,hf,q⟩;exact⟨v,_,t,_,Inv.freeze I1 _,m.trans (AB I1 m.ab R),r,NP I1 m.ab hf rd,q⟩
theorem Bg{i:Nat}(h1:Hf X st t):Hf X st (GS i t):=by
 intro E pins s σ H τ G D hE I h;refine gB (h1 E pins s σ H τ G _ hE I h) fun f s1 z=>?_;cases f with
 | next =>
  obtain⟨jb,H',oG,G',I',m,q⟩:=z;simp only at q;split at q
  ·rename_i d hd;obtain⟨R,t,hf,q⟩:=q;obtain⟨v,hv,rv⟩:=I'.st.at' i d hd;have a1:=(I'.st.mono (H':=nq s1.heap (mT R G') H') qw).set i (NP I'.inv I'.ab hf rv);have es:jb.set i (some v)=jb:=by
    have hi:i < jb.length:=(List.getElem?_eq_some_iff.mp hv).1;have e2:=(List.getElem?_eq_some_iff.mp hv).2;rw [<-e2]; exact OP hi
   rw [es] at a1;have m2:=AB I'.inv I'.ab R;exact⟨jb,_,_,_,⟨Inv.freeze I'.inv _,a1,m2.ab⟩,m.trans m2,q⟩
  ·exact q.elim
 | ret v=>exact z
 | brk=>exact z
 | cont=>exact z
end
end K2
end
section
namespace K2
open PySem PySem.Spec PyProof.Rows L2
theorem GZ:eC "len" = some (.builtin "len"):=by decide +kernel
theorem TU:eC "sum" = some (.builtin "sum"):=by decide +kernel
theorem AN:eC "sorted" = some (.builtin "sorted"):=by decide +kernel
theorem QS:eC "list" = some (.type "list"):=by decide +kernel
theorem OA:eC "tuple" = some (.type "tuple"):=by decide +kernel
theorem B4:eC "dict" = some (.type "dict"):=by decide +kernel
theorem TV:eC "int" = some (.type "int"):=by decide +kernel
theorem QT:eC "bool" = some (.type "bool"):=by decide +kernel
section
variable {X:Cx} {a b c e o:Expr} {es:List Expr} {ta tb tc te to:gb} {t:He} {pos p p2 apos jk:Pos} {x name:Str} {id T:String} {k:Nat} {f:Addr} {fd:aC} {ps:List Str} {sp:lR}
theorem aQ(F:fH X.prog X.w X.K X.mg X.base fD k f fd ps (cG X.K sp))(hr:lO k X.A)(hg:Gl X x)(hm:X.mg x=some (.ref f))(hk:kF X.K (.ref f)=true)(hb:Binds X.K fd ps [])
  (ha:KS X (e :: es) t) (Ks:autoParam ((x == ("__debug__" : Str))=false) Ad._auto_1) (he:autoParam (cU (e :: es) X.env=(false,eval e X.env) :: cU es X.env) Ar._auto_1) (Km:autoParam ((oU pos (cU es X.env)).any (·.1)=false) Ar._auto_1) :
  gy X (.Call (.Name x p) (e :: es) [] pos) (bC sp t):=MD F hr hg hm hk hb ha Ks he Km
end
end K2
end
section
namespace L2
open PySem PySem.Spec PyProof.Rows
section
variable {X:Cx} {pins:List (Addr×Obj)} {σ:St} {H:Hp} {s:av} {h':Heap}
theorem Inv.vZ{t':Nat}{fp:List Addr}(I:Inv X pins σ H s)(hf:∀ b∈fp,mP X pins H b)(k:∀ b o,b∉fp->s.heap.get? b=some o->h'.get? b=some o):Inv X pins σ H { s with heap:=h',toks:=t' }:=by
 have nt:∀ b u,H b=some u->b∉fp:=fun b u e z=>by rw [(hf b z).1] at e; cases e
 refine I.step (g':=s.gens) (d':=s.drawn) (ch:=fp) (fun b hb=>?_) (fun b o _ _ hc e _=>k b o hc e) (fun b o _ _ hc e _=>⟨o.slots,k b o hc e⟩) (fun _ _ _ _ n=>n)
  (fun b o hc e=>⟨o,k b o hc e⟩) (fun _ _ e=>e) (fun _ _ _ e=>e) (fun _ _ e=>e) (fun _ _ e=>e) (fun m hm=>?_) (fun b u e=>?_) I.bare
 ·obtain⟨f0,f1,f2,f3,f4,f5⟩:=hf b hb;exact⟨f3,f1,f4,f5⟩
 ·obtain⟨o,es,ep,ho,r⟩:=hm;exact⟨o,es,ep,k _ _ (fun z=>(hf _ z).2.1 rfl) ho,r⟩
 ·refine(I.cD b u e).ly (fun c v hc r=>k c v ?_ r) (fun _ z=>z) (fun _ _ z=>z);rcases hc with rfl | hc
  ·exact nt _ _ e
  ·exact nt _ _ hc
theorem Inv.A4{t':Nat}{fp:List Addr}{T:Addr}{vs:List V}(I:Inv X pins σ H s)(hf:∀ b∈fp,mP X pins H b)(k:∀ b o,b∉fp->s.heap.get? b=some o->h'.get? b=some o)(hT:s.heap.objs.size<=T)
  (new:fB X.prog X.w (upd H T (.tup vs)) h' T (.tup vs)):Inv X pins σ (upd H T (.tup vs)) { s with heap:=h',toks:=t' }:=by
 have hn:H T=none:=I.cD.fresh hT;have ht:∀ b o,s.heap.get? b=some o->b≠T:=fun b o e z=>by subst z; exact absurd (aU e) (Nat.not_lt.mpr hT)
 have nt:∀ b u,H b=some u->b∉fp:=fun b u e z=>by rw [(hf b z).1] at e; cases e
 have ne:∀ b u,H b=some u->b≠T:=fun b u e=>dD e hn;refine I.step (g':=s.gens) (d':=s.drawn) (ch:=fp) (fun b hb=>?_) (fun b o _ _ hc e _=>k b o hc e) (fun b o _ _ hc e _=>⟨o.slots,k b o hc e⟩) (fun b o _ e n=>by rw [bL (ht b o e)]; exact n)
  (fun b o hc e=>⟨o,k b o hc e⟩) (fun b xs e=>by rw [bL (ne _ _ e)]; exact e) (fun b o u e=>by rw [bL (ne _ _ e)]; exact e) (fun b ps e=>by rw [bL (ne _ _ e)]; exact e) (fun b ps e=>by rw [bL (ne _ _ e)]; exact e) (fun m hm=>?_) (fun b u e=>?_) I.bare
 ·obtain⟨f0,f1,f2,f3,f4,f5⟩:=hf b hb;exact⟨f3,f1,f4,f5⟩
 ·obtain⟨o,es,ep,ho,r⟩:=hm;exact⟨o,es,ep,k _ _ (fun z=>(hf _ z).2.1 rfl) ho,r⟩
 ·by_cases hb:b=T
  ·subst hb; rw [bY] at e; cases e; exact new
  ·rw [bL hb] at e;refine(I.cD b u e).ly (fun c v hc r=>k c v ?_ r) (fun c z=>by rw [bL (ne _ _ z)]; exact z) (fun c xs z=>by rw [bL (ne _ _ z)]; exact z);rcases hc with rfl | hc
   ·exact nt _ _ e
   ·exact nt _ _ hc
theorem mP.upd{b T:Addr}{o:HO}(h:mP X pins H b)(hb:b≠T):mP X pins (L2.upd H T o) b:=by
 obtain⟨f0,r⟩:=h;exact⟨by rw [bL hb]; exact f0,r⟩
end
end L2
namespace K2
open PySem PySem.Spec PyProof.Rows L2
section
variable {X:Cx} {elts:List Expr} {kk:Nat} {CI:Pos} {a b:Expr} {ta tb:gb} {pos p:Pos}
theorem TR:eC "zip" = some (.type "zip"):=by decide +kernel
end
end K2
end
section
namespace K2
open PySem PySem.Spec PyProof.Rows L2
section
variable {X:Cx} {o i a b:Expr} {to ti ta tb:gb} {pos p:Pos}
theorem iY(hu:X.A.units+64 < cLine)(ho:gy X o to)(hi:gy X i ti)
  (ha:autoParam (∀ v,Hn (.Subscript o i pos) X.env v=(do
   let ov ← Lw [v] (eval o X.env)
   let iv ← Lw [v,ov] (eval i X.env)
   standAt pos
   Lw [v,ov,iv] (setItem ov iv v)
   release [v,ov,iv] [])) Ai._auto_1):KR X (.Subscript o i pos) (kC to ti):=by
 intro E pins s σ H τ G w d u Q hE I r rd h;rw [ha];refine ag (eK (jh ho hE I h fun x H1 dx G1 ov s1 I1 m1 r1 jd q1=>?_));refine ag (eK (jh hi hE I1 q1 fun y H2 dy G2 iv s2 lX m2 r2 xc q2=>?_));refine ag (Cp (ag (eK ?_)));have EY:=m1.trans m2;have Ub:=rd.mono (EY.kp I.ab);have EW:=I.st.mono (EY.kp I.ab);have Xn:=jd.mono (m2.kp I1.ab);unfold wW at q2;split at q2
 ·rename_i l;cases Xn;cases r1;split at q2
  ·rename_i xs hg;obtain⟨vs,hv,rs⟩:=lX.ab.lst hg;split at q2
   ·rename_i k;cases xc;split at q2
    ·rename_i j hj;have m3:Mv X.K H2 G2 (upd H2 l (.lst (vs.set j w))) (eL G2 l (.lst (xs.set j d))):=.putL lX.ab hg hv (rs.set Ub j);refine gB (set_list pins s2 σ H2 (.ref l) (.int k) w _ _ _ (fun H3=>H3=upd H2 l (.lst (vs.set j w))) lX.inv rfl r2 r ⟨l,vs,k,j,rfl,rfl,hv,?_,rfl⟩) ?_
     ·rw [rs.length]; exact hj
     ·rintro _ s3 ⟨H3,I3,e3⟩;subst e3;exact wpAny_release ⟨σ,_,τ,_,⟨I3,EW.mono (m3.kp lX.ab),m3.ab⟩,EY.trans m3,q2⟩
    ·exact q2.elim
   ·exact q2.elim
  ·rename_i kvs hg;obtain⟨hk,hz,q⟩:=q2;obtain⟨H3,H4,I3,dp,m3⟩:=Oa lX.inv lX.ab hg hk hz xc Ub;exact KG (by lia) I3 dp r2 r fun s4 I4=>wpAny_release ⟨σ,H4,τ,_,⟨I4,EW.mono (m3.kp lX.ab),m3.ab⟩,EY.trans m3,q⟩
  ·exact q2.elim
 ·exact q2.elim
end
end K2
end
section
namespace L2
open PySem PySem.Spec PyProof.Rows
theorem sH{X:Cx}{pins:List (Addr×Obj)}{σ:St}{H:Hp}{s:av}{l b:Addr}{xs:List V}(I:Inv X pins σ H s)(hq:qc X.K H l xs)(hf:mP X pins H b):l≠b:=by
 rintro rfl;obtain⟨f0,f1,f2,f3,f4,f5⟩:=hf;rcases hq with (h | ⟨o,h⟩) | ⟨o,bS,n,h,_⟩
 ·rw [f0] at h; cases h
 ·rw [f0] at h; cases h
 ·have hb:=I.ok.mod.WC _ _ h;rcases f3 with f3 | f3
  ·exact I.ok.JY _ _ hb f3
  ·exact absurd (aU (I.ok.bs _ _ hb).1) (Nat.not_lt.mpr f3)
noncomputable def Itz(K:ai)(a b:Addr):It :=
  ⟨fun i H=>∃ xs x ys y,qc K H a xs/\xs[i]?=some x/\qc K H b ys/\ys[i]?=some y,
   fun i H v H'=>∃ T x y,v=.ref T/\H T=none/\H'=upd H T (.tup [x,y])/\(∀ xs,qc K H a xs->xs[i]?=some x)/\∀ ys,qc K H b ys->ys[i]?=some y,
   fun i H=>∃ xs ys,qc K H a xs/\qc K H b ys/\(xs.length<=i\/ys.length<=i)⟩
structure V9(z TI TO i1 i2 a b:Addr)(i:Nat)(h:Heap):Prop where
 hz:IsZip h z TI TO .none
 hI:IsPair h TI (.ref i1) (.ref i2)
 hO:∃ x y,IsPair h TO x y
 h1:h.IsListIter i1 a i
 h2:h.IsListIter i2 b i
theorem LR{P:bJ}{w:World}{K:ai}{elts:List Expr}{kk:Nat}{pos:Pos}(a b z TI TO i1 i2:Addr)(nd:[z,TI,TO,i1,i2].Nodup) :
  Turn P w K (.Tuple elts kk pos) (Itz K a b) [z,TI,TO,i1,i2] z (V9 z TI TO i1 i2 a b) where
 mem:=by simp
 obj:=fun i h st c hc=>by
  simp only [aY,dS,or_false] at hc;rcases hc with rfl | rfl | rfl | rfl | rfl
  ·exact⟨_,st.hz,fun v q=>by cases q⟩
  ·exact⟨_,st.hI,fun v q=>by cases q⟩
  ·obtain⟨x,y,h⟩:=st.hO; exact⟨_,h,fun v q=>by cases q⟩
  ·obtain⟨o,e,_,d⟩:=st.h1; exact⟨o,e,fun v q=>by rw [d] at q; cases q⟩
  ·obtain⟨o,e,_,d⟩:=st.h2; exact⟨o,e,fun v q=>by rw [d] at q; cases q⟩
 keep:=fun i h h' st k=>⟨k _ (by simp) _ st.hz,k _ (by simp) _ st.hI,let ⟨x,y,q⟩:=st.hO; ⟨x,y,k _ (by simp) _ q⟩,st.h1.at fun o q=>k _ (by simp) o q,st.h2.at fun o q=>k _ (by simp) o q⟩
 item:=by
  intro X hP hw hK hc i pins s σ H E I hf st hg;subst hP hw hK;obtain⟨xs,x,ys,y,RF,hx,RE,hy⟩:=hg;obtain⟨Vr,Wr,p1,hz1⟩:=I.list RF;obtain⟨uM,Md,p2,Yn⟩:=I.list RE;obtain⟨u1,WG,JL⟩:=Wr.get hx;obtain⟨u2,Yz,Mg⟩:=Md.get hy;obtain⟨xo,yo,hO⟩:=st.hO;have ap:∀ c∈[z,TI,TO,i1,i2],a≠c/\b≠c:=fun c hc=>⟨sH I RF (hf c hc),sH I RE (hf c hc)⟩;simp only [aN,aY,dS,or_false,not_or] at nd;obtain⟨⟨n1,n2,n3,n4⟩,⟨n5,n6,n7⟩,⟨n8,n9⟩,X3,_⟩:=nd;have Dz:ZipApart z TI TO i1 i2 a b:=⟨gf n1,gf n2,gf n3,gf n4,n5,n6,n7,n8,n9,X3,(ap z (by simp)).1,(ap TO (by simp)).1,(ap i1 (by simp)).1,(ap i2 (by simp)).1,(ap z (by simp)).2,(ap TO (by simp)).2,(ap i1 (by simp)).2,(ap i2 (by simp)).2⟩;have VR:H s.heap.objs.size=none:=I.cD.fresh (aE _);have inH:∀ c∈[z,TI,TO,i1,i2],c≠s.heap.objs.size:=fun c hc=>by
   simp only [aY,dS,or_false] at hc;rcases hc with rfl | rfl | rfl | rfl | rfl
   ·exact bK (aU st.hz)
   ·exact bK (aU st.hI)
   ·exact bK (aU hO)
   ·obtain⟨o,e,_⟩:=st.h1; exact bK (aU e)
   ·obtain⟨o,e,_⟩:=st.h2; exact bK (aU e)
  refine wpAny_pyNext_zip_item Dz st.hz st.hI hO st.h1 st.h2 p1.isList p2.isList (x:=u1) (y:=u2) (by simpa using WG) (by simpa using Yz) fun h' a1 a2 a3 a4 a5 a6 a7=>?_;refine⟨_,rfl,?_⟩;have k1:∀ c o,c∉[z,TI,TO,i1,i2]->s.heap.get? c=some o->h'.get? c=some o:=fun c o hc q =>
   a7 c o (fun e=>hc (by simp [e])) (fun e=>hc (by simp [e])) (fun e=>hc (by simp [e])) (fun e=>hc (by simp [e])) q
  have I1:Inv X pins σ (upd H s.heap.objs.size (.tup [x,y])) { s with heap:=h' } :=
   I.A4 (t':=s.toks) (fp:=[z,TI,TO,i1,i2]) hf k1 (aE _) ⟨by show 2<=a8; decide,[u1,u2],.cons JL (.cons Mg .nil),⟨_,a5,rfl,_,rfl⟩⟩
  refine wpAny_letOwnedTupleGo_zip (s:={ s with heap:=h' }) a1 fun h2 Yn IQ=>?_;have f1:∀ c∈[z,TI,TO,i1,i2],mP X pins (upd H s.heap.objs.size (.tup [x,y])) c:=fun c hc=>(hf c hc).upd (inH c hc);have I2:Inv X pins σ (upd H s.heap.objs.size (.tup [x,y])) { s with heap:=h2 } :=
   Inv.vZ (s:={ s with heap:=h' }) (t':=s.toks) (fp:=[z,TI,TO,i1,i2]) I1 f1 fun c o hc q=>(IQ.2 c (fun e=>hc (by simp [e]))).trans q
  have hI':IsPair h' TI (.ref i1) (.ref i2):=a7 TI _ (gf n1) n5 n6 n7 st.hI;refine⟨.ref s.heap.objs.size,_,I2,rfl,⟨_,x,y,rfl,VR,rfl,fun zs hs=>by rw [I.xV hs RF]; exact hx,fun zs hs=>by rw [I.xV hs RE]; exact hy⟩,⟨Yn,?_,⟨u1,u2,?_⟩,?_,?_⟩,fun c hc=>(f1 c hc).1⟩
  ·exact(IQ.2 TI (gf n1)).trans hI'
  ·exact(IQ.2 TO (gf n2)).trans a2
  ·exact a3.at fun o q=>(IQ.2 i1 (gf n3)).trans q
  ·exact a4.at fun o q=>(IQ.2 i2 (gf n4)).trans q
 done:=by
  intro X hP hw hK hc i pins s σ H E I hf st hg;subst hP hw hK;obtain⟨xs,ys,RF,RE,hx⟩:=hg;obtain⟨Vr,Wr,p1,hz1⟩:=I.list RF;obtain⟨uM,Md,p2,Yn⟩:=I.list RE;have hl1:=Wr.length;have Au:=Md.length;obtain⟨xo,yo,hO⟩:=st.hO;have ap:∀ c∈[z,TI,TO,i1,i2],a≠c/\b≠c:=fun c hc=>⟨sH I RF (hf c hc),sH I RE (hf c hc)⟩;simp only [aN,aY,dS,or_false,not_or] at nd;obtain⟨⟨n1,n2,n3,n4⟩,⟨n5,n6,n7⟩,⟨n8,n9⟩,X3,_⟩:=nd;have Dz:ZipApart z TI TO i1 i2 a b:=⟨gf n1,gf n2,gf n3,gf n4,n5,n6,n7,n8,n9,X3,(ap z (by simp)).1,(ap TO (by simp)).1,(ap i1 (by simp)).1,(ap i2 (by simp)).1,(ap z (by simp)).2,(ap TO (by simp)).2,(ap i1 (by simp)).2,(ap i2 (by simp)).2⟩;refine wpAny_pyNext_zip_end (I.ok.hd hc) Dz st.hz st.hI hO st.h1 st.h2 p1.isList p2.isList (by
   rcases hx with hx | hx
   ·left; simp; lia
   ·right; simp; lia) fun h' k1=>⟨rfl,?_⟩
  exact I.vZ (t':=s.toks) (fp:=[z,TI,TO,i1,i2]) hf fun c o hc q=>k1 c o (fun e=>hc (by simp [e])) (fun e=>hc (by simp [e])) (fun e=>hc (by simp [e])) (fun e=>hc (by simp [e])) q
 self:=fun A i s Q E st h=>wpAny_pyIter_zip st.hz h
end L2
namespace K2
open PySem PySem.Spec PyProof.Rows L2
section
variable {X:Cx} {elts:List Expr} {kk:Nat} {CI:Pos} {a b:Expr} {ta tb:gb} {pos p:Pos}
theorem DH{pins:List (Addr×Obj)}{s:av}{σ:L2.St}{H:Hp}{G:Gp}{x:V}{d:D}{v:Value}{ds:List D}{ok:Gp->Prop}(I:Inv X pins σ H s)(ab:kZ X.K H G)(rx:RelV x v)(rd:ck X.K H x d)(hi:tu d G=some (ds,ok)) :
  ∃ l vs,v=.ref l/\qc X.K H l vs/\bh X.K H vs ds/\∀ H2 G2,Kp H H2->kZ X.K H2 G2->ok G2->∃ ws,qc X.K H2 l ws/\bh X.K H2 ws ds:=by
 cases rd with
 | dR hq rs=>cases hi; cases rx; exact⟨_,_,rfl,hq.sq,rs,fun H2 G2 k ab _=>⟨_,(k.Ua hq).sq,rs.mono k⟩⟩
 | ref l =>
  unfold tu at hi;dsimp only at hi;cases hg:G l with
  | none=>rw [hg] at hi; cases hi
  | some gg =>
   rw [hg] at hi;cases gg with
   | lst zs =>
    cases hi;cases rx;obtain⟨vs,hv,rs⟩:=ab.lst hg;refine⟨_,_,rfl,.of hv,rs,fun H2 G2 k ab o=>?_⟩;obtain⟨ws,hw,qJ⟩:=ab.lst o;exact⟨ws,.of hw,qJ⟩
   | ins _ _=>cases hi
   | qP _=>cases hi
   | fZ _=>cases hi
 | _=>cases hi
theorem Ij (hg:Gl X "zip") (hm:X.mg "zip" = none) (ha:gy X a ta) (hb:gy X b tb) (hs:autoParam (cU [a,b] X.env=[(false,eval a X.env),(false,eval b X.env)]) Ar._auto_1) (IQ:autoParam (cU [b] X.env=[(false,eval b X.env)]) Ar._auto_1) :
  Lo X (.Tuple elts kk CI) (.Call (.Name "zip" p) [a,b] [] pos) (Nw ta tb):=by
 intro E pins s σ H τ G R hE I h;have hA:KS X [a,b] (ay ta (ay tb bq)):=ah ha (ah hb aL IQ) (by rw [hs,IQ]);refine Call_ (rJ I.inv hg hm TR (g7 (Fo hA pos hE I (R:=XC fun x y G1=>rK x y G1 R) h fun vs H1 ds G1 us s1 I1 m1 r1 jd q1=>?_) (by rw [hs,IQ]) (by rw [IQ]; rfl)))
 match ds,q1 with
 | [x,y],q1 =>
  change rK x y G1 R at q1;obtain⟨w1,w2,rfl,CV,Pw⟩:=jd.two;obtain⟨u1,u2,rfl,JL,Mg⟩:=vals2 r1;unfold rK at q1;split at q1
  ·rename_i xs k1 ys k2 e1 e2;obtain⟨l1,v1,rfl,RF,rs1,st1⟩:=DH I1.inv I1.ab JL CV e1;obtain⟨l2,v2,rfl,RE,HS,OU⟩:=DH I1.inv I1.ab Mg Pw e2;obtain⟨Vr,Wr,pl1,_⟩:=I1.inv.list RF;obtain⟨uM,Md,pl2,_⟩:=I1.inv.list RE;refine call_zip_2 pl1.isList pl2.isList fun h' z1 z2 z3 z4 z5 z6 z7=>?_;refine wpAny_pyIter_zip z1 ?_;refine⟨_,[s1.heap.objs.size+4,s1.heap.objs.size+2,s1.heap.objs.size+3,s1.heap.objs.size,s1.heap.objs.size+1],_,_,H1,G1,nI xs ys,_,rfl,I1.inv.kept (t':=s1.toks) z7,m1,
    LR l1 l2 _ _ _ _ _ (by simp),⟨z1,z2,⟨_,_,z3⟩,z4,z5⟩,fun c hc=>?_,fun i H2 G2 k ab o=>?_,q1⟩
   ·have RM:s1.heap.objs.size<=c:=by
     simp only [aY,dS,or_false] at hc;rcases hc with rfl | rfl | rfl | rfl | rfl
     ·exact su _ _
     ·exact su _ _
     ·exact su _ _
     ·exact aE _
     ·exact su _ _
    exact I1.inv.BB RM (I1.inv.cD.fresh RM)
   ·obtain⟨UJ,Yw,jd⟩:=st1 H2 G2 k ab o.1;obtain⟨Xg,WE,xc⟩:=OU H2 G2 k ab o.2;refine⟨fun d hd=>?_,fun hl=>⟨UJ,Xg,Yw,WE,?_⟩⟩
    ·rw [CD] at hd;cases hx:xs[i]? with
     | none=>rw [hx] at hd; cases hd
     | some x' =>
      cases hy:ys[i]? with
      | none=>rw [hx,hy] at hd; cases hd
      | some y' =>
       rw [hx,hy] at hd;have ed:D.tup [x',y']=d:=by simpa using hd
       subst ed;obtain⟨vx,hvx,rx⟩:=jd.get hx;obtain⟨vy,hvy,ry⟩:=xc.get hy;refine⟨⟨UJ,vx,Xg,vy,Yw,hvx,WE,hvy⟩,?_⟩;rintro v H3 ⟨T,px,py,ex,hT,e3,hx3,hy3⟩;subst ex e3;have q1:=hx3 UJ Yw;have q2:=hy3 Xg WE;rw [hvx] at q1;rw [hvy] at q2;cases q1; cases q2;exact⟨.tup bY (.cons (rx.mono (.new hT)) (.cons (ry.mono (.new hT)) .nil)),.Li ab hT⟩
    ·rw [CC] at hl;rw [jd.length,xc.length];lia
  ·exact q1.elim
 | [],q1=>exact q1.elim
 | [_],q1=>exact q1.elim
 | _ :: _ :: _ :: _,q1=>exact q1.elim
end
end K2
end
section
namespace K2
open PySem PySem.W PyProof.Rows
noncomputable def gR{α:Type}(lt:Nat->Nat->Bool):KasT α->α
 | .ret a=>a
 | .ask i j k=>gR lt (k (lt i j))
theorem k8{α β:Type}(lt:Nat->Nat->Bool)(f:α->KasT β):∀ t:KasT α,gR lt (t.bind f)=gR lt (f (gR lt t))
 | .ret _=>rfl
 | .ask i j k=>k8 lt f (k (lt i j))
noncomputable abbrev gA(p:Array Nat)(k:Nat):Nat:=p.getD k 0
theorem Ay(p:Array Nat)(k:Nat):gA p k=(p[k]?).getD 0:=by
 unfold gA; rw [Array.getD_eq_getD_getElem?]
structure KP(lt:Nat->Nat->Bool):Prop where
 asymm:∀ i j,lt i j=true->lt j i=false
 trans:∀ i j k,lt j i=false->lt k j=false->lt k i=false
theorem KP.refl{lt:Nat->Nat->Bool}(w:KP lt)(i:Nat):lt i i=false:=by
 cases h:lt i i with
 | false=>rfl
 | true=>rw [w.asymm _ _ h] at h; cases h
noncomputable def Up(lt:Nat->Nat->Bool)(p:Array Nat)(m:Nat):Prop:=∀ i j,i<=j->j < m->lt (gA p j) (gA p i)=false
noncomputable def Dn(lt:Nat->Nat->Bool)(p:Array Nat)(m:Nat):Prop:=∀ i j,i<=j->j < m->lt (gA p i) (gA p j)=false
section
variable {lt:Nat->Nat->Bool}
theorem Up.more(w:KP lt){p:Array Nat}{n m:Nat}(h1:1<=n)(h:Up lt p n)(hs:∀ k,n<=k->k < m->lt (gA p k) (gA p (k - 1))=false):Up lt p m:=by
 intro i j Ko hjm;induction j with
 | zero =>
  have:i=0:=by lia
  subst this; exact w.refl _
 | succ j ih =>
  by_cases hj:j+1 < n
  ·exact h i (j+1) Ko hj
  ·by_cases e:i=j+1
   ·subst e; exact w.refl _
   ·have h1:=ih (by lia) (by lia);have h2:=hs (j+1) (by lia) hjm;exact w.trans _ _ _ h1 h2
theorem HQ(p:Array Nat):∀ (f n:Nat),n<=gR lt (oT p f n)/\gR lt (oT p f n)<=n+f/\(∀ k,n<=k->k < gR lt (oT p f n)->lt (gA p k) (gA p (k - 1))=false) /\
  (gR lt (oT p f n) < n+f->lt (gA p (gR lt (oT p f n))) (gA p (gR lt (oT p f n) - 1))=true):=by
 intro f;induction f with
 | zero=>intro n; exact⟨aE _,aE _,fun k h1 h2=>absurd (show k < n from h2) (by lia),fun h=>absurd (show n < n+0 from h) (by lia)⟩
 | succ f ih =>
  intro n;have e:gR lt (oT p (f+1) n)=if lt (gA p n) (gA p (n - 1))=true then n else gR lt (oT p f (n+1)):=by
   show gR lt (if lt (gA p n) (gA p (n - 1))=true then uv n else oT p f (n+1))=_;split <;> rfl
  rw [e];by_cases c:lt (gA p n) (gA p (n - 1))=true
  ·rw [if_pos c];exact⟨aE _,by lia,fun k h1 h2=>absurd h2 (by lia),fun _=>c⟩
  ·rw [if_neg c];obtain⟨h1,h2,h3,h4⟩:=ih (n+1);refine⟨by lia,by lia,fun k k1 k2=>?_,fun h=>h4 (by lia)⟩;by_cases e:k=n
   ·subst e; simpa using c
   ·exact h3 k (by lia) k2
theorem gQ{p:Array Nat}{i j:Nat}(hj:j<=p.size)(k:Nat):gA (gu p i j) k=if i<=k/\k < j then gA p (i+j - 1 - k) else gA p k:=by
 rw [Ay,gu,getElem?_mirror_all hj];split <;> rw [Ay]
theorem lC(p:Array Nat)(i j:Nat):(gu p i j).size=p.size:=mirror_size _ _ _ _
theorem jv(p:Array Nat)(i j:Nat):(gu p i j).Perm p:=mirror_perm _ _ _ _
theorem Dn.rev{p:Array Nat}{a n:Nat}(w:KP lt)(hn:n<=p.size)(h:Dn lt p n)(he:∀ k,a<=k->k < n->lt (gA p (n - 1)) (gA p k)=false):Dn lt (gu p a n) n:=by
 intro i j Ko VF;rw [gQ hn,gQ hn];by_cases hi:a<=i
 ·rw [if_pos ⟨hi,by lia⟩,if_pos ⟨by lia,VF⟩];exact w.trans _ _ _ (he (a+n - 1 - j) (by lia) (by lia)) (h (a+n - 1 - i) (n - 1) (by lia) (by lia))
 ·rw [if_neg (by lia)];by_cases hj:a<=j
  ·rw [if_pos ⟨hj,VF⟩];exact h i (a+n - 1 - j) (by lia) (by lia)
  ·rw [if_neg (by lia)];exact h i j Ko VF
noncomputable def Eqs(lt:Nat->Nat->Bool)(p:Array Nat)(n q:Nat):Prop:=q+1<=n/\∀ k,n - (q+1)<=k->k < n->lt (gA p (n - 1)) (gA p k)=false
theorem Dn.one(w:KP lt){p:Array Nat}{n:Nat}(h1:1<=n)(h:Dn lt p n)(hc:lt (gA p (n - 1)) (gA p n)=false):Dn lt p (n+1):=by
 intro i j Ko hj;by_cases e:j=n
 ·subst e;by_cases e2:i=j
  ·subst e2; exact w.refl _
  ·exact w.trans _ _ _ hc (h i (j - 1) (by lia) (by lia))
 ·exact h i j Ko (by lia)
theorem Mf(w:KP lt):∀ (f:Nat) (p:Array Nat) (n q:Nat),n+f<=p.size->Dn lt p n->Eqs lt p n q->∃ p' n' q',gR lt (ko f p n q)=(p',n',q')/\p'.Perm p/\p'.size=p.size/\n<=n'/\n'<=n+f/\Dn lt p' n'/\Eqs lt p' n' q':=by
 intro f;induction f with
 | zero=>intro p n q _ hd he; exact⟨p,n,q,rfl,lQ _,rfl,aE _,aE _,hd,he⟩
 | succ f ih =>
  intro p n q hs hd he;have h1:1<=n:=by have:=he.1; lia
  have e:gR lt (ko (f+1) p n q)=if lt (gA p n) (gA p (n - 1))=true then (if q > 0 then gR lt (ko f (gu p (n - (q+1)) n) (n+1) 0) else gR lt (ko f p (n+1) 0))
    else if lt (gA p (n - 1)) (gA p n)=true then (p,n,q) else gR lt (ko f p (n+1) (q+1)):=by
   show gR lt (if lt (gA p n) (gA p (n - 1))=true then (if q > 0 then ko f (gu p (n - (q+1)) n) (n+1) 0 else ko f p (n+1) 0) else .ask (gA p (n - 1)) (gA p n) fun d=>if d=true then .ret (p,n,q) else ko f p (n+1) (q+1))=_;split
   ·split <;> rfl
   ·show gR lt (if lt (gA p (n - 1)) (gA p n)=true then uv (p,n,q) else ko f p (n+1) (q+1))=_;split <;> rfl
  rw [e];by_cases c:lt (gA p n) (gA p (n - 1))=true
  ·rw [if_pos c];have ca:=w.asymm _ _ c;by_cases hq:q > 0
   ·rw [if_pos hq];have d1:Dn lt (gu p (n - (q+1)) n) n:=hd.rev w (by lia) he.2;have en:gA (gu p (n - (q+1)) n) n=gA p n:=by rw [gQ (by lia),if_neg (by lia)]
    have ca':lt (gA (gu p (n - (q+1)) n) (n - 1)) (gA (gu p (n - (q+1)) n) n)=false:=by
     rw [en,gQ (by lia)];split
     ·-- an item of Xi Wn is above p n
      exact w.trans _ _ _ ca (hd _ (n - 1) (by lia) (by lia))
     ·exact ca
    obtain⟨p',n',q',z,h2,h3,h4,h5,h6,h7⟩:=ih (gu p (n - (q+1)) n) (n+1) 0 (by rw [lC]; lia) (d1.one w h1 ca') ⟨by lia,fun k k1 k2=>by
     have:k=n:=by lia
     subst this; exact w.refl _⟩
    exact⟨p',n',q',z,h2.trans (jv _ _ _),h3.trans (lC _ _ _),by lia,by lia,h6,h7⟩
   ·rw [if_neg hq];obtain⟨p',n',q',z,h2,h3,h4,h5,h6,h7⟩:=ih p (n+1) 0 (by lia) (hd.one w h1 ca) ⟨by lia,fun k k1 k2=>by
     have:k=n:=by lia
     subst this; exact w.refl _⟩
    exact⟨p',n',q',z,h2,h3,by lia,by lia,h6,h7⟩
  ·rw [if_neg c];have c':lt (gA p n) (gA p (n - 1))=false:=by simpa using c
   by_cases d:lt (gA p (n - 1)) (gA p n)=true
   ·rw [if_pos d];exact⟨p,n,q,rfl,lQ _,rfl,aE _,by lia,hd,he⟩
   ·rw [if_neg d];have d':lt (gA p (n - 1)) (gA p n)=false:=by simpa using d
    obtain⟨p',n',q',z,h2,h3,h4,h5,h6,h7⟩:=ih p (n+1) (q+1) (by lia) (hd.one w h1 d') ⟨by have:=he.1; lia,fun k k1 k2=>by
     rw [Nat.add_sub_cancel];by_cases e:k=n
     ·subst e; exact w.refl _
     ·exact w.trans _ _ _ (he.2 k (by lia) (by lia)) c'⟩
    exact⟨p',n',q',z,h2,h3,by lia,by lia,h6,h7⟩
theorem Dn.up{p:Array Nat}{n:Nat}(hn:n<=p.size)(h:Dn lt p n):Up lt (gu p 0 n) n:=by
 intro i j Ko VF;rw [gQ hn,gQ hn,if_pos ⟨by lia,VF⟩,if_pos ⟨by lia,by lia⟩];exact h _ _ (by lia) (by lia)
theorem CW(w:KP lt){p:Array Nat}{n nrem:Nat}(h1:1<=n)(hn:n<=nrem)(hs:nrem<=p.size)(h:Dn lt p n):∃ p' m,gR lt (Lv n nrem p)=(m,p')/\p'.Perm p/\p'.size=p.size/\n<=m/\m<=nrem/\Up lt p' m:=by
 obtain⟨a1,a2,a3,_⟩:=HQ (lt:=lt) (gu p 0 n) (nrem - n) n;refine⟨gu p 0 n,gR lt (oT (gu p 0 n) (nrem - n) n),by rw [Lv,k8]; rfl,jv _ _ _,lC _ _ _,a1,by lia,?_⟩;exact(h.up (by lia)).more w h1 a3
theorem sP(w:KP lt){p:Array Nat}{n nrem:Nat}(h1:1<=n)(hn:n < nrem)(hs:nrem<=p.size)(h:Dn lt p n)(hc:lt (gA p (n - 1)) (gA p n)=false) :
  ∃ p' m,gR lt (wC n nrem p)=(m,p')/\p'.Perm p/\p'.size=p.size/\n<=m/\m<=nrem/\Up lt p' m:=by
 obtain⟨p1,n1,q1,z,z2,z3,z4,z5,z6,z7⟩:=Mf w (nrem - (n+1)) p (n+1) 0 (by lia) (h.one w h1 hc) ⟨by lia,fun k k1 k2=>by
  have:k=n:=by lia
  subst this; exact w.refl _⟩
 rw [wC,k8,z];show ∃ p' m,gR lt (if q1 > 0 then Lv n1 nrem (gu p1 (n1 - (q1+1)) n1) else Lv n1 nrem p1)=(m,p')/\_;by_cases hq:q1 > 0
 ·rw [if_pos hq];obtain⟨p',m,y1,y2,y3,y4,y5,y6⟩:=CW (nrem:=nrem) w (p:=gu p1 (n1 - (q1+1)) n1) (by lia) (by lia) (by rw [lC]; lia) (z6.rev w (by lia) z7.2);exact⟨p',m,y1,(y2.trans (jv _ _ _)).trans z2,(y3.trans (lC _ _ _)).trans z3,by lia,y5,y6⟩
 ·rw [if_neg hq];obtain⟨p',m,y1,y2,y3,y4,y5,y6⟩:=CW (nrem:=nrem) w (p:=p1) (by lia) (by lia) (by lia) z6;exact⟨p',m,y1,y2.trans z2,y3.trans z3,by lia,y5,y6⟩
theorem JK(w:KP lt){p:Array Nat}{nrem:Nat}(h1:1<=nrem)(hs:nrem<=p.size):∃ p' m,gR lt (kas_count nrem p)=(m,p')/\p'.Perm p/\p'.size=p.size/\1<=m/\m<=nrem/\Up lt p' m:=by
 obtain⟨a1,a2,a3,a4⟩:=HQ (lt:=lt) p (nrem - 1) 1;rw [kas_count,k8];generalize gR lt (oT p (nrem - 1) 1)=n at a1 a2 a3 a4;have u1:Up lt p 1:=fun i j Ko hj=>by
  have:i=j:=by lia
  subst this; exact w.refl _
 have up:Up lt p n:=u1.more w (aE _) a3;by_cases e:n=nrem
 ·subst e;rw [if_pos (by simp)];exact⟨p,n,rfl,lQ _,rfl,a1,aE _,up⟩
 ·rw [if_neg (by simpa using e)];have hb:=a4 (by lia);by_cases h2:n > 1
  ·rw [if_pos h2];show ∃ p' m,gR lt (if lt (gA p 0) (gA p (n - 1))=true then uv (n,p) else wC n nrem (gu p 0 n))=(m,p')/\_;by_cases c:lt (gA p 0) (gA p (n - 1))=true
   ·rw [if_pos c];exact⟨p,n,rfl,lQ _,rfl,a1,by lia,up⟩
   ·rw [if_neg c];have c':lt (gA p 0) (gA p (n - 1))=false:=by simpa using c
    have all:∀ i j,i < n->j < n->lt (gA p i) (gA p j)=false:=fun i j hi hj =>
     w.trans _ _ _ (w.trans _ _ _ (up j (n - 1) (by lia) (by lia)) c') (up 0 i (by lia) hi)
    have d1:Dn lt (gu p 0 n) n:=fun i j Ko hj=>by
     rw [gQ (by lia),gQ (by lia),if_pos ⟨by lia,by lia⟩,if_pos ⟨by lia,hj⟩];exact all _ _ (by lia) (by lia)
    have hl:lt (gA (gu p 0 n) (n - 1)) (gA (gu p 0 n) n)=false:=by
     rw [gQ (by lia),gQ (by lia),if_pos ⟨by lia,by lia⟩,if_neg (by lia)];exact w.trans _ _ _ (w.asymm _ _ hb) (all _ _ (by lia) (by lia))
    obtain⟨p',m,y1,y2,y3,y4,y5,y6⟩:=sP (nrem:=nrem) w (p:=gu p 0 n) a1 (by lia) (by rw [lC]; lia) d1 hl;exact⟨p',m,y1,y2.trans (jv _ _ _),y3.trans (lC _ _ _),by lia,y5,y6⟩
  ·rw [if_neg h2];have e1:n=1:=by lia
   subst e1;have d1:Dn lt p 1:=fun i j Ko hj=>by
    have:i=j:=by lia
    subst this; exact w.refl _
   obtain⟨p',m,y1,y2,y3,y4,y5,y6⟩:=sP (nrem:=nrem) w (p:=p) (aE _) (by lia) hs d1 (w.asymm _ _ hb);exact⟨p',m,y1,y2,y3,by lia,y5,y6⟩
theorem JJ(w:KP lt){p:Array Nat}{k:Nat}:∀ (f l r:Nat),l<=r->r<=k->r - l<=f->Up lt p k->(∀ i,i < l->lt (gA p k) (gA p i)=false)->(∀ i,r<=i->i < k->lt (gA p k) (gA p i)=true) ->
  ∃ m,gR lt (jo p k f l r)=m/\m<=k/\(∀ i,i < m->lt (gA p k) (gA p i)=false)/\(∀ i,m<=i->i < k->lt (gA p k) (gA p i)=true):=by
 intro f;induction f with
 | zero =>
  intro l r hlr WH hf up h1 h2;have:l=r:=by lia
  subst this;exact⟨l,rfl,WH,h1,h2⟩
 | succ f ih =>
  intro l r hlr WH hf up h1 h2;have e:gR lt (jo p k (f+1) l r)=if l>=r then l else if lt (gA p k) (gA p ((l+r) / 2))=true then gR lt (jo p k f l ((l+r) / 2)) else gR lt (jo p k f ((l+r) / 2+1) r):=by
   show gR lt (if l>=r then uv l else .ask (gA p k) (gA p ((l+r) / 2)) fun c=>if c=true then jo p k f l ((l+r) / 2) else jo p k f ((l+r) / 2+1) r)=_;split
   ·rfl
   ·show gR lt (if lt (gA p k) (gA p ((l+r) / 2))=true then jo p k f l ((l+r) / 2) else jo p k f ((l+r) / 2+1) r)=_;split <;> rfl
  rw [e];by_cases c:l>=r
  ·rw [if_pos c];have:l=r:=by lia
   subst this;exact⟨l,rfl,WH,h1,h2⟩
  ·rw [if_neg c];by_cases d:lt (gA p k) (gA p ((l+r) / 2))=true
   ·rw [if_pos d];refine ih l ((l+r) / 2) (by lia) (by lia) (by lia) up h1 fun i i1 i2=>?_;cases q:lt (gA p k) (gA p i) with
    | true=>rfl
    | false=>rw [w.trans _ _ _ (up ((l+r) / 2) i i1 i2) q] at d; cases d
   ·rw [if_neg d];refine ih ((l+r) / 2+1) r (by lia) WH (by lia) up (fun i hi=>?_) h2;exact w.trans _ _ _ (up i ((l+r) / 2) (by lia) (by lia)) (by simpa using d)
theorem Az{p:Array Nat}{src d:Nat}(hs:src < p.size)(hd:d<=src)(k:Nat):gA (bubble p src d) k=if k=src - d then gA p src else if src - d < k/\k<=src then gA p (k - 1) else gA p k:=by
 rw [Ay,getElem?_bubble hs d hd,Ay p src,Ay p (k - 1),Ay p k];by_cases h1:k=src - d
 ·rw [if_pos h1,if_pos h1]
 ·rw [if_neg h1,if_neg h1];by_cases h2:src - d < k/\k<=src
  ·rw [if_pos h2,if_pos h2]
  ·rw [if_neg h2,if_neg h2]
theorem Px(w:KP lt):∀ (f:Nat) (p:Array Nat) (k:Nat),k+f<=p.size->Up lt p k->∃ p',gR lt (kas_bin f p k)=p'/\p'.Perm p/\p'.size=p.size/\Up lt p' (k+f):=by
 intro f;induction f with
 | zero=>intro p k _ up; exact⟨p,rfl,lQ _,rfl,up⟩
 | succ f ih =>
  intro p k hs up;obtain⟨m,e,hm,h1,h2⟩:=JJ w k 0 k (cE _) (aE _) (aE _) up (fun i hi=>absurd hi (by lia)) (fun i i1 i2=>absurd i1 (by lia));have up':Up lt (bubble p k (k - m)) (k+1):=by
   intro i j Ko hj;rw [Az (by lia) (by lia),Az (by lia) (by lia)];have ek:k - (k - m)=m:=by lia
   rw [ek];by_cases j1:j=m
   ·rw [if_pos j1];by_cases i1:i=m
    ·rw [if_pos i1]; exact w.refl _
    ·rw [if_neg i1,if_neg (by lia)]; exact h1 i (by lia)
   ·rw [if_neg j1];by_cases j2:m < j/\j<=k
    ·rw [if_pos j2];by_cases i1:i=m
     ·rw [if_pos i1]; exact w.asymm _ _ (h2 (j - 1) (by lia) (by lia))
     ·rw [if_neg i1];by_cases i2:m < i/\i<=k
      ·rw [if_pos i2]; exact up _ _ (by lia) (by lia)
      ·rw [if_neg i2]; exact up _ _ (by lia) (by lia)
    ·rw [if_neg j2,if_neg (by lia),if_neg (by lia)]; exact up _ _ Ko (by lia)
  obtain⟨p',z,z1,z2,z3⟩:=ih (bubble p k (k - m)) (k+1) (by rw [bubble_size]; lia) up';refine⟨p',?_,z1.trans (bubble_perm _ _ _),z2.trans (bubble_size _ _ _),by rw [show k+(f+1)=k+1+f by lia]; exact z3⟩;rw [kas_bin,k8,e]; exact z
theorem Me(w:KP lt){n:Nat}(h1:1<=n):∃ p,gR lt (kas_sort n)=p/\p.toList.Perm (ij n)/\p.size=n/\Up lt p n:=by
 obtain⟨p,m,z,z1,z2,z3,z4,z5⟩:=JK w (p:=(ij n).toArray) h1 (by simp);have zs:p.size=n:=by rw [z2]; simp
 have zp:p.toList.Perm (ij n):=by simpa using z1.toList
 rw [kas_sort,k8,z];show ∃ q,gR lt (if m < n then kas_bin (n - max m 1) p (max m 1) else .ret p)=q/\_;by_cases c:m < n
 ·rw [if_pos c];have em:max m 1=m:=by lia
  rw [em];obtain⟨p',y,y1,y2,y3⟩:=Px w (n - m) p m (by lia) z5;exact⟨p',y,(by simpa using y1.toList:p'.toList.Perm p.toList).trans zp,y2.trans zs,by rw [show n=m+(n - m) by lia]; exact y3⟩
 ·rw [if_neg c];have:m=n:=by lia
  subst this;exact⟨p,rfl,zp,zs,z5⟩
end
end K2
end
section
namespace K2
open PySem PySem.Spec PyProof.Rows L2
open PySem.AutoSeq1 (wpAny_loadPart')
open PySem.MeetsSeq PySem.MeetsSeq2 PySem.MeetsSeq3 PySem.SeqAt
noncomputable def yN(A:dj)(s:av)(y x:Value)(b:Bool):Prop :=
 ∀ (prog:bJ) (w:World) (E:Value->av->Prop) (Q:Value->av->Prop),Q (.bool b) s->wpAny (model prog w) A (richCompare .Lt y x) Q E s
noncomputable def qL(e l:Nat->Bool)(n m:Nat):Nat->Nat->Bool
 | 0,_=>decide (n < m)
 | f+1,i=>if e i=true then qL e l n m f (i+1) else l i
theorem Qg(l b:Addr)(xs ys:Array Value)(n m:Nat)(dd de:Option Addr)(sl sm:Array (Option Value))(e lt:Nat->Bool)(k:Nat) :
  ∀ i:Nat,i<=min xs.size ys.size->min xs.size ys.size - i=k->Meets (Builtin.«list.__eq__.loop» ⟨[.ref l,.ref b,Cs i,Cs 0],[]⟩)
   (fun A R s=>s.heap.get? l=some { cls:=.type "list",dict:=dd,data:=.seq xs n,slots:=sl }/\s.heap.get? b=some { cls:=.type "list",dict:=de,data:=.seq ys m,slots:=sm } /\
    (∀ j (h1:j < xs.size) (h2:j < ys.size),EqAt A.in1 s xs[j] ys[j] (e j)/\yN A.in1 s xs[j] ys[j] (lt j)) /\
    R (.ok (.ret (.bool (qL e lt xs.size ys.size k i)))) s):=by
 induction k with
 | zero =>
  intro i hi hk prog w A R s h;obtain⟨hp,g,d,tk,os⟩:=s;obtain⟨hl,hb,he,h⟩:=h
  wp_walk using cg hl,cg hb
  by_cases c:xs.size<=ys.size
  ·have h1:xs[((i:Nat):Int).toNat]?=none:=by simp; lia
   rw [h1]
   wp_walk using cg hl,cg hb
   exact h
  ·have h2:ys[((i:Nat):Int).toNat]?=none:=by simp; lia
   rw [h2];cases q:xs[((i:Nat):Int).toNat]? with
   | none =>
    wp_walk using cg hl,cg hb
    exact h
   | some v =>
    wp_walk using cg hl,cg hb
    exact h
 | succ k ih =>
  intro i hi hk prog w A R s h;obtain⟨hp,g,d,tk,os⟩:=s;obtain⟨hl,hb,he,h⟩:=h
  wp_walk using cg hl,cg hb
  have l1:i < xs.size:=by lia
  have l2:i < ys.size:=by lia
  have h1:xs[((i:Nat):Int).toNat]?=some xs[i]:=by simp [l1]
  have h2:ys[((i:Nat):Int).toNat]?=some ys[i]:=by simp [l2]
  have hc:((i:Int)+1)=((i+1:Nat):Int):=by push_cast; rfl
  rw [h1,h2];refine ag ((he i l1 l2).1 prog w _ _ ?_);cases q:e i with
  | true =>
   rw [qL,q,if_pos rfl] at h
   wp_walk
   rw [hc];exact⟨plainId_quiet plain_eq_loop _,codeAny_builtin entry_eq_loop (by
    rw [LH plain_eq_loop _];exact ih (i+1) (by lia) (by lia) prog w A R _ ⟨hl,hb,he,h⟩)⟩
  | false =>
   rw [qL,q,if_neg (by simp)] at h
   wp_walk using cg hl,cg hb
   rw [h1,h2];have Vw:=(he i l1 l2).2 prog w
   wp_walk using Vw
   exact h
theorem Ah(l b:Addr)(xs ys:Array Value)(n m:Nat)(dd de:Option Addr)(sl sm:Array (Option Value))(e lt:Nat->Bool) :
  Meets (Builtin.«list.__lt__» ⟨[.ref l,.ref b],[]⟩)
   (fun A R s=>s.heap.get? l=some { cls:=.type "list",dict:=dd,data:=.seq xs n,slots:=sl }/\s.heap.get? b=some { cls:=.type "list",dict:=de,data:=.seq ys m,slots:=sm } /\
    (∀ j (h1:j < xs.size) (h2:j < ys.size),EqAt A.in1 s xs[j] ys[j] (e j)/\yN A.in1 s xs[j] ys[j] (lt j)) /\
    R (.ok (.ret (.bool (qL e lt xs.size ys.size (min xs.size ys.size) 0)))) s):=by
 intro prog w A R s h;obtain⟨hp,g,d,tk,os⟩:=s;obtain⟨hl,hb,he,h⟩:=h;have f3:=Ff
 wp_walk using cg hl,cg hb
 exact⟨plainId_quiet plain_eq_loop _,codeAny_builtin entry_eq_loop (by
  rw [LH plain_eq_loop _];exact Qg l b xs ys n m dd de sl sm e lt _ 0 (cE _) rfl prog w A R _ ⟨hl,hb,he,h⟩)⟩
theorem wN(l b:Addr)(xs ys:Array Value)(n m:Nat)(dd de:Option Addr)(sl sm:Array (Option Value))(e lt:Nat->Bool) :
  Meets (Builtin.«tuple.__lt__» ⟨[.ref l,.ref b],[]⟩)
   (fun A R s=>s.heap.get? l=some { cls:=.type "tuple",dict:=dd,data:=.seq xs n,slots:=sl }/\s.heap.get? b=some { cls:=.type "tuple",dict:=de,data:=.seq ys m,slots:=sm } /\
    (∀ j (h1:j < xs.size) (h2:j < ys.size),EqAt A.in1 s xs[j] ys[j] (e j)/\yN A.in1 s xs[j] ys[j] (lt j)) /\
    R (.ok (.ret (.bool (qL e lt xs.size ys.size (min xs.size ys.size) 0)))) s) :=
 .of_wp fun prog w A R s h=>by
  obtain⟨hp,g,d,tk,os⟩:=s;obtain⟨hl,hb,he,h⟩:=h;have f2:=oo;have zl:(xs.toList.zip ys.toList).length=min xs.size ys.size:=by simp
  wp_walk using cg hl,cg hb,kn _ (fun rest c s'=>c.1=none/\s'=⟨hp,g,d,tk,os⟩/\∃ i,i<=min xs.size ys.size/\rest=(xs.toList.zip ys.toList).drop i /\
   R (.ok (.ret (.bool (qL e lt xs.size ys.size (min xs.size ys.size - i) i)))) ⟨hp,g,d,tk,os⟩) _
  case turn =>
   rintro⟨y,x⟩ rest c s' ⟨hc,rfl,i,hi,hz,hR⟩;have il:i < min xs.size ys.size:=by
    have:=congrArg dU hz;rw [cV,zl,aj] at this;lia
   have l1:i < xs.size:=by lia
   have l2:i < ys.size:=by lia
   rw [gE (by rw [zl]; exact il)] at hz;injection hz with Yo Nz
   have ey:y=xs[i]/\x=ys[i]:=by simpa using Yo
   obtain⟨rfl,rfl⟩:=ey;obtain⟨k,ek⟩:∃ k,min xs.size ys.size - i=k+1:=⟨min xs.size ys.size - i - 1,by lia⟩;rw [ek,qL] at hR;refine ag ((he i l1 l2).1 prog w _ _ ?_);cases q:e i with
   | true =>
    rw [q,if_pos rfl] at hR
    wp_walk
    exact⟨rfl,rfl,i+1,by lia,Nz,by rw [show min xs.size ys.size - (i+1)=k by lia]; exact hR⟩
   | false =>
    rw [q,if_neg (by simp)] at hR;have Vw:=(he i l1 l2).2 prog w
    wp_walk using Vw
    exact⟨_,rfl,by simpa using hR⟩
  case fin =>
   rintro⟨c1,c2⟩ s' ⟨hc,rfl,i,hi,hz,hR⟩;simp only at hc;subst hc;have il:min xs.size ys.size - i=0:=by
    have:=congrArg dU hz;rw [cV,zl,aF] at this;lia
   rw [il,qL] at hR
   wp_walk
   exact⟨_,rfl,by simpa [sD] using hR⟩
  case h =>
   exact⟨rfl,rfl,0,cE _,rfl,by simpa using h⟩
theorem J1{A:dj}{s:av}{l b:Addr}{xs ys:Array Value}{e lt:Nat->Bool}(hl:s.heap.IsList l xs)(hb:s.heap.IsList b ys)(hu:A.units < cLine)
  (he:∀ j (h1:j < xs.size) (h2:j < ys.size),EqAt A.in1 s xs[j] ys[j] (e j)/\yN A.in1 s xs[j] ys[j] (lt j)):yN A s (.ref l) (.ref b) (qL e lt xs.size ys.size (min xs.size ys.size) 0):=by
 intro prog w E Q hq;obtain⟨⟨cls,dd,data,sl⟩,ho,hc,n,hd⟩:=id hl;obtain⟨⟨Oq,Cm,data2,HM⟩,DU,Aw,n2,hd2⟩:=id hb;simp only at hc hd Aw hd2;subst hc hd Aw hd2;exact vM (op:=.Lt) ⟨_,ho,rfl⟩ ⟨_,DU,rfl⟩ sA Jt (Ht _ _) (Ah l b xs ys n n2 dd Cm sl HM e lt)
  ⟨ho,DU,he,(fun x=>nomatch x),hq⟩ hu
theorem Ga{A:dj}{s:av}{l b:Addr}{xs ys:Array Value}{e lt:Nat->Bool}(hl:s.heap.IsTuple l xs)(hb:s.heap.IsTuple b ys)(hu:A.units < cLine)
  (he:∀ j (h1:j < xs.size) (h2:j < ys.size),EqAt A.in1 s xs[j] ys[j] (e j)/\yN A.in1 s xs[j] ys[j] (lt j)):yN A s (.ref l) (.ref b) (qL e lt xs.size ys.size (min xs.size ys.size) 0):=by
 intro prog w E Q hq;obtain⟨⟨cls,dd,data,sl⟩,ho,hc,n,hd⟩:=id hl;obtain⟨⟨Oq,Cm,data2,HM⟩,DU,Aw,n2,hd2⟩:=id hb;simp only at hc hd Aw hd2;subst hc hd Aw hd2;exact vM (op:=.Lt) ⟨_,ho,rfl⟩ ⟨_,DU,rfl⟩ kK qF (oY _ _) (wN l b xs ys n n2 dd Cm sl HM e lt)
  ⟨ho,DU,he,(fun x=>nomatch x),hq⟩ hu
theorem mZ(xs ys:List D):∀ (k i:Nat),i<=min xs.length ys.length->min xs.length ys.length - i=k ->
  qL (fun j=>ig (xs.getD j .eh) (ys.getD j .eh)) (fun j=>nA (xs.getD j .eh) (ys.getD j .eh)) xs.length ys.length k i=kR (xs.drop i) (ys.drop i)
 | 0,i,hi,hk=>by
  rw [qL];by_cases c:xs.length<=ys.length
  ·have e1:xs.drop i=[]:=kL (by lia);rw [e1];cases q:ys.drop i with
   | nil =>
    have:=congrArg dU q;rw [cV,aF] at this;exact decide_eq_false (by lia)
   | cons y r =>
    have:=congrArg dU q;rw [cV,aj] at this;exact decide_eq_true (by lia)
  ·have e1:ys.drop i=[]:=kL (by lia);rw [e1];cases q:xs.drop i with
   | nil =>
    have:=congrArg dU q;rw [cV,aF] at this;exact decide_eq_false (by lia)
   | cons y r=>exact decide_eq_false (by lia)
 | k+1,i,hi,hk=>by
  have l1:i < xs.length:=by lia
  have l2:i < ys.length:=by lia
  rw [qL,gE l1,gE l2,lI,mZ xs ys k (i+1) (by lia) (by lia)];have g1:xs.getD i .eh=xs[i]:=by rw [dG,au l1]; rfl
  have g2:ys.getD i .eh=ys[i]:=by rw [dG,au l2]; rfl
  rw [g1,g2]
theorem jw{h:Heap}:∀ {ds:List D} {vs:List Value} {as:List Addr},gL h vs (lW ds) as->∀ j (hj:j < vs.length),∃ bs,Reads h vs[j] (pd (ds.getD j .eh)) bs
 | [],vs,as,r,j,hj=>by cases r; exact absurd hj (uu _)
 | d :: ds,_,_,.cons (v:=v) (vs:=vs) r1 r2,j,hj=>by
  cases j with
  | zero=>exact⟨_,r1⟩
  | succ j=>exact jw r2 j (by simpa using hj)
theorem readsAll_len{h:Heap}:∀ {ds:List D} {vs:List Value} {as:List Addr},gL h vs (lW ds) as->vs.length=ds.length
 | [],_,_,r=>by cases r; rfl
 | d :: ds,_,_,.cons r1 r2=>by rw [aj,aj,readsAll_len r2]
theorem nO:∀ {ds:List D},pK ds=true->∀ j,nr (ds.getD j .eh)=true
 | [],_,j=>by rw [List.getD_nil]; rfl
 | d :: ds,h,0=>by
  have h:(nr d&&pK ds)=true:=h;rw [aI] at h; simpa using h.1
 | d :: ds,h,j+1=>by
  have h:(nr d&&pK ds)=true:=h;rw [aI] at h; simpa using nO h.2 j
theorem kj:∀ (ds:List D) (j:Nat),(pd (ds.getD j .eh)).depth<=cB (lW ds)
 | [],j=>by rw [List.getD_nil]; exact aE _
 | d :: ds,0=>by
  show (pd d).depth<=cB (pd d :: lW ds);simp only [cB]; lia
 | d :: ds,j+1=>by
  have:=kj ds j;show (pd (ds.getD j .eh)).depth<=cB (pd d :: lW ds);simp only [cB]; lia
theorem pO:∀ {l:List mx} {ds:List D},eW l ds=true->∀ j,j < ds.length->∃ s∈l,cQ s (ds.getD j .eh)=true/\l[j]?=some s
 | [],[],_,j,hj=>absurd hj (uu _)
 | [],_ :: _,h,_,_=>by cases h
 | _ :: _,[],h,_,_=>by cases h
 | s :: l,d :: ds,h,0,_=>by
  have h:(cQ s d&&eW l ds)=true:=h;rw [aI] at h;exact⟨s,by simp,by simpa using h.1,by simp⟩
 | s :: l,d :: ds,h,j+1,hj=>by
  have h:(cQ s d&&eW l ds)=true:=h;rw [aI] at h;obtain⟨s',h1,h2,h3⟩:=pO h.2 j (by simpa using hj);exact⟨s',aK _ h1,by simpa using h2,by simpa using h3⟩
theorem pP:∀ {s:mx} {ds:List D},gv s ds=true->∀ j,j < ds.length->cQ s (ds.getD j .eh)=true
 | s,[],_,j,hj=>absurd hj (uu _)
 | s,d :: ds,h,0,_=>by
  have h:(cQ s d&&gv s ds)=true:=h;rw [aI] at h; simpa using h.1
 | s,d :: ds,h,j+1,hj=>by
  have h:(cQ s d&&gv s ds)=true:=h;rw [aI] at h; simpa using pP h.2 j (by simpa using hj)
theorem BN{A:dj}{s:av}{xs ys:List D}{vs ws:Array Value}{as bs:List Addr}(r1:gL s.heap vs.toList (lW xs) as)(r2:gL s.heap ws.toList (lW ys) bs)(n1:pK xs=true)(n2:pK ys=true)
  (hu:A.units+cB (lW xs) < cLine) (j:Nat) (h1:j < vs.size) (h2:j < ws.size):EqAt A s vs[j] ws[j] (ig (xs.getD j .eh) (ys.getD j .eh)):=by
 obtain⟨V8,q1⟩:=jw r1 j (by simpa using h1);obtain⟨V6,q2⟩:=jw r2 j (by simpa using h2);have m1:=nO n1 j;have m2:=nO n2 j;have dp:=kj xs j;have:=eqAt_reads (pd (xs.getD j .eh)) (pd (ys.getD j .eh)) A s _ _ _ _ q1 q2 (jS _ m1) (jS _ m2) (by lia);rw [uU _ _ m1 m2] at this;simpa using this
theorem xU:∀ (n:Nat) (sh:mx) (a b:D) (A:dj) (s:av) (u v:Value) (as bs:List Addr),(pd a).depth<=n->cQ sh a=true->cQ sh b=true->nr a=true->nr b=true->Reads s.heap u (pd a) as->Reads s.heap v (pd b) bs->A.units+n < cLine->yN A s u v (nA a b):=by
 intro n;induction n using Nat.strongRecOn with
 | _ n ih =>
 intro sh a b A s u v as bs hn h1 h2 n1 n2 r1 r2 hu;cases sh with
 | int =>
  first | obtain⟨_,rfl⟩:=dc h1 | obtain⟨_,rfl⟩:=c9 h1 | obtain⟨_,rfl⟩:=da h1
  first | obtain⟨_,rfl⟩:=dc h2 | obtain⟨_,rfl⟩:=c9 h2 | obtain⟨_,rfl⟩:=da h2
  cases r1; cases r2;intro prog w E Q hq;exact HT.C4 A s _ _ _ _ prog w E Q hq
 | tup l =>
  first | obtain⟨_,rfl⟩:=dc h1 | obtain⟨_,rfl⟩:=c9 h1 | obtain⟨_,rfl⟩:=da h1
  first | obtain⟨_,rfl⟩:=dc h2 | obtain⟨_,rfl⟩:=c9 h2 | obtain⟨_,rfl⟩:=da h2
  rename_i xs ys;have n1:pK xs=true:=n1;have n2:pK ys=true:=n2;cases r1 with
  | tuple k1 k2 k3 k4 =>
   cases r2 with
   | tuple m1 m2 m3 m4 =>
    rename_i p o vs c p' o' ws c';have hd:(pd (.tup xs)).depth=cB (lW xs)+1:=rfl;obtain⟨n',rfl⟩:∃ n',n=n'+1:=⟨n - 1,by lia⟩;have z1:=readsAll_len k4;have z2:=readsAll_len m4;have e1:vs.size=xs.length:=by simpa using z1
    have e2:ws.size=ys.length:=by simpa using z2
    have base:=Ga (A:=A) (s:=s) (e:=fun j=>ig (xs.getD j .eh) (ys.getD j .eh)) (lt:=fun j=>nA (xs.getD j .eh) (ys.getD j .eh)) ⟨_,k1,k2,_,k3⟩ ⟨_,m1,m2,_,m3⟩ (by lia) (fun j j1 j2=>by
     refine⟨BN k4 m4 n1 n2 (by show A.units+1+_ < _; lia) j j1 j2,?_⟩;obtain⟨V8,q1⟩:=jw k4 j (by simpa using j1);obtain⟨V6,q2⟩:=jw m4 j (by simpa using j2);obtain⟨sj,hsj,g1,g2⟩:=pO (l:=l) (ds:=xs) h1 j (by lia);obtain⟨sj',YD,Zb,VT⟩:=pO (l:=l) (ds:=ys) h2 j (by lia);rw [g2] at VT; cases VT;have dp:=kj xs j;have:=ih n' (by lia) sj (xs.getD j .eh) (ys.getD j .eh) A.in1 s _ _ _ _ (by lia) g1 Zb (nO n1 j) (nO n2 j) q1 q2 (by show A.units+1+n' < cLine; lia);simpa using this)
    have fin:=mZ xs ys (min xs.length ys.length) 0 (cE _) rfl;rw [e1,e2,fin] at base;exact base
 | lst l =>
  first | obtain⟨_,rfl⟩:=dc h1 | obtain⟨_,rfl⟩:=c9 h1 | obtain⟨_,rfl⟩:=da h1
  first | obtain⟨_,rfl⟩:=dc h2 | obtain⟨_,rfl⟩:=c9 h2 | obtain⟨_,rfl⟩:=da h2
  rename_i xs ys;have n1:pK xs=true:=n1;have n2:pK ys=true:=n2;cases r1 with
  | list k1 k2 k3 k4 =>
   cases r2 with
   | list m1 m2 m3 m4 =>
    rename_i p o vs c p' V8 o' ws c' V6;have hd:(pd (.dR xs)).depth=cB (lW xs)+1:=rfl;obtain⟨n',rfl⟩:∃ n',n=n'+1:=⟨n - 1,by lia⟩;have z1:=readsAll_len k4;have z2:=readsAll_len m4;have e1:vs.size=xs.length:=by simpa using z1
    have e2:ws.size=ys.length:=by simpa using z2
    have base:=J1 (A:=A) (s:=s) (e:=fun j=>ig (xs.getD j .eh) (ys.getD j .eh)) (lt:=fun j=>nA (xs.getD j .eh) (ys.getD j .eh)) ⟨_,k1,k2,_,k3⟩ ⟨_,m1,m2,_,m3⟩ (by lia) (fun j j1 j2=>by
     refine⟨BN k4 m4 n1 n2 (by show A.units+1+_ < _; lia) j j1 j2,?_⟩;obtain⟨V8,q1⟩:=jw k4 j (by simpa using j1);obtain⟨V6,q2⟩:=jw m4 j (by simpa using j2);have dp:=kj xs j;have:=ih n' (by lia) l (xs.getD j .eh) (ys.getD j .eh) A.in1 s _ _ _ _ (by lia) (pP (s:=l) (ds:=xs) h1 j (by lia)) (pP (s:=l) (ds:=ys) h2 j (by lia)) (nO n1 j) (nO n2 j) q1 q2 (by show A.units+1+n' < cLine; lia);simpa using this)
    have fin:=mZ xs ys (min xs.length ys.length) 0 (cE _) rfl;rw [e1,e2,fin] at base;exact base
end K2
end
section
namespace K2
open PySem PySem.Spec PyProof.Rows L2 PySem.W
section
variable {prog:bJ} {w:World} {A:dj} {E:Value->av->Prop} {s:av}
theorem L8 {at':Addr} {bS:List Value} {n:Nat} {P:PySem.Fin->av->Prop} (Kt:s.heap.get? at'=some (wA "list" bS.toArray n)) (D7:bS.length < 2)
  (done:P (.done (.ret .none)) { s with heap:=sortedHeap s.heap at' bS bS.toArray }):wpAny (model prog w) A (Builtin.«list.sort» ⟨[.ref at'],[]⟩) P E s:=by
 rw [list_sort_plain];have lt':at' < s.heap.objs.size:=aU Kt;refine ag (listItems_at Kt rfl (ag (listUpdate_at Kt rfl ?_)));obtain⟨c,hc⟩:∃ c,(s.heap.update at' (iD fun _=>#[])).get? at'=some (wA "list" #[] c):=⟨_,get?_update_seq Kt (fun _=>#[])⟩;refine ag (seqEpoch_at hc rfl (ag (wpAny_newTuple (ag (wpAny_newList (eK ?_))))));have h6:(((s.heap.update at' (iD fun _=>#[])).push (wA "tuple" bS.toArray 0)).push (wA "list" #[] 0)).get? at'=some (wA "list" #[] c):=by
  rw [Heap.get?_push_ne _ _ _ (by rw [size_push',Ci]; exact bK (Nat.lt_succ_of_lt lt')),Heap.get?_push_ne _ _ _ (by rw [Ci]; exact bK lt')];exact hc
 show wpAny (model prog w) A _ P E { s with heap:=((s.heap.update at' (iD fun _=>#[])).push (wA "tuple" bS.toArray 0)).push (wA "list" #[] 0) };dsimp only;have ZN:bS.toArray.size < 2:=by simpa using D7
 rw [if_pos ZN,if_pos ZN];refine ag (aA ?_);rw [StateT.run_pure];refine ag (aA ?_);dsimp only;have es:(bS.toArray.zip bS.toArray).map (·.2)=bS.toArray:=by
  apply Array.toList_inj.mp;simp [List.map_snd_zip]
 refine ag (seqEpoch_at h6 rfl (ag (listUpdate_at h6 rfl ?_ (hsz2:=by rw [show (arrOf (SortSt.mk' general' (bS.toArray.zip bS.toArray) #[] 7 none)).map (·.2)=bS.toArray from es,cS]; simp; lia))));simp only [bne_self_eq_false,ar,if_false];refine aA ?_;rw [show (arrOf (SortSt.mk' general' (bS.toArray.zip bS.toArray) #[] 7 none)).map (·.2)=bS.toArray from es];exact done
theorem Fv{l:Addr}{bS:List Value}{Q:Value->av->Prop}(hl:s.heap.IsList l bS.toArray)(D7:bS.length < 2)
  (done:Q (.ref (s.heap.objs.size+1)) { s with heap:=sortedAll s.heap bS bS.toArray }):wpAny (model prog w) A (call (.builtin "sorted") [.ref l]) Q E s:=by
 refine Calls.call_function_entry kind_sorted plain_sorted entry_sorted (args_sorted1 _) ?_;unfold Builtin.«sorted»;refine ag (m:=checkCount "sorted" 1 1 _) (aA (ag (collect_list hl (ag (wpAny_newList ?_)))));have e1:((s.heap.push (wA "list" #[] 0)).update s.heap.objs.size (iD (·++bS.toArray))).objs.size=s.heap.objs.size+1:=by rw [Ci,size_push']
 have e2:(((s.heap.push (wA "list" #[] 0)).update s.heap.objs.size (iD (·++bS.toArray))).push (wA "list" bS.toArray 0)).get? (s.heap.objs.size+1)=some (wA "list" bS.toArray 0):=by
  rw [<-e1]; exact bz _ rfl
 show wpAny _ _ _ _ _ { s with heap:=((s.heap.push (wA "list" #[] 0)).update s.heap.objs.size (iD (·++bS.toArray))).push (wA "list" bS.toArray 0) };rw [e1];refine ag (eK (cX slot_list_sort ⟨_,e2,rfl⟩ entry_list_sort (L8 e2 D7 ⟨_,rfl,?_⟩) (args_list_sort _)));exact aA ⟨_,rfl,done⟩
end
section
open PySem.SeqAt
noncomputable def OD(A:dj)(s:av)(y x:Value)(b:Bool):Prop :=
 ∀ (prog:bJ) (w:World) (E:Value->av->Prop) (Q:Bool->av->Prop),Q b s->wpAny (model prog w) A (oneLt' true y x) Q E s
theorem FN{A:dj}{s:av}{l b:Addr}{xs ys:Array Value}{e lt:Nat->Bool}(hl:s.heap.IsList l xs)(hb:s.heap.IsList b ys)(hu:A.units < cLine)
  (he:∀ j (h1:j < xs.size) (h2:j < ys.size),EqAt A.in1 s xs[j] ys[j] (e j)/\yN A.in1 s xs[j] ys[j] (lt j)):OD A s (.ref l) (.ref b) (qL e lt xs.size ys.size (min xs.size ys.size) 0):=by
 intro prog w E Q hq;obtain⟨⟨cls,dd,data,sl⟩,ho,hc,n,hd⟩:=id hl;obtain⟨⟨Oq,Cm,data2,HM⟩,DU,Aw,n2,hd2⟩:=id hb;simp only at hc hd Aw hd2;subst hc hd Aw hd2;rw [oneLt'_eq];simp only [if_true];refine ag (wpAny_cRoomFor hu (ag (Hm (T:="list") ⟨_,ho,rfl⟩ sA ?_)));exact call_meets sA ⟨_,ho,rfl⟩ Jt (Ht _ _) (Ah l b xs ys n n2 dd Cm sl HM e lt) ⟨ho,DU,he,sx hq⟩
theorem Dk{A:dj}{s:av}{l b:Addr}{xs ys:Array Value}{e lt:Nat->Bool}(hl:s.heap.IsTuple l xs)(hb:s.heap.IsTuple b ys)(hu:A.units < cLine)
  (he:∀ j (h1:j < xs.size) (h2:j < ys.size),EqAt A.in1 s xs[j] ys[j] (e j)/\yN A.in1 s xs[j] ys[j] (lt j)):OD A s (.ref l) (.ref b) (qL e lt xs.size ys.size (min xs.size ys.size) 0):=by
 intro prog w E Q hq;obtain⟨⟨cls,dd,data,sl⟩,ho,hc,n,hd⟩:=id hl;obtain⟨⟨Oq,Cm,data2,HM⟩,DU,Aw,n2,hd2⟩:=id hb;simp only at hc hd Aw hd2;subst hc hd Aw hd2;rw [oneLt'_eq];simp only [if_true];refine ag (wpAny_cRoomFor hu (ag (Hm (T:="tuple") ⟨_,ho,rfl⟩ kK ?_)));exact call_meets kK ⟨_,ho,rfl⟩ qF (oY _ _) (wN l b xs ys n n2 dd Cm sl HM e lt) ⟨ho,DU,he,sx hq⟩
theorem DP{n:Nat}{A:dj}{s:av}{xs ys:List D}{vs ws:Array Value}{as bs:List Addr}(r1:gL s.heap vs.toList (lW xs) as)(r2:gL s.heap ws.toList (lW ys) bs)(n1:pK xs=true)(n2:pK ys=true)(hd:cB (lW xs)<=n)
  (hu:A.units+n < cLine) (hs:∀ j,j < xs.length->j < ys.length->∃ sh,cQ sh (xs.getD j .eh)=true/\cQ sh (ys.getD j .eh)=true) (j:Nat) (h1:j < vs.size) (h2:j < ws.size) :
  EqAt A s vs[j] ws[j] (ig (xs.getD j .eh) (ys.getD j .eh))/\yN A s vs[j] ws[j] (nA (xs.getD j .eh) (ys.getD j .eh)):=by
 have z1:=readsAll_len r1;have z2:=readsAll_len r2;have e1:vs.size=xs.length:=by simpa using z1
 have e2:ws.size=ys.length:=by simpa using z2
 refine⟨BN r1 r2 n1 n2 (by lia) j h1 h2,?_⟩;obtain⟨V8,q1⟩:=jw r1 j (by simpa using h1);obtain⟨V6,q2⟩:=jw r2 j (by simpa using h2);obtain⟨sh,g1,g2⟩:=hs j (by lia) (by lia);have dp:=kj xs j;have:=xU n sh (xs.getD j .eh) (ys.getD j .eh) A s _ _ _ _ (by lia) g1 g2 (nO n1 j) (nO n2 j) q1 q2 hu;simpa using this
theorem vz{n:Nat}{sh:mx}{a b:D}{A:dj}{s:av}{u v:Value}{as bs:List Addr}(hn:(pd a).depth<=n)(h1:cQ sh a=true)(h2:cQ sh b=true)(n1:nr a=true)(n2:nr b=true)(r1:Reads s.heap u (pd a) as)(r2:Reads s.heap v (pd b) bs)
  (hu:A.units+n < cLine):OD A s u v (nA a b):=by
 cases sh with
 | int =>
  first | obtain⟨_,rfl⟩:=dc h1 | obtain⟨_,rfl⟩:=c9 h1 | obtain⟨_,rfl⟩:=da h1
  first | obtain⟨_,rfl⟩:=dc h2 | obtain⟨_,rfl⟩:=c9 h2 | obtain⟨_,rfl⟩:=da h2
  cases r1; cases r2;intro prog w E Q hq;exact oneLt_int hq
 | tup l =>
  first | obtain⟨_,rfl⟩:=dc h1 | obtain⟨_,rfl⟩:=c9 h1 | obtain⟨_,rfl⟩:=da h1
  first | obtain⟨_,rfl⟩:=dc h2 | obtain⟨_,rfl⟩:=c9 h2 | obtain⟨_,rfl⟩:=da h2
  rename_i xs ys;have n1:pK xs=true:=n1;have n2:pK ys=true:=n2;cases r1 with
  | tuple k1 k2 k3 k4 =>
   cases r2 with
   | tuple m1 m2 m3 m4 =>
    rename_i p o vs c p' o' ws c';have hd:(pd (.tup xs)).depth=cB (lW xs)+1:=rfl;obtain⟨n',rfl⟩:∃ n',n=n'+1:=⟨n - 1,by lia⟩;have z1:=readsAll_len k4;have z2:=readsAll_len m4;have e1:vs.size=xs.length:=by simpa using z1
    have e2:ws.size=ys.length:=by simpa using z2
    have base:=Dk (A:=A) (s:=s) ⟨_,k1,k2,_,k3⟩ ⟨_,m1,m2,_,m3⟩ (by lia) (DP (A:=A.in1) (n:=n') k4 m4 n1 n2 (by lia) (by show A.units+1+n' < cLine; lia) fun j j1 j2=>by
     obtain⟨sj,hsj,g1,g2⟩:=pO (l:=l) (ds:=xs) h1 j j1;obtain⟨sj',YD,Zb,VT⟩:=pO (l:=l) (ds:=ys) h2 j j2;rw [g2] at VT; cases VT;exact⟨sj,g1,Zb⟩)
    have fin:=mZ xs ys (min xs.length ys.length) 0 (cE _) rfl;rw [e1,e2,fin] at base;exact base
 | lst l =>
  first | obtain⟨_,rfl⟩:=dc h1 | obtain⟨_,rfl⟩:=c9 h1 | obtain⟨_,rfl⟩:=da h1
  first | obtain⟨_,rfl⟩:=dc h2 | obtain⟨_,rfl⟩:=c9 h2 | obtain⟨_,rfl⟩:=da h2
  rename_i xs ys;have n1:pK xs=true:=n1;have n2:pK ys=true:=n2;cases r1 with
  | list k1 k2 k3 k4 =>
   cases r2 with
   | list m1 m2 m3 m4 =>
    rename_i p o vs c p' V8 o' ws c' V6;have hd:(pd (.dR xs)).depth=cB (lW xs)+1:=rfl;obtain⟨n',rfl⟩:∃ n',n=n'+1:=⟨n - 1,by lia⟩;have z1:=readsAll_len k4;have z2:=readsAll_len m4;have e1:vs.size=xs.length:=by simpa using z1
    have e2:ws.size=ys.length:=by simpa using z2
    have base:=FN (A:=A) (s:=s) ⟨_,k1,k2,_,k3⟩ ⟨_,m1,m2,_,m3⟩ (by lia) (DP (A:=A.in1) (n:=n') k4 m4 n1 n2 (by lia) (by show A.units+1+n' < cLine; lia) fun j j1 j2=>⟨l,pP (s:=l) (ds:=xs) h1 j j1,pP (s:=l) (ds:=ys) h2 j j2⟩);have fin:=mZ xs ys (min xs.length ys.length) 0 (cE _) rfl;rw [e1,e2,fin] at base;exact base
theorem Bt{prog:bJ}{w:World}{A:dj}{s:av}{b fin:Bool}{Q:Bool->av->Prop}{n:Nat}(hu:A.units+n < cLine):∀ (l:List mx) (xs ys:List D) (vs ws:List Value) (as bs:List Addr) (i:Nat),eW l xs=true->eW l ys=true->pK xs=true->pK ys=true ->
  gL s.heap vs (lW xs) as->gL s.heap ws (lW ys) bs->cB (lW xs)<=n->fin=false->Q (kR xs ys) s->KatLex prog w A b fin Q (vs.zip ws) i s:=by
 intro l xs;induction xs generalizing l with
 | nil =>
  intro ys vs ws as bs i h1 h2 n1 n2 r1 r2 hd hf hq;cases r1;cases l with
  | nil =>
   cases ys with
   | nil=>cases r2; subst hf; exact hq
   | cons _ _=>cases h2
  | cons _ _=>cases h1
 | cons x xs ih =>
  intro ys vs ws as bs i h1 h2 n1 n2 r1 r2 hd hf hq;cases l with
  | nil=>cases h1
  | cons sh l =>
  cases ys with
  | nil=>cases h2
  | cons y ys =>
  cases r1 with
  | @cons v vs _ _ _ _ a1 a2 =>
  cases r2 with
  | @cons u ws _ _ _ _ b1 b2 =>
  have h1:(cQ sh x&&eW l xs)=true:=h1;have h2:(cQ sh y&&eW l ys)=true:=h2;have n1:(nr x&&pK xs)=true:=n1;have n2:(nr y&&pK ys)=true:=n2;rw [aI] at h1 h2 n1 n2;have Y2:(pd x).depth<=n/\cB (lW xs)<=n:=by
   have hd:cB (pd x :: lW xs)<=n:=hd;simp only [cB] at hd;lia
  show KatLex prog w A b fin Q ((v,u) :: vs.zip ws) i s;have eq:=eqAt_reads (pd x) (pd y) A s _ _ _ _ a1 b1 (jS _ n1.1) (jS _ n2.1) (by lia);rw [uU _ _ n1.1 n2.1] at eq;refine kat_cons (eq prog w _ _ ?_);rw [lI] at hq;cases q:ig x y with
  | true =>
   rw [q,if_pos rfl] at hq;exact kat_yes (ih l ys vs ws _ _ (i+1) h1.2 h2.2 n1.2 n2.2 a2 b2 Y2.2 hf hq)
  | false =>
   rw [q,if_neg (by simp)] at hq;refine kat_no ?_;cases c:(b&&i == 0) with
   | true=>exact vz Y2.1 h1.1 h2.1 n1.1 n2.1 a1 b1 hu prog w _ Q hq
   | false=>exact kat_one v u (xU n sh x y A s _ _ _ _ Y2.1 h1.1 h2.1 n1.1 n2.1 a1 b1 hu prog w _ _ hq)
end
noncomputable def km{α:Type}(n:Nat)(P:α->Prop):KasT α->Prop
 | .ret a=>P a
 | .ask i j k=>i < n/\j < n/\∀ b,km n P (k b)
theorem km.bind{α β:Type}{n:Nat}{P:α->Prop}{P':β->Prop}{f:α->KasT β}:∀ {t:KasT α},km n P t->(∀ a,P a->km n P' (f a))->km n P' (t.bind f)
 | .ret a,q,h=>h a q
 | .ask i j k,⟨q1,q2,q3⟩,h=>⟨q1,q2,fun b=>km.bind (q3 b) h⟩
theorem DM{α:Type}{n:Nat}{lt:Nat->Nat->Bool}{cmp:Nat->Nat->(Bool->av->Prop)->av->Prop}{s:av}{Q:α->av->Prop}(hc:∀ i j,i < n->j < n->∀ C:Bool->av->Prop,C (lt i j) s->cmp i j C s) :
  ∀ (t:KasT α),km n (fun _=>True) t->Q (gR lt t) s->t.kasWp cmp Q s
 | .ret a,_,q=>q
 | .ask i j k,⟨h1,h2,h3⟩,q=>hc i j h1 h2 _ (DM hc (k (lt i j)) (h3 _) q)
noncomputable def Bd(n:Nat)(p:Array Nat):Prop:=0 < n/\∀ x∈p,x < n
theorem Bd.at{n:Nat}{p:Array Nat}(h:Bd n p)(k:Nat):p.getD k 0 < n:=by
 by_cases hk:k < p.size
 ·have:p.getD k 0=p[k]:=by simp [Hz,hk]
  rw [this]; exact h.2 _ (Array.getElem_mem hk)
 ·have:p.getD k 0=0:=by simp [Hz,hk]
  rw [this]; exact h.1
theorem Bd.perm{n:Nat}{p q:Array Nat}(h:Bd n p)(hp:q.Perm p):Bd n q:=⟨h.1,fun x hx=>h.2 x (hp.mem_iff.mp hx)⟩
theorem B5{n:Nat}{p:Array Nat}(h:Bd n p):∀ (f k:Nat),km n (fun _=>True) (oT p f k)
 | 0,k=>trivial
 | f+1,k=>⟨h.at _,h.at _,fun b=>by
  show km n _ (if b=true then uv k else oT p f (k+1));split
  ·trivial
  ·exact B5 h f (k+1)⟩
theorem t8{n:Nat}:∀ (f:Nat) (p:Array Nat) (k q:Nat),Bd n p->km n (fun r=>Bd n r.1) (ko f p k q)
 | 0,p,k,q,h=>h
 | f+1,p,k,q,h=>⟨h.at _,h.at _,fun b=>by
  show km n _ (if b=true then (if q > 0 then ko f (gu p (k - (q+1)) k) (k+1) 0 else ko f p (k+1) 0) else .ask (p.getD (k - 1) 0) (p.getD k 0) fun d=>if d=true then .ret (p,k,q) else ko f p (k+1) (q+1));split
  ·split
   ·exact t8 f _ _ _ (h.perm (jv _ _ _))
   ·exact t8 f _ _ _ h
  ·refine⟨h.at _,h.at _,fun d=>?_⟩;show km n _ (if d=true then uv (p,k,q) else ko f p (k+1) (q+1));split
   ·exact h
   ·exact t8 f _ _ _ h⟩
theorem EB{n:Nat}{p:Array Nat}(h:Bd n p)(k m:Nat):km n (fun r=>Bd n r.2) (Lv k m p) :=
 km.bind (B5 (h.perm (jv _ _ _)) _ _) fun _ _=>h.perm (jv _ _ _)
theorem t7{n:Nat}{p:Array Nat}(h:Bd n p)(k m:Nat):km n (fun r=>Bd n r.2) (wC k m p) :=
 km.bind (t8 _ _ _ _ h) fun r hr=>by
  split
  ·exact EB (hr.perm (jv _ _ _)) _ _
  ·exact EB hr _ _
theorem KN{n:Nat}{p:Array Nat}(h:Bd n p)(m:Nat):km n (fun r=>Bd n r.2) (kas_count m p) :=
 km.bind (B5 h _ _) fun k _=>by
  split
  ·exact h
  ·split
   ·refine⟨h.at _,h.at _,fun b=>?_⟩;show km n _ (if b=true then uv (k,p) else wC k m (gu p 0 k));split
    ·exact h
    ·exact t7 (h.perm (jv _ _ _)) _ _
   ·exact t7 h _ _
theorem va{n:Nat}{p:Array Nat}(h:Bd n p)(k:Nat):∀ (f l r:Nat),km n (fun _=>True) (jo p k f l r)
 | 0,l,r=>trivial
 | f+1,l,r=>by
  show km n _ (if l>=r then uv l else .ask (p.getD k 0) (p.getD ((l+r) / 2) 0) fun c=>if c=true then jo p k f l ((l+r) / 2) else jo p k f ((l+r) / 2+1) r);split
  ·trivial
  ·refine⟨h.at _,h.at _,fun b=>?_⟩;show km n _ (if b=true then jo p k f l ((l+r) / 2) else jo p k f ((l+r) / 2+1) r);split
   ·exact va h k f _ _
   ·exact va h k f _ _
theorem Jl{n:Nat}:∀ (f:Nat) (p:Array Nat) (k:Nat),Bd n p->km n (fun _=>True) (kas_bin f p k)
 | 0,p,k,h=>trivial
 | f+1,p,k,h=>km.bind (va h k _ _ _) fun l _=>Jl f _ _ (h.perm (bubble_perm _ _ _))
theorem OC{n:Nat}(h:0 < n):km n (fun _=>True) (kas_sort n) :=
 km.bind (KN ⟨h,fun x hx=>by simpa using hx⟩ n) fun r hr=>by
  split
  ·exact Jl _ _ _ hr
  ·trivial
end K2
end
section
namespace K2
open PySem PySem.Spec PyProof.Rows L2 PySem.W
mutual
theorem vn{h h':Heap}(hk:∀ b o vs n,o.data=.seq vs n->h.get? b=some o->h'.get? b=some o):∀ (d:D) {v:Value} {as:List Addr},nr d=true->Reads h v (pd d) as->Reads h' v (pd d) as
 | .eh,_,_,_,r=>by cases r; exact .none
 | .bl b,_,_,_,r=>by cases r; exact .bool b
 | .int i,_,_,_,r=>by cases r; exact .int i _
 | .str x,_,_,_,r=>by cases r; exact .str x _
 | .tup ds,_,_,n,r=>by
  cases r with
  | tuple h1 h2 h3 h4=>exact .tuple (hk _ _ _ _ h3 h1) h2 h3 (lD hk ds n h4)
 | .dR ds,_,_,n,r=>by
  cases r with
  | list h1 h2 h3 h4=>exact .list (hk _ _ _ _ h3 h1) h2 h3 (lD hk ds n h4)
 | .ji _,_,_,n,_=>by cases n
 | .ref _,_,_,n,_=>by cases n
 | .exc _,_,_,n,_=>by cases n
theorem lD{h h':Heap}(hk:∀ b o vs n,o.data=.seq vs n->h.get? b=some o->h'.get? b=some o):∀ (ds:List D) {vs:List Value} {as:List Addr},pK ds=true->gL h vs (lW ds) as->gL h' vs (lW ds) as
 | [],_,_,_,r=>by cases r; exact .nil
 | d :: ds,_,_,n,r=>by
  have n:(nr d&&pK ds)=true:=n;rw [aI] at n;cases r with
  | cons r1 r2=>exact .cons (vn hk d n.1 r1) (lD hk ds n.2 r2)
end
mutual
theorem Fw(G:Gp):∀ (sh:mx) (d:D) (n:Nat),cQ sh d=true->RN sh<=n->Sn G n d d
 | .int,.int i,n,_,_=>.int i
 | .tup l,.tup ds,n,h,hn=>by
  have hn:N8 l+1<=n:=hn;obtain⟨m,rfl⟩:∃ m,n=m+1:=⟨n - 1,by lia⟩;exact HH G l ds m h (by lia)
 | .lst s,.dR ds,n,h,hn=>by
  have hn:RN s+1<=n:=hn;obtain⟨m,rfl⟩:∃ m,n=m+1:=⟨n - 1,by lia⟩;exact HJ G s ds m h (by lia)
theorem HH(G:Gp):∀ (l:List mx) (ds:List D) (m:Nat),eW l ds=true->N8 l<=m->Sn G (m+1) (.tup ds) (.tup ds)
 | [],[],m,_,_=>.Fm
 | s :: l,d :: ds,m,h,hm=>by
  have h:(cQ s d&&eW l ds)=true:=h;have hm:max (RN s) (N8 l)<=m:=hm;rw [aI] at h;exact .pb (Fw G s d m h.1 (by lia)) (HH G l ds m h.2 (by lia))
theorem HJ(G:Gp):∀ (s:mx) (ds:List D) (m:Nat),gv s ds=true->RN s<=m->Sn G (m+1) (.dR ds) (.dR ds)
 | s,[],m,_,_=>.JM
 | s,d :: ds,m,h,hm=>by
  have h:(cQ s d&&gv s ds)=true:=h;rw [aI] at h;exact .zU (Fw G s d m h.1 hm) (HJ G s ds m h.2 hm)
end
theorem getD_at{α:Type}(xs:List α)(d:α){i:Nat}(h:i < xs.length):xs.getD i d=xs[i]:=by
 rw [dG,au h]; rfl
theorem xQ{α:Type}(xs:List α)(d:α):(ij xs.length).map (fun i=>xs.getD i d)=xs:=by
 refine List.ext_getElem (by simp) fun i h1 h2=>?_;rw [rz,oF];exact getD_at _ _ h2
theorem CH{h:Heap}{s1:mx}{l:List mx}:∀ (zs:List D) (vs:List Value),(∀ z∈zs,cQ (.tup (s1 :: l)) z=true)->(∀ i,i < vs.length->∃ as,Reads h (vs.getD i .none) (pd (zs.getD i .eh)) as)->vs.length=zs.length ->
  ∃ fs,KatTups h vs fs/\fs.length=vs.length/\∀ f∈fs,∃ d as,cQ s1 d=true/\Reads h f (pd d) as:=by
 intro zs;induction zs with
 | nil =>
  intro vs _ _ h;have:vs=[]:=List.length_eq_zero_iff.mp h;subst this;exact⟨[],trivial,rfl,fun _ h=>by cases h⟩
 | cons z zs ih =>
 intro vs hs hr hl;cases vs with
 | nil=>cases hl
 | cons v vs =>
  obtain⟨fs,h1,h2,h3⟩:=ih vs (fun z hz=>hs z (aK _ hz)) (fun i hi=>by
   obtain⟨as,r⟩:=hr (i+1) (by simpa using hi);exact⟨as,by simpa using r⟩) (by simpa using hl)
  obtain⟨as,r⟩:=hr 0 (by simp);have hz:=hs z (by simp);simp only [List.getD_cons_zero] at r;cases z <;> first | (cases hz; done) | skip
  rename_i ds;cases ds with
  | nil=>cases hz
  | cons d ds =>
   have hz:(cQ s1 d&&eW l ds)=true:=hz;rw [aI] at hz;cases r with
   | tuple k1 k2 k3 k4 =>
    rename_i p o ws c;have k5:gL h ws.toList (pd d :: lW ds) as:=k4;cases q:ws.toList with
    | nil=>rw [q] at k5; cases k5
    | cons f rest =>
     rw [q] at k5;cases k5 with
     | cons r1 r2 =>
      have hf:ws[0]?=some f:=by
       have:ws.toList[0]?=some f:=by rw [q]; rfl
       simpa using this
      refine⟨f :: fs,.cons k1 k2 k3 hf h1,by simp [h2],fun g hg=>?_⟩;rcases List.mem_cons.mp hg with rfl | hg
      ·exact⟨d,_,hz.1,r1⟩
      ·exact h3 g hg
noncomputable def LN:mx->Value
 | .int=>.type "int"
 | .tup _=>.type "tuple"
 | .lst _=>.type "list"
theorem Ac{M:Model}{h:Heap}{sh:mx}{d:D}{v:Value}{as:List Addr}(hs:cQ sh d=true)(r:Reads h v (pd d) as):Looks M h (typeOf v) (LN sh):=by
 cases sh with
 | int =>
  cases d <;> first | (cases hs; done) | skip
  cases r;exact .now
 | tup l =>
  cases d <;> first | (cases hs; done) | skip
  cases r with
  | tuple k1 k2 k3 k4 =>
   rename_i p o ws c;have:Looks M h (typeOf (.ref p)) o.cls:=(Looks.ld k1).andThen .now;rw [k2] at this; exact this
 | lst l =>
  cases d <;> first | (cases hs; done) | skip
  cases r with
  | list k1 k2 k3 k4 =>
   rename_i p o ws c as;have:Looks M h (typeOf (.ref p)) o.cls:=(Looks.ld k1).andThen .now;rw [k2] at this; exact this
theorem Kb{prog:bJ}{w:World}{A:dj}{s:av}{E:Value->av->Prop}{Q:Bool->av->Prop}{n:Nat}{b:Bool}{l:List mx}{a c:D}{u v:Value}{as bs:List Addr}(hn:(pd a).depth<=n+1)(h1:cQ (.tup l) a=true)(h2:cQ (.tup l) c=true)(n1:nr a=true)(n2:nr c=true)
  (r1:Reads s.heap u (pd a) as) (r2:Reads s.heap v (pd c) bs) (hu:A.units+n < cLine) (hq:Q (nA a c) s):wpAny (model prog w) A (keyLt' (tuples' b) u v) Q E s:=by
 first | obtain⟨_,rfl⟩:=dc h1 | obtain⟨_,rfl⟩:=c9 h1 | obtain⟨_,rfl⟩:=da h1
 first | obtain⟨_,rfl⟩:=dc h2 | obtain⟨_,rfl⟩:=c9 h2 | obtain⟨_,rfl⟩:=da h2
 rename_i xs ys;cases r1 with
 | tuple k1 k2 k3 k4 =>
  cases r2 with
  | tuple m1 m2 m3 m4 =>
   rename_i p o vs c p' o' ws c';have z1:=readsAll_len k4;have z2:=readsAll_len m4;have e1:vs.size=xs.length:=by simpa using z1
   have e2:ws.size=ys.length:=by simpa using z2
   have el:∀ (l:List mx) (xs ys:List D),eW l xs=true->eW l ys=true->xs.length=ys.length:=by
    intro l;induction l with
    | nil =>
     intro xs ys h1 h2;cases xs with
     | nil=>cases ys with
      | nil=>rfl
      | cons _ _=>cases h2
     | cons _ _=>cases h1
    | cons s l ih =>
     intro xs ys h1 h2;cases xs with
     | nil=>cases h1
     | cons x xs =>
      cases ys with
      | nil=>cases h2
      | cons y ys =>
       have h1:(cQ s x&&eW l xs)=true:=h1;have h2:(cQ s y&&eW l ys)=true:=h2;rw [aI] at h1 h2;rw [aj,aj,ih xs ys h1.2 h2.2]
   have hd:(pd (.tup xs)).depth=cB (lW xs)+1:=rfl;refine kat_lt k1 k3 m1 m3 (Bt (n:=n) hu l xs ys _ _ _ _ 0 h1 h2 n1 n2 k4 m4 (by lia) (decide_eq_false (by rw [e1,e2,el l xs ys h1 h2]; lia)) hq)
section
variable {X:Cx}
theorem Ab{x:D}{G:Gp}{zs:List D}(ty:Ld x G)(hi:itemsOf x G=some zs):pM x G=some zs:=by
 cases x <;> first | exact ty.elim | exact hi
theorem tW (hc:X.calm=true) (hu:X.A.units+64 < cLine):qh X (.builtin "sorted") t4:=by
 intro pins s σ H G xs ds us Q I ab rx rd q;unfold t4 at q;split at q
 ·rename_i x;obtain⟨sh,zs,ty,hi,zh,cD,h64,q⟩:=q;obtain⟨w1,rfl,CV⟩:=rd.one;obtain⟨u,rfl,ru⟩:=rx.one;obtain⟨l,vs,bS,rfl,rv,rs,hl,_⟩:=lN I ab ru CV (Ab ty hi);have hl1:=rv.length;have Au:=rs.length;have hsz:a8=16777216:=cS;have hz:∀ z∈zs,cQ sh z=true:=fun z h=>List.all_eq_true.mp zh z h;by_cases D7:bS.length < 2
  ·refine Fv hl D7 ?_;obtain⟨e,he⟩:=sortedAll_at s.heap bS bS.toArray;have hp:H (s.heap.objs.size+1)=none:=I.cD.fresh (Nat.le_succ _);have es:ph zs=zs:=sJ sh hz (.refl _) (by
    match zs,Au,D7 with
    | [],_,_=>exact .nil
    | [z],_,_=>exact List.pairwise_singleton _ _
    | _ :: _ :: _,h,f=>exact absurd f (by rw [<-hl1,h]; simp))
   rw [es] at q;refine⟨.ref (s.heap.objs.size+1),upd H (s.heap.objs.size+1) (.lst vs),.ref _,_,I.laid (t':=s.toks) (fun b o e=>sortedAll_old e) (Nat.le_succ _) ?_,.FT ab hp rs,rfl,.ref _,q _ (ab.free hp)⟩;exact⟨by lia,bS,e,rv,he⟩
  ·obtain⟨m,F0⟩:=I.fr;have nz:0 < zs.length:=by lia
   have nL:∀ b o vs n,o.data=.seq vs n->s.heap.get? b=some o->b≠X.env.locals:=fun b o vs n e1 e2 z=>by
    obtain⟨o',es,ep,Ck,yY,_⟩:=F0.ns;rw [z,Ck] at e2; cases e2; rw [yY] at e1; cases e1
   unfold S0 at cD;rw [aI] at cD;have hdp:RN sh<=7:=of_decide_eq_true cD.1;have sn:∀ z∈zs,Sn G 7 z z:=fun z h=>Fw G sh z 7 (hz z h) hdp;refine kat_sorted F0 Du hl (by lia) (by lia) fun Dd e1 h' F N x5=>?_;obtain⟨kk,ns⟩:=uJ I F0 F fun p hp=>N p (aK _ hp);have C1:∀ i,i < bS.length->∃ as,Reads h' (bS.getD i .none) (pd (zs.getD i .eh)) as:=fun i hi=>by
    have i1:i < zs.length:=by lia
    have i2:i < vs.length:=by lia
    have g1:zs.getD i .eh=zs[i]:=getD_at _ _ i1;have g2:bS.getD i .none=bS[i]:=getD_at _ _ hi;obtain⟨v,hv,Xr⟩:=rs.get (au i1);obtain⟨u,Gj,Xo⟩:=rv.get hv;rw [au hi] at Gj;cases Gj;obtain⟨as,r⟩:=(jP I ab (sn _ (fj i1))).1 v _ Xr Xo;rw [g1,g2];exact⟨as,vn (fun b o vs n e1 e2=>kk b o (nL b o vs n e1 e2) e2) _ (sn _ (fj i1)).nr r⟩
   have zM:∀ i,i < zs.length->cQ sh (zs.getD i .eh)=true:=fun i hi=>by rw [getD_at _ _ hi]; exact hz _ (fj hi)
   have Wx:∀ i,i < zs.length->nr (zs.getD i .eh)=true:=fun i hi=>by rw [getD_at _ _ hi]; exact(sn _ (fj hi)).nr
   have dpz:∀ i,i < zs.length->(pd (zs.getD i .eh)).depth<=7:=fun i hi=>by rw [getD_at _ _ hi]; exact BS (sn _ (fj hi))
   let zz:Nat->D:=fun i=>if i < zs.length then zs.getD i .eh else zs.getD 0 .eh
   have UC:∀ i,cQ sh (zz i)=true:=fun i=>by
    show cQ sh (if i < zs.length then zs.getD i .eh else zs.getD 0 .eh)=true;split
    ·exact zM i (by assumption)
    ·exact zM 0 nz
   let lt:Nat->Nat->Bool:=fun i j=>nA (zz i) (zz j)
   have swo:KP lt:=⟨fun i j h=>Aa sh (UC i) (UC j) h,fun i j k h1 h2=>xT sh (UC i) (UC j) (UC k) h1 h2⟩;have Z8:∀ i j,i < zs.length->j < zs.length->lt i j=nA (zs.getD i .eh) (zs.getD j .eh):=fun i j hi hj=>by
    show nA (if i < zs.length then _ else _) (if j < zs.length then _ else _)=_;rw [if_pos hi,if_pos hj]
   obtain⟨p,ep,DT,ZV,hup⟩:=Me swo (n:=bS.length) (by lia);have hA2:X.A.in1.in1.units=X.A.units+2:=rfl;have ask:∀ κ:SortKind,(∀ i j,i < bS.length->j < bS.length->∀ C:Bool->av->Prop,C (nA (zs.getD i .eh) (zs.getD j .eh)) { s with heap:=h' }->kas_ask X.prog X.w X.A.in1.in1 κ bS i j C { s with heap:=h' }) ->
     (kas_sort bS.length).kasWp (kas_ask X.prog X.w X.A.in1.in1 κ bS) (fun p UQ=>KasFin X.base X.env.locals m Dd e1 (p.toList.map fun i=>bS.getD i fE) (fun s3=>si X pins σ H G Q (.ref Dd) s3) UQ) { s with heap:=h' }:=by
    intro κ hk;refine DM (lt:=lt) (n:=bS.length) (fun i j i1 i2 C hC=>hk i j i1 i2 C (by rw [<-Z8 i j (by lia) (by lia)]; exact hC)) _ (OC (by lia)) ?_;rw [ep];refine KasFin.intro (g:=fun o=>(Dd,o) :: qC X.base s.heap X.env.locals) F N (.head (fun q hq z=>absurd (x5 q hq) (by rw [z]; exact jf _))) fun h2 c F2 N2=>?_;obtain⟨k2,ns2⟩:=uJ I F0 F2 fun p hp=>N2 p (aK _ hp);have hD:s.heap.get? Dd=none:=by
     have nD:=N _ cc;cases qd:s.heap.get? Dd with
     | none=>rfl
     | some o=>exact absurd (x5 _ (vB nD.2.1 nD.2.2 qd)) (jf _)
    have hp:H Dd=none:=IY I.cD hD;have rvp:Vals (p.toList.map fun i=>vs.getD i .eh) (p.toList.map fun i=>bS.getD i fE):=by
     have:∀ (ps:List Nat),(∀ i∈ps,i < bS.length)->Vals (ps.map fun i=>vs.getD i .eh) (ps.map fun i=>bS.getD i fE):=by
      intro ps;induction ps with
      | nil=>intro _; exact .nil
      | cons i ps ih =>
       intro hh;have hi:=hh i (by simp);refine .cons ?_ (ih fun j hj=>hh j (aK _ hj));have i2:i < vs.length:=by lia
       obtain⟨u,Gj,Xo⟩:=rv.get (au i2);rw [au hi] at Gj;cases Gj;show RelV (vs.getD i .eh) (bS.getD i .none);rw [getD_at _ _ i2,getD_at _ _ hi]; exact Xo
     exact this _ fun i hi=>by simpa using DT.mem_iff.mp hi
    have rsp:bh X.K H (p.toList.map fun i=>vs.getD i .eh) (p.toList.map fun i=>zs.getD i .eh):=by
     have:∀ (ps:List Nat),(∀ i∈ps,i < bS.length)->bh X.K H (ps.map fun i=>vs.getD i .eh) (ps.map fun i=>zs.getD i .eh):=by
      intro ps;induction ps with
      | nil=>intro _; exact .nil
      | cons i ps ih =>
       intro hh;have hi:=hh i (by simp);refine .cons ?_ (ih fun j hj=>hh j (aK _ hj));have i2:i < vs.length:=by lia
       have i1:i < zs.length:=by lia
       obtain⟨v,hv,r⟩:=rs.get (au i1);rw [au i2] at hv;cases hv;show ck X.K H (vs.getD i .eh) (zs.getD i .eh);rw [getD_at _ _ i2,getD_at _ _ i1]; exact r
     exact this _ fun i hi=>by simpa using DT.mem_iff.mp hi
    have es:ph zs=p.toList.map fun i=>zs.getD i .eh:=by
     refine sJ sh hz ?_ ?_
     ·have h1:(p.toList.map fun i=>zs.getD i .eh).Perm ((ij zs.length).map fun i=>zs.getD i .eh):=by
       have:bS.length=zs.length:=by lia
       rw [<-this];exact DT.map _
      rw [xQ] at h1;exact h1
     ·rw [zH,List.pairwise_iff_getElem];intro i j hi hj Ko;have g1:gA p i=p.toList[i]:=by
       have:i < p.size:=by simpa using hi
       simp [gA,Hz,this]
      have g2:gA p j=p.toList[j]:=by
       have:j < p.size:=by simpa using hj
       simp [gA,Hz,this]
      have bi:p.toList[i] < bS.length:=by simpa using DT.mem_iff.mp (fj hi)
      have bj:p.toList[j] < bS.length:=by simpa using DT.mem_iff.mp (fj hj)
      have:=hup i j (by lia) (by have:j < p.toList.length:=hj; rw [eP,ZV] at this; exact this);rw [g1,g2,Z8 _ _ (by lia) (by lia)] at this;exact this
    rw [es] at q;have ln:(p.toList.map fun i=>vs.getD i .eh).length<=a8:=by rw [aB,eP,ZV]; lia
    refine⟨.ref Dd,upd H Dd (.lst (p.toList.map fun i=>vs.getD i .eh)),.ref _,_,Inv.Rv (t':=s.toks) I k2 ns2 hD ?_,.FT ab hp rsp,rfl,.ref _,q _ (ab.free hp)⟩;exact⟨ln,_,c,rvp,(N2 _ cc).1⟩
   have gen:∀ i j,i < bS.length->j < bS.length->∀ C:Bool->av->Prop,C (nA (zs.getD i .eh) (zs.getD j .eh)) { s with heap:=h' }->wpAny (model X.prog X.w) X.A.in1.in1 (keyLt' oneType' (bS.getD i fE) (bS.getD j fE)) C (fun _ _=>False) { s with heap:=h' }:=by
    intro i j hi hj C hC;obtain⟨as,r1⟩:=C1 i hi;obtain⟨bs,r2⟩:=C1 j hj;rw [keyLt'_oneType];exact vz (s:={ s with heap:=h' }) (n:=7) (dpz i (by lia)) (zM i (by lia)) (zM j (by lia)) (Wx i (by lia)) (Wx j (by lia)) r1 r2 (by rw [hA2]; lia) X.prog X.w _ C hC
   have lk:∀ v∈bS,Looks (model X.prog X.w) h' (typeOf v) (LN sh):=fun v hv=>by
    obtain⟨i,hi,rfl⟩:=List.getElem_of_mem hv;obtain⟨as,r⟩:=C1 i hi;rw [getD_at _ _ hi] at r;exact Ac (zM i (by lia)) r
   cases sh with
   | int=>exact kas_kind (s:={ s with heap:=h' }) (T:=.type "int") (by lia) lk rfl rfl (ask oneType' gen)
   | lst ss=>exact kas_kind (s:={ s with heap:=h' }) (T:=.type "list") (by lia) lk rfl rfl (ask oneType' gen)
   | tup ss =>
    cases ss with
    | nil=>exact absurd cD.2 (by simp)
    | cons s1 ss =>
     obtain⟨fs,t1,t2,t3⟩:=CH (h:=h') zs bS hz C1 (by lia);refine kat_kind (s:={ s with heap:=h' }) (T:=LN s1) t1 (by lia) (fun f hf=>?_) (by cases s1 <;> rfl) (ask _ fun i j hi hj C hC=>?_)
     ·obtain⟨d,as,h1,h2⟩:=t3 f hf;exact Ac h1 h2
     ·obtain⟨as,r1⟩:=C1 i hi;obtain⟨bs,r2⟩:=C1 j hj;exact Kb (s:={ s with heap:=h' }) (n:=7) (by have:=dpz i (by lia); lia) (zM i (by lia)) (zM j (by lia)) (Wx i (by lia)) (Wx j (by lia)) r1 r2 (by rw [hA2]; lia) hC
 ·exact q.elim
end
end K2
end
section
namespace L2
open PySem PySem.Spec PyProof.Rows
section
variable {prog:bJ} {w:World} {A:dj} {E:Value->av->Prop} {s:av}
theorem Ge{d:Addr}{od:Obj}{es:Array eZ}{c:Nat}{Q:Value->av->Prop}(ns:(d == cY)=false)(Cj:s.heap.get? d=some od)(ex:od.ExactDict)(dd:od.data=.dict es c)
  (hQ:Q (.ref s.heap.objs.size) { s with heap:=s.heap.push { cls:=.type "dict_keyiterator",data:=.fields #[.ref d,.int 0 0,.int es.size 0,.int c 0] } }):wpAny (model prog w) A (Lu (.ref d)) Q E s:=by
 have ty:s.TypeIs (.ref d) "dict":=⟨od,Cj,ex.1⟩;refine my ty F.slot_dict_iter (cX F.slot_dict_iter ty F.entry_dict_iter ?_ (F.args_dict_iter_1 _));unfold Builtin.«dict.__iter__» Builtin.Dict.dictSlotNone;refine ag (ag (wy ty (show wpAny _ _ (pure (fk d)) _ _ s from aA ?_)));show wpAny _ _ (jY d >>= _) _ _ s;unfold jY;rw [if_neg (fun z=>by rw [ns] at z; cases z)];refine ag (aA (ag (gi Cj dd (ag (lr Cj dd ?_)))));refine ag (dg (aA ⟨_,rfl,"dict_keyiterator",_,⟨_,bz _ rfl,rfl⟩,F.slot_dict_keyiterator_next.lookup,?_⟩));simpa [Cs] using hQ
theorem Ka{it d:Addr}{od:Obj}{es:Array eZ}{i c:Nat}{Q:Option Value->av->Prop}(ki:s.heap.IsKeyIter it d i es.size c)(Cj:s.heap.get? d=some od)(dd:od.data=.dict es c)(hi:i < es.size)
  (hQ:∀ h',h'.IsKeyIter it d (i+1) es.size c->fc it s.heap h'->Q (some es[i].key) { s with heap:=h' }):wpAny (model prog w) A (Ct (.ref it)) Q E s:=by
 obtain⟨o,ho,hc,hf⟩:=id ki;unfold Ct;refine ag (Cq (iE (name:=uo "__next__") ki.typeIs iU (cX iU ki.typeIs Fd ?_ (ET _))));refine ag (aA (ag (ag ?_)))
 first | refine ag (iO ki.typeIs (aA ?_)) | refine ag (kE ki.typeIs (aA ?_))
 refine ag (mQ ho hf ?_);have SR:eN "dict_keyiterator" = false:=by decide
 rw [SR];show wpAny _ _ (if (fk d == fE)=true then _ else _) _ _ s;rw [if_neg (fun z=>by cases z)];refine ag (aA (ag (gi Cj dd ?_)));rw [if_neg (by simp)];refine ag (aA (ag (lr Cj dd ?_)));rw [if_neg (by simp)];refine aA ?_;dsimp only;rw [if_neg (show ¬ ((i:Int) < 0) from Int.not_lt.mpr (oO i)),fL,Fg hi];dsimp only;refine ag ?_
 first | refine ag (iO ki.typeIs (aA ?_)) | refine ag (kE ki.typeIs (aA ?_))
 refine ag (wpAny_isOneOf_keyiter ki.typeIs ?_);show wpAny _ _ (setField (.ref it) 1 (Cs ((i:Int)+1)) >>= _) _ _ s;refine ag (O1 ho hf (by simp) ?_);have ki2:(s.heap.update it (Obj.mapFields (·.setIfInBounds 1 (Cs ((i:Int)+1))))).IsKeyIter it d (i+1) es.size c :=
  ⟨_,ui _ ho (Obj.isFreed_of_fields (Obj.data_mapFields hf _)),(Obj.cls_mapFields ..).trans hc,by rw [Obj.data_mapFields hf]; simp [Cs]⟩
 refine ag (eK (ag (wpAny_isOneOf_keyiter (s:={ s with heap:=s.heap.update it (Obj.mapFields (·.setIfInBounds 1 (Cs ((i:Int)+1)))) }) ki2.typeIs ?_)));show wpAny _ _ (pure es[i].key) _ _ _;exact aA (aA ⟨_,rfl,aA (hQ _ ki2 (iT ..))⟩)
theorem M4{it d:Addr}{od:Obj}{es:Array eZ}{i c:Nat}{Q:Option Value->av->Prop}(calm:A.handled=none)(ki:s.heap.IsKeyIter it d i es.size c)(Cj:s.heap.get? d=some od)(dd:od.data=.dict es c)(hi:es.size<=i)
  (hQ:∀ h',Heap.ExtBut it s.heap h'->Q none { s with heap:=h' }):wpAny (model prog w) A (Ct (.ref it)) Q E s:=by
 obtain⟨o,ho,hc,hf⟩:=id ki;unfold Ct;refine ag (Cq (iE (name:=uo "__next__") ki.typeIs iU (cX iU ki.typeIs Fd ?_ (ET _))));refine ag (aA (ag (ag ?_)))
 first | refine ag (iO ki.typeIs (aA ?_)) | refine ag (kE ki.typeIs (aA ?_))
 refine ag (mQ ho hf ?_);have SR:eN "dict_keyiterator" = false:=by decide
 rw [SR];show wpAny _ _ (if (fk d == fE)=true then _ else _) _ _ s;rw [if_neg (fun z=>by cases z)];refine ag (aA (ag (gi Cj dd ?_)));rw [if_neg (by simp)];refine ag (aA (ag (lr Cj dd ?_)));rw [if_neg (by simp)];refine aA ?_;dsimp only;rw [if_neg (show ¬ ((i:Int) < 0) from Int.not_lt.mpr (oO i)),fL,La hi];dsimp only;refine ag ?_
 first | refine ag (iO ki.typeIs (aA ?_)) | refine ag (kE ki.typeIs (aA ?_))
 show wpAny _ _ (setField (.ref it) 0 .none >>= _) _ _ s;refine ag (O1 ho hf (by simp) ?_);show wpAny _ _ (newExc (.type "StopIteration") [] >>= _) _ _ _;refine ag ?_;simp only [newExc,newTuple];refine ag (dg (ag (m:=zF _ _) (wpAny_of_eq (a:=fE) (by first | rfl | (simp only [zF]; rfl)) (dg ?_ (by size_fits)))) (by size_fits));simp only [raiseNew];refine ag (wpAny_handled ?_);rw [show A.in1.handled=none from calm];refine ag (aA (wpAny_throw ?_));refine ag (nC (T:="StopIteration") (b:=true) ⟨_,bz _ rfl,rfl⟩ isSubtype_stop (?_));exact aA (hQ _ (((iT ..).extBut.push _).push _))
end
noncomputable def Itk(a:Addr)(o:Obj)(es:Array eZ)(ks:List V):It :=
 ⟨fun i H=>(∃ u,H a=some (.jl o u))/\i < es.size,fun i H v H'=>H'=H/\ks[i]?=some v,fun i H=>(∃ u,H a=some (.jl o u))/\es.size<=i⟩
theorem Jy{P:bJ}{w:World}{K:ai}{tg:Expr}(a it:Addr)(o:Obj)(es:Array eZ)(c:Nat)(ks:List V)(dd:o.data=.dict es c)(hk:∀ i (h:i < es.size),∃ v,ks[i]?=some v/\RelV v es[i].key) :
  Turn P w K tg (Itk a o es ks) [it] it (fun i h=>h.IsKeyIter it a i es.size c) where
 mem:=by simp
 obj:=fun i h st b hb=>by
  have e:b=it:=by simpa using hb
  subst e;obtain⟨o',q,_,d⟩:=st;exact⟨o',q,fun v z=>by rw [d] at z; cases z⟩
 keep:=(by rintro i h h' ⟨o',q,r⟩ k; exact⟨o',k it (by simp) o' q,r⟩)
 item:=by
  intro X hP hw hK hc i pins s σ H E I hf st hg;subst hP hw hK;obtain⟨⟨u,hu⟩,hi⟩:=hg;obtain⟨f0,f1,f2,f3,f4,f5⟩:=hf it (by simp);obtain⟨v,hv,rv⟩:=hk i hi;refine Ka st (I.cD a _ hu).1 dd hi fun h' EW sb=>?_;have I1:Inv X pins σ H { s with heap:=h' }:=I.turned (t':=s.toks) (fun b o hb e=>(sb.2 b hb).trans e) f0 f1 f3 f4 f5;obtain⟨o',e,cl,d'⟩:=id EW;exact⟨_,rfl,IV (s:={ s with heap:=h' }) e cl d' (by decide) ⟨v,H,I1,rv,⟨rfl,hv⟩,EW,fun b hb=>(hf b hb).1⟩⟩
 done:=by
  intro X hP hw hK hc i pins s σ H E I hf st hg;subst hP hw hK;obtain⟨⟨u,hu⟩,hi⟩:=hg;obtain⟨f0,f1,f2,f3,f4,f5⟩:=hf it (by simp);exact M4 (I.ok.hd hc) st (I.cD a _ hu).1 dd hi fun h' eb=>⟨rfl,I.turned (t':=s.toks) (fun b o hb e=>eb b o hb e) f0 f1 f3 f4 f5⟩
 self:=fun A i s Q E st h=>by
  refine my st.typeIs Hw (cX Hw st.typeIs F.entry_dict_keyiterator_iter ?_ (F.args_dict_keyiterator_iter_1 _));show wpAny _ _ (ret (.ref it)) _ _ s;exact aA ⟨_,rfl,"dict_keyiterator",_,st.typeIs,F.slot_dict_keyiterator_next.lookup,h⟩
end L2
namespace K2
open PySem PySem.Spec PyProof.Rows L2
section
variable {X:Cx} {tg a:Expr} {ta:gb} {pos p:Pos}
theorem uH{α β:Type}{F:α->β->Prop}:∀ {l:List α} {m:List β},jH F l m->∀ i (h1:i < l.length) (h2:i < m.length),F l[i] m[i]:=by
 intro l m h;induction h with
 | nil=>intro i h1; exact absurd h1 (uu i)
 | cons h t ih =>
  intro i h1 h2;cases i with
  | zero=>exact h
  | succ i=>exact ih i (OO h1) (OO h2)
theorem Nb{P:bJ}{w:World}{k:Key}{u:Value}(h:(cK P w).is k u=true):RelV (kV k) u:=by
 rcases eg h with ⟨i,t,rfl,rfl⟩ | ⟨x,t,rfl,rfl⟩
 ·exact⟨t,rfl⟩
 ·exact⟨t,rfl⟩
theorem lh.keys{K:ai}{H:Hp}:∀ {kv:List (Key×V)} {kvs:List (D×D)},lh K H kv kvs->kvs.map (·.1)=kv.map fun p=>dM p.1:=fun h =>
 lh.ind (motive:=fun kv kvs _=>kvs.map (·.1)=kv.map fun p=>dM p.1) rfl (fun _ _ ih=>congrArg (_ :: ·) ih) h
theorem kY.keys{K:ai}{H:Hp}:∀ {kv:List (List Key×V)} {kvs:List (D×D)},kY K H kv kvs->kvs.map (·.1)=kv.map fun p=>D.tup (p.1.map dM):=fun h =>
 kY.ind (motive:=fun kv kvs _=>kvs.map (·.1)=kv.map fun p=>D.tup (p.1.map dM)) rfl (fun _ _ ih=>congrArg (_ :: ·) ih) h
theorem C0{K:ai}{H:Hp}(k:Key):ck K H (kV k) (dM k):=by
 cases k with
 | inl i=>exact .int i
 | inr x=>exact .str x
theorem uA{K:ai}{H:Hp}:∀ (ks:List Key),bh K H (ks.map kV) (ks.map dM)
 | []=>.nil
 | k :: ks=>.cons (C0 k) (uA ks)
theorem sW(ha:gy X a ta):Lo X tg a (pN ta):=by
 intro E pins s σ H τ G R hE I h;refine jh ha hE I h fun x H1 d G1 v s1 I1 m1 r1 jd q1=>?_;unfold Bw at q1;have go:∀ (l:Addr) (o:Obj) (u:HO) (kvs:List (D×D)) (es:Array eZ) (c:Nat) (ks:List V),(l == cY)=false->H1 l=some (.jl o u)->o.ExactDict->o.data=.dict es c->(∀ i (h:i < es.size),∃ v,ks[i]?=some v/\RelV v es[i].key)->ks.length=es.size ->
   bh X.K H1 ks (kvs.map (·.1))->R (kvs.map (·.1)) (fun _=>True) G1->wpAny (model X.prog X.w) X.A (Lu (.ref l)) (KQ X pins σ tg H G R) X.xe s1:=by
  intro l o u kvs es c ks ns hl ex dd hk hlen rs q;refine Ge ns (I1.inv.cD l _ hl).1 ex dd ?_;refine⟨s1.heap.objs.size,[s1.heap.objs.size],_,_,H1,G1,kvs.map (·.1),_,rfl,I1.inv.kept (t':=s1.toks) fun b o e=>aJ _ e,m1,Jy l _ o es c ks dd hk,⟨_,bz _ rfl,rfl,rfl⟩,fun b hb=>?_,fun i H2 G2 k ab _=>?_,q⟩
  ·have e:b=s1.heap.objs.size:=by simpa using hb
   subst e;exact I1.inv.BB (aE _) (I1.inv.cD.fresh (aE _))
  ·have Au:=k.jl _ _ _ hl;have HS:=rs.mono k;refine⟨fun d hd=>?_,fun hle=>⟨⟨u,Au⟩,by rw [<-hlen,rs.length]; exact hle⟩⟩;obtain⟨v,hv,r⟩:=HS.get hd;have hi:i < es.size:=by rw [<-hlen]; exact(List.getElem?_eq_some_iff.mp hv).1
   refine⟨⟨⟨u,Au⟩,hi⟩,?_⟩;rintro x H3 ⟨e,y⟩;subst e;rw [hv] at y;cases y;exact⟨r,.refl ab⟩
 cases jd with
 | oI hq rs =>
  rename_i l o kv kvs;cases r1;obtain⟨z,ns,vs,rel,ob,es,ep,ho,ex,dd,hko,hp,nd⟩:=(I1.inv.cD l _ hq).2;have eo:ob=o:=by have:=(I1.inv.cD l _ hq).1; rw [ho] at this; exact aX this
  subst eo;have l1:es.size=vs.length:=by simpa using hp.length
  have l2:kv.length=vs.length:=gX rel;refine go l ob _ kvs es ep (kv.map fun p=>kV p.1) ns hq ex dd (fun i hi=>?_) (by rw [aB]; lia) ?_ q1
  ·have i2:i < vs.length:=by lia
   have i3:i < kv.length:=by lia
   have g1:=(hp.get? (e:=es[i]) (k:=vs[i].1) (v:=vs[i].2) (by rw [au (by simpa using hi)]; simp) (by rw [au i2])).1;refine⟨kV kv[i].1,by simp [i3],?_⟩;have ek:kv[i].1=vs[i].1:=(uH rel i i3 i2).1;rw [ek];exact Nb g1
  ·rw [rs.keys];have:∀ (l:List (Key×V)),bh X.K H1 (l.map fun p=>kV p.1) (l.map fun p=>dM p.1):=by
    intro l;induction l with
    | nil=>exact .nil
    | cons p l ih=>exact .cons (C0 p.1) ih
   exact this kv
 | oH hq rs =>
  rename_i l o kv kvs;cases r1;obtain⟨z,ns,xs,rel,ob,es,ep,ho,ex,dd,hl,nd⟩:=(I1.inv.cD l _ hq).2;have eo:ob=o:=by have:=(I1.inv.cD l _ hq).1; rw [ho] at this; exact aX this
  subst eo;have l1:=congrArg dU hl;rw [aB,eP] at l1;refine go l ob _ kvs es ep (xs.map fun q=>V.ref q.2.1) ns hq ex dd (fun i hi=>?_) (by rw [aB]; lia) ?_ q1
  ·have i2:i < xs.length:=by lia
   refine⟨.ref xs[i].2.1,by simp [i2],?_⟩;have:es[i]=entryOfKey (hU (cK X.prog X.w)) xs[i]:=by
    have:=congrArg (fun l=>l[i]?) hl;simp only [bB,au i2] at this;simpa [hi] using this
   rw [this];rfl
  ·rw [rs.keys];have:∀ (kv:List (List Key×V)) (xs:List (List Key×Addr×Value)),jH (fun (p:List Key×V) (q:List Key×Addr×Value)=>p.1=q.1/\H1 q.2.1=some (.tup (p.1.map kV))/\RelV p.2 q.2.2) kv xs->bh X.K H1 (xs.map fun q=>V.ref q.2.1) (kv.map fun p=>D.tup (p.1.map dM)):=by
    intro kv xs r;induction r with
    | nil=>exact .nil
    | cons h _ ih=>exact .cons (.tup h.2.1 (uA _)) ih
   exact this kv xs rel
 | _=>exact q1.elim
end
end K2
end
section
namespace L2
open PySem PySem.Spec PyProof.Rows
section
variable {X:Cx}
noncomputable def OM(i j:Int):Prop:=i.natAbs < 2 ^ 4000/\j.natAbs < 2 ^ 4000
theorem OM.ok{i j:Int}(h:OM i j):IntMulOk i j:=by
 have h1:=intBits_le h.1;have h2:=intBits_le h.2;unfold IntMulOk;intro z;rw [aI] at z;have z2:((Fe i+Fe j:Nat):Int) > (bitsLine:Int):=of_decide_eq_true z.2;have hb:8000<=bitsLine:=by decide
 lia
theorem PY:KU X (iF .Mult) (rI OM fun i j=>.int (i * j)):=Wu fun _ _ _ _ _ _ _ hc q=>mul_int q hc.ok
end
end L2
namespace K2
open PySem PySem.Spec PyProof.Rows L2
section
variable {X:Cx}
theorem xF:oM X (iF .Mult) zV:=by
 intro pins s σ H G x y dx dy v u Q I ab rx ry dX dY q;cases dX with
 | int i =>
  cases dY with
  | int j=>exact gB (PY pins s σ H _ _ v u (AU X.K H G Q) I rx ry ⟨i,j,rfl,rfl,q.1,_,_,.refl ab,.int _,q.2⟩) fun _ _ z=>.of z
  | _=>exact bO q
 | _=>exact bO q
theorem uV{pins:List (Addr×Obj)}{σ:L2.St}{H:Hp}{s:av}{G:Gp}{x:V}{d:D}{kvs:List (D×D)}(I:Inv X pins σ H s)(ab:kZ X.K H G)(rd:ck X.K H x d)(hd:tR d G=some kvs)(h1:tF kvs=true) :
  ∃ a kv vs,x=.ref a/\lh X.K H kv kvs/\kv.length<=a8/\(a == cY)=false/\KV kv vs/\s.heap.DictOf (cK X.prog X.w) a vs:=by
 have empty:∀ (a:Addr) (kv:List (List Key×V)),fB X.prog X.w H s.heap a (.dT kv)->kY X.K H kv kvs ->
   ∃ a' kv vs,V.ref a=.ref a'/\lh X.K H kv kvs/\kv.length<=a8/\(a' == cY)=false/\KV kv vs/\s.heap.DictOf (cK X.prog X.w) a' vs:=by
  intro a kv ok rs;cases rs with
  | nil =>
   obtain⟨z,hm,xs,rel,o,es,ep,ho,hx,yY,hl,nd⟩:=ok;have hv:xs=[]:=by cases rel; rfl
   subst hv;have he:es=#[]:=by simpa using hl
   subst he;exact⟨a,[],[],rfl,.nil,cE _,hm,.nil,o,#[],ep,ho,hx,yY,(fun _ h=>by simp at h),.nil,cF⟩
  | cons _ _=>simp [tF,ef] at h1
 cases rd with
 | oI hq rs =>
  cases (show some _=some kvs from hd);obtain⟨z,hm,vs,rel,dd⟩:=rg I.cD (.inr ⟨_,hq⟩);exact⟨_,_,vs,rfl,rs,z,hm,rel,dd⟩
 | oH hq rs =>
  cases (show some _=some kvs from hd);exact empty _ _ (I.cD _ _ hq).2 rs
 | ref a =>
  unfold tR at hd;dsimp only at hd;split at hd
  ·rename_i kv' hg;cases hd;rcases ab a _ hg with ⟨kv,hv,rs⟩ | ⟨kv,hv,rs⟩
   ·obtain⟨z,hm,vs,rel,dd⟩:=AG I.cD hv;exact⟨a,kv,vs,rfl,rs,z,hm,rel,dd⟩
   ·exact empty a _ (I.cD _ _ hv) rs
  ·cases hd
 | _=>cases hd
theorem GY:qh X (.type "dict") Ji:=by
 intro pins s σ H G xs ds us Q I ab rx rd q;unfold Ji at q;split at q
 ·rename_i x;obtain⟨kvs,hd,h1,hl,q⟩:=q;obtain⟨v,rfl,r⟩:=rd.one;obtain⟨a,kv,vs,rfl,rs,z,hm,rel,dd⟩:=uV I ab r hd h1;obtain⟨u,rfl,ru⟩:=rx.one;cases ru;refine kt_call_dict hm dd (by rw [<-rel.length]; exact z) fun h' AJ hs=>?_;have hp:H s.heap.objs.size=none:=I.cD.fresh (aE _);refine⟨.ref _,upd H s.heap.objs.size (.dK kv),.ref _,_,I.laid (a:=s.heap.objs.size) (o:=.dK kv) (t':=s.toks) (fun b q hq=>?_) (aE _) (BQ z (beq_eq_false_iff_ne.mpr (gf (bK I.big))) rel AJ),.new ab hp (.dk bY (rs.mono (.new hp))),rfl,.ref _,q _ (ab.free hp)⟩;exact(hs.2 b (bK (aU hq))).trans (aJ _ hq)
 ·exact q.elim
theorem Iz:K3 X "dict.get" J0:=by
 intro pins s σ H G x d xs ds v us Q I ab rx rd OV C1 q;unfold J0 at q;split at q
 ·rename_i k d';obtain⟨kvs,hd,h1,hk,q⟩:=q;obtain⟨w,w2,rfl,CV,Pw⟩:=C1.two;obtain⟨u1,u2,rfl,JL,Mg⟩:=vals2 OV;obtain⟨a,kv,vs,rfl,rs,z,hm,rel,dd⟩:=uV I ab rd hd h1;cases rx;obtain⟨kk,rfl⟩:=tG hk;have ey:=sQ CV;subst ey;refine wG gj dd.typeIs Hs (Fb _ _ _) (meets_dict_get_default (cK X.prog X.w) a (xZ JL) hm u2) ⟨_,dd.mapOf,?_⟩;have ro:=(rel.val kk).getD Mg;rcases rs.look kk with ⟨v',d2,e1,e2,r⟩ | ⟨e1,e2⟩
  ·rw [e1] at ro;rw [e2] at q;exact⟨v',H,d2,G,I.tok _,.refl ab,ro,r,q⟩
  ·rw [e1] at ro;rw [e2] at q;exact⟨w2,H,d',G,I.tok _,.refl ab,ro,Pw,q⟩
 ·exact q.elim
end
end K2
end
section
namespace L2
open PySem PySem.Spec PyProof.Rows
noncomputable def Iti(a:Addr)(o:Obj)(kv:List (Key×V)):It :=
 ⟨fun i H=>(∃ u,H a=some (.jl o u))/\i < kv.length,fun i H v H'=>∃ T p,v=.ref T/\H T=none/\H'=upd H T (.tup [kV p.1,p.2])/\kv[i]?=some p,fun i H=>(∃ u,H a=some (.jl o u))/\kv.length<=i⟩
theorem xE{α β:Type}{F:α->β->Prop}:∀ {l:List α} {m:List β},jH F l m->∀ i (h1:i < l.length) (h2:i < m.length),F l[i] m[i]
 | _,_,.cons h _,0,_,_=>h
 | _,_,.cons _ t,i+1,h1,h2=>xE t i (by simpa using h1) (by simpa using h2)
theorem Ke{P:bJ}{w:World}{k:Key}{u:Value}(h:(cK P w).is k u=true):RelV (kV k) u:=by
 rcases eg h with ⟨i,t,rfl,rfl⟩ | ⟨x,t,rfl,rfl⟩
 ·exact⟨t,rfl⟩
 ·exact⟨t,rfl⟩
theorem kH:entryFor table "dict_itemiterator.__iter__" = some Builtin.«dict_keyiterator.__iter__» :=
 entryFor_alias (id':="dict_keyiterator.__iter__") (by rw [fastTable_eq_tree]; kernel_rfl) (by decide +kernel) (by decide +kernel) (by rw [fastTable_eq_tree]; kernel_rfl)
theorem Fj{P:bJ}{w:World}{K:ai}{elts:List Expr}{kk:Nat}{pos:Pos}(a it:Addr)(o:Obj)(kv:List (Key×V))(vs:List (Key×Value))(ep:Nat)(rel:KV kv vs)(hD:∀ h:Heap,h.get? a=some o->h.DictAt (cK P w) a vs ep) :
  Turn P w K (.Tuple elts kk pos) (Iti a o kv) [it] it (fun i h=>∃ ok ov,mE h it a i vs.length ep ok ov) where
 mem:=by simp
 obj:=fun i h ⟨ok,ov,st⟩ b hb=>by
  have e:b=it:=by simpa using hb
  subst e;exact⟨_,st,fun v z=>by cases z⟩
 keep:=fun i h h' ⟨ok,ov,st⟩ k=>⟨ok,ov,k it (by simp) _ st⟩
 item:=by
  intro X hP hw hK hc i pins s σ H E I hf st hg;obtain⟨ok,ov,st⟩:=st;subst hP hw hK;obtain⟨⟨u,hu⟩,hi⟩:=hg;have hl:=rel.length;have hi2:i < vs.length:=by lia
  have hx:vs[i]?=some (vs[i].1,vs[i].2):=au hi2;have rp:=xE rel i hi hi2;have VR:H s.heap.objs.size=none:=I.cD.fresh (aE _);have YS:it≠s.heap.objs.size:=bK (aU st);refine wpAny_pyNext_items_item st (hD _ (I.cD a _ hu).1) hx fun key h' hk ho hT hsz kk=>?_;refine⟨_,rfl,?_⟩;have rk:RelV (kV kv[i].1) key:=by rw [rp.1]; exact Ke hk
  have I1:Inv X pins σ (upd H s.heap.objs.size (.tup [kV kv[i].1,kv[i].2])) { s with heap:=h',toks:=s.toks } :=
   I.A4 (fp:=[it]) hf (fun b o hb q=>kk b o (fun z=>hb (by simp [z])) q) (aE _)
    ⟨by show 2<=a8; decide,[key,vs[i].2],.cons rk (.cons rp.2 .nil),⟨_,hT,rfl,_,rfl⟩⟩
  refine Lq (s:={ s with heap:=h' }) ho fun h2 VJ IQ=>?_;have f1:∀ b∈[it],mP X pins (upd H s.heap.objs.size (.tup [kV kv[i].1,kv[i].2])) b:=fun b hb=>(hf b hb).upd (by rw [List.mem_singleton.mp hb]; exact YS);have I2:Inv X pins σ (upd H s.heap.objs.size (.tup [kV kv[i].1,kv[i].2])) { s with heap:=h2,toks:=s.toks } :=
   Inv.vZ (s:={ s with heap:=h',toks:=s.toks }) (t':=s.toks) (fp:=[it]) I1 f1 fun b o hb q=>(IQ.2 b (fun z=>hb (by simp [z]))).trans q
  exact⟨.ref s.heap.objs.size,_,I2,rfl,⟨_,kv[i],rfl,VR,rfl,au hi⟩,⟨_,_,VJ⟩,fun b hb=>(f1 b hb).1⟩
 done:=by
  intro X hP hw hK hc i pins s σ H E I hf st hg;obtain⟨ok,ov,st⟩:=st;subst hP hw hK;obtain⟨⟨u,hu⟩,hi⟩:=hg;have hl:=rel.length;obtain⟨f0,f1,f2,f3,f4,f5⟩:=hf it (by simp);exact wpAny_pyNext_items_end (I.ok.hd hc) st (hD _ (I.cD a _ hu).1) (uf (by lia)) fun h' eb=>⟨rfl,I.turned (t':=s.toks) (fun b o hb e=>eb b o hb e) f0 f1 f3 f4 f5⟩
 self:=fun A i s Q E ⟨ok,ov,st⟩ h=>by
  have ty:s.TypeIs (.ref it) "dict_itemiterator":=⟨_,st,rfl⟩;refine my ty iI (cX iI ty kH ?_ (CA _));show wpAny _ _ (ret (.ref it)) _ _ s;exact aA ⟨_,rfl,"dict_itemiterator",_,ty,F.slot_dict_itemiterator_next.lookup,h⟩
end L2
namespace K2
open PySem PySem.Spec PyProof.Rows L2
section
variable {X:Cx}
theorem Sy{pins:List (Addr×Obj)}{σ:L2.St}{H:Hp}{s:av}{x:V}{kvs:List (D×D)}(I:Inv X pins σ H s)(rd:ck X.K H x (.ji kvs))(h1:tF kvs=true) :
  ∃ a ob u kv vs ep,x=.ref a/\H a=some (.jl ob u)/\lh X.K H kv kvs/\(a == cY)=false/\KV kv vs/\∀ h:Heap,h.get? a=some ob->h.DictAt (cK X.prog X.w) a vs ep:=by
 cases rd with
 | oI hq rs =>
  rename_i a o kv;obtain⟨z,hm,vs,rel,ob,es,ep,ho,r⟩:=(I.cD a _ hq).2;have eo:ob=o:=by have:=(I.cD a _ hq).1; rw [ho] at this; exact aX this
  subst eo;exact⟨a,ob,_,kv,vs,ep,rfl,hq,rs,hm,rel,fun h e=>⟨ob,es,e,r⟩⟩
 | oH hq rs =>
  rename_i a o kv;cases rs with
  | nil =>
   obtain⟨z,hm,xs,rel,ob,es,ep,ho,hx,yY,hl,nd⟩:=(I.cD a _ hq).2;have eo:ob=o:=by have:=(I.cD a _ hq).1; rw [ho] at this; exact aX this
   subst eo;have hv:xs=[]:=by cases rel; rfl
   subst hv;have he:es=#[]:=by simpa using hl
   subst he;exact⟨a,ob,_,[],[],ep,rfl,hq,.nil,hm,.nil,fun h e=>⟨ob,#[],e,hx,yY,(fun _ h=>by simp at h),.nil,cF⟩⟩
  | cons _ _=>simp [tF,ef] at h1
theorem lh.item{K:ai}{H:Hp}:∀ {kv:List (Key×V)} {kvs:List (D×D)} {i:Nat} {q:D×D},lh K H kv kvs->kvs[i]?=some q->∃ p,kv[i]?=some p/\q.1=dM p.1/\ck K H p.2 q.2
 | _,_,_,_,.nil,e=>by simp at e
 | _,_,0,_,.cons r _,e=>by simp at e; subst e; exact⟨_,rfl,rfl,r⟩
 | _,_,i+1,q,.cons _ t,e=>by
  obtain⟨p,h1,h2⟩:=lh.item (i:=i) (q:=q) t (by simpa using e);exact⟨p,by simpa using h1,h2⟩
variable {elts:List Expr} {kk:Nat} {CI apos jk:Pos} {o:Expr} {to:gb}
theorem JN{K:ai}{H:Hp}(k:Key):ck K H (kV k) (dM k):=by
 cases k with
 | inl i=>exact .int i
 | inr x=>exact .str x
theorem mW (ho:gy X o to) (x8:autoParam (oC o "items" X.env (eval o X.env)=eval o X.env) Ar._auto_1) (x6:autoParam ((apos.endLine == jk.line)=true) Ar._auto_1) :
  Lo X (.Tuple elts kk CI) (.Call (.Attribute o "items" apos) [] [] jk) (kB to):=by
 intro E pins s σ H τ G R hE I h;refine uk x8 x6 (jh ho hE I h fun x H1 d G1 v s1 I1 m1 r1 jd q1=>?_);cases d with
 | ji kvs =>
  obtain⟨h1,q1⟩:=q1;obtain⟨t1,t2⟩:=mS pins s1 σ H1 G1 x _ v I1.inv I1.ab r1 jd trivial;obtain⟨a,ob,u,kv,vs,ep,rfl,hu,rs,hm,rel,hD⟩:=Sy I1.inv jd h1;cases r1;refine⟨"dict","dict.items",cZ,fm,oW,t1,t2,kG rfl (vN ?_)⟩;have dA:=hD _ (I1.inv.cD a _ hu).1;refine wG fm t1 oD (nF _) (meets_dict_items (cK X.prog X.w) a hm) ⟨⟨vs,dA.dictOf⟩,?_⟩;have I2:Inv X pins σ H1 { s1 with heap:=s1.heap.push { cls:=.type "dict_items",data:=.fields #[.ref a] } }:=I1.inv.kept (t':=s1.toks) fun b o e=>aJ _ e;refine wpAny_pyIter_items (s:={ s1 with heap:=s1.heap.push { cls:=.type "dict_items",data:=.fields #[.ref a] } }) (kvs:=vs) (ep:=ep) ⟨_,bz _ rfl,rfl,rfl⟩ (dA.push _) ?_;refine⟨_,[_],_,_,H1,G1,kvs.map (fun p=>.tup [p.1,p.2]),_,rfl,I2.kept (t':=s1.toks) fun b o e=>aJ _ e,m1,Fj a _ ob kv vs ep rel hD,⟨.none,.none,bz _ rfl⟩,fun b hb=>?_,fun i H2 G2 k ab _=>?_,q1⟩
  ·have e:=List.mem_singleton.mp hb;subst e;exact I2.BB (aE _) (I2.cD.fresh (aE _))
  ·have Au:=k.jl _ _ _ hu;have HS:=rs.mono k;have hlen:kv.length=kvs.length:=rs.length;refine⟨fun d hd=>?_,fun hle=>⟨⟨u,Au⟩,by rw [hlen]; simpa using hle⟩⟩;rw [bB] at hd;cases Kn:kvs[i]? with
   | none=>rw [Kn] at hd; cases hd
   | some q =>
    rw [Kn] at hd;obtain⟨p,hp,ek,rp⟩:=HS.item Kn;have hi:i < kv.length:=(List.getElem?_eq_some_iff.mp hp).1;refine⟨⟨⟨u,Au⟩,hi⟩,fun x H3 ⟨T,p',ex,hT,e3,hy⟩=>?_⟩;subst ex e3;rw [hp] at hy;cases hy;have ed:D.tup [q.1,q.2]=d:=by simpa using hd
    subst ed;rw [ek];exact⟨.tup bY (.cons (JN _) (.cons (rp.mono (.new hT)) .nil)),.Li ab hT⟩
 | _=>exact q1.elim
end
end K2
end
section
namespace K2
open PySem PySem.Spec PyProof.Rows L2
section
variable {X:Cx}
theorem pU{K:ai}{H:Hp}:∀ {kv:List (Key×V)} {l:List (Int×Int)},lh K H kv (bu l)->kv=l.map fun p=>((.inl p.1:Key),V.int p.2)
 | _,[],h=>by cases h; rfl
 | _,p :: l,h=>by
  have h:lh K H _ ((D.int p.1,D.int p.2) :: bu l):=h;generalize e:(D.int p.1,D.int p.2) :: bu l=t at h;cases h with
  | nil=>cases e
  | cons r rs =>
   rename_i k v d r' t';injection e with e1 e2
   injection e1 with e3 e4
   subst e2 e4;cases r;rw [pU rs];cases k with
   | inl i=>cases e3; rfl
   | inr x=>cases e3
theorem tE:∀ {l:List (Int×Int)} {vs:List (Key×Value)},KV (l.map fun p=>((.inl p.1:Key),V.int p.2)) vs->∃ ts:List Tok,ts.length=l.length/\vs=(l.zip ts).map fun q=>((.inl q.1.1:Key),dW q.1.2 q.2)
 | [],_,.nil=>⟨[],rfl,rfl⟩
 | p :: l,_,.cons h r=>by
  obtain⟨ts,h1,h2⟩:=tE r;rename_i q vs;obtain⟨k,v⟩:=q;obtain⟨e1,t,e2⟩:=h;cases e1;cases e2;exact⟨t :: ts,by simp [h1],by rw [h2]; rfl⟩
theorem A2{l:List (Int×Int)}{ts:List Tok}(h:ts.length=l.length)(k:Int):(cI l k=none/\mB ((l.zip ts).map fun q=>((.inl q.1.1:Key),dW q.1.2 q.2)) (.inl k)=none)\/∃ v t,cI l k=some v/\mB ((l.zip ts).map fun q=>((.inl q.1.1:Key),dW q.1.2 q.2)) (.inl k)=some (.int v t):=by
 induction l generalizing ts with
 | nil=>exact .inl ⟨rfl,rfl⟩
 | cons p l ih =>
  cases ts with
  | nil=>cases h
  | cons t ts =>
   have ih:=ih (ts:=ts) (by simpa using h);by_cases e:p.1=k
   ·refine .inr ⟨p.2,t,?_,?_⟩
    ·unfold cI; simp [e]
    ·unfold mB; simp [e]
   ·have e':¬ ((.inl p.1:Key)=.inl k):=fun z=>e (by injection z);have a1:cI (p :: l) k=cI l k:=by unfold cI; simp [e]
    have a2:mB (((p :: l).zip (t :: ts)).map fun q=>((.inl q.1.1:Key),dW q.1.2 q.2)) (.inl k)=mB ((l.zip ts).map fun q=>((.inl q.1.1:Key),dW q.1.2 q.2)) (.inl k):=by
     unfold mB; simp [e']
    rw [a1,a2]; exact ih
theorem uN{A:dj}{s:av}{m:List (Int×Int)}{us:List Tok}(hm:us.length=m.length):∀ {l:List (Int×Int)} {ts:List Tok},ts.length=l.length ->
  PySem.W.KeqHits A s ((m.zip us).map fun q=>((.inl q.1.1:Key),dW q.1.2 q.2)) ((l.zip ts).map fun q=>((.inl q.1.1:Key),dW q.1.2 q.2)) (l.all fun p=>cI m p.1 == some p.2)
 | [],_,_=>.nil
 | p :: l,[],h=>by cases h
 | p :: l,t :: ts,h=>by
  have ih:=uN (A:=A) (s:=s) hm (l:=l) (ts:=ts) (by simpa using h);rcases A2 hm p.1 with ⟨e1,e2⟩ | ⟨v,t',e1,e2⟩
  ·have:((p :: l).all fun p=>cI m p.1 == some p.2)=false:=by simp [e1]
   rw [this];exact .miss e2
  ·have eq:SeqAt.EqAt A s (dW p.2 t) (dW v t') (decide (p.2=v)):=by
    have:=PySem.W.keq_flat (A:=A) (s:=s) (v:=dW p.2 t) (y:=dW v t') (d:=.int p.2) (e:=.int v) (.int _ _) (.int _ _);have e2:SeqAt.EqAt A s (dW p.2 t) (dW v t') (p.2 == v):=by simpa [yS] using this
    exact e2
   have:((p :: l).all fun p=>cI m p.1 == some p.2)=(decide (p.2=v)&&l.all fun p=>cI m p.1 == some p.2):=by
    rw [yW,e1];congr 1;by_cases z:p.2=v
    ·simp [z]
    ·have:¬ v=p.2:=fun y=>z y.symm;simp [z,this]
   rw [this];exact .hit e2 eq ih
theorem P6(hu:X.A.units+64 < cLine):oM X (eY .Eq) (SF false):=by
 intro pins s σ H G x y dx dy v u Q I ab rx ry dX dY q;obtain⟨l,m,e1,e2,q⟩:=q;obtain⟨a,kv,vs,rfl,rs,z,hm,rel,dd⟩:=uV I ab dX e1 (jT l);obtain⟨b,kw,ws,rfl,HS,z2,VE,Mj,Cm⟩:=uV I ab dY e2 (jT m);cases rx;cases ry;rw [pU rs] at rel;rw [pU HS] at Mj;obtain⟨ts,t1,rfl⟩:=tE rel;obtain⟨us,t2,rfl⟩:=tE Mj;refine PySem.W.keq_eq hm VE dd Cm (by lia) (fun _=>uN t2 t1) ?_;refine⟨.bl _,H,.bl _,G,I,.refl ab,rfl,.bl _,?_⟩;have:((((l.zip ts).map fun q=>((.inl q.1.1:Key),dW q.1.2 q.2)).length == ((m.zip us).map fun q=>((.inl q.1.1:Key),dW q.1.2 q.2)).length)&&l.all fun p=>cI m p.1 == some p.2)=rT l m:=by
  unfold rT; simp [t1,t2]
 rw [this]; exact q
theorem P4(hu:X.A.units+64 < cLine):oM X (eY .NotEq) (SF true):=by
 intro pins s σ H G x y dx dy v u Q I ab rx ry dX dY q;obtain⟨l,m,e1,e2,q⟩:=q;obtain⟨a,kv,vs,rfl,rs,z,hm,rel,dd⟩:=uV I ab dX e1 (jT l);obtain⟨b,kw,ws,rfl,HS,z2,VE,Mj,Cm⟩:=uV I ab dY e2 (jT m);cases rx;cases ry;rw [pU rs] at rel;rw [pU HS] at Mj;obtain⟨ts,t1,rfl⟩:=tE rel;obtain⟨us,t2,rfl⟩:=tE Mj;refine PySem.W.keq_ne hm VE dd Cm (by lia) (fun _=>uN t2 t1) ?_;refine⟨.bl _,H,.bl _,G,I,.refl ab,rfl,.bl _,?_⟩;have:((((l.zip ts).map fun q=>((.inl q.1.1:Key),dW q.1.2 q.2)).length == ((m.zip us).map fun q=>((.inl q.1.1:Key),dW q.1.2 q.2)).length)&&l.all fun p=>cI m p.1 == some p.2)=rT l m:=by
  unfold rT; simp [t1,t2]
 rw [this]; exact q
theorem Io(hu:X.A.units+64 < cLine):oM X (eY .Eq) (C8 false):=by
 intro pins s σ H G x y dx dy v u Q I ab rx ry dX dY q;rcases q with q | q
 ·exact mI hu pins s σ H G x y dx dy v u Q I ab rx ry dX dY q
 ·exact P6 hu pins s σ H G x y dx dy v u Q I ab rx ry dX dY q
theorem Im(hu:X.A.units+64 < cLine):oM X (eY .NotEq) (C8 true):=by
 intro pins s σ H G x y dx dy v u Q I ab rx ry dX dY q;rcases q with q | q
 ·exact FL hu pins s σ H G x y dx dy v u Q I ab rx ry dX dY q
 ·exact P4 hu pins s σ H G x y dx dy v u Q I ab rx ry dX dY q
variable {k v:Expr} {tk tv:gb} {pos:Pos}
theorem MC(hk:gy X k tk)(hv:gy X v tv):gy X (.Dict [some k] [v] pos) (Je tk tv):=by
 intro E pins s σ H τ G Q hE I h;have hn:=I.inv.cD.fresh (aE s.heap.objs.size);have I1:=I.inv.laid (a:=s.heap.objs.size) (o:=.dK []) (h':=s.heap.push { cls:=.type "dict",data:=.dict #[] }) (t':=s.toks) (fun _ _ q=>aJ _ q) (aE _) (Ee s.heap I.inv.big);have mh:Mv X.K H G (upd H s.heap.objs.size (.dK [])) G:=.Li I.ab hn;have I2:I2 X pins σ (upd H s.heap.objs.size (.dK [])) τ G { s with heap:=s.heap.push { cls:=.type "dict",data:=.dict #[] },toks:=s.toks }:=⟨I1,I.st.mono (.new hn),mh.ab⟩;refine wpAny_Dict_walk (knd:=cK X.prog X.w) (by rfl) (by rfl) (by simp) (show 1<=15 by decide) ?_;refine pairTrees_cons_walk (jh hk hE I2 h fun x H1 dx G1 u s1 I3 m1 r1 jd q1=>?_);refine jh hv hE I3 q1 fun y H2 dy G2 w s2 I4 m2 r2 xc q2=>?_;obtain⟨hk1,q2⟩:=q2;refine pairTrees_nil_walk ?_;obtain⟨kk,rfl⟩:=tG hk1;have ex:=sQ jd;subst ex;have g0:G s.heap.objs.size=none:=I.ab.free hn;obtain⟨p1,p2⟩:=m1.keep _ _ (bY (H:=H) (a:=s.heap.objs.size) (o:=.dK [])) g0;obtain⟨p3,p4⟩:=m2.keep _ _ p1 p2;obtain⟨rs,c,rk⟩:=yD (P:=X.prog) (w:=X.w) (kvs:=[(kk,y)]) (ws:=[(u,w)]) (.cons ⟨r1,r2⟩ .nil);obtain⟨z,hd,ZL,r0,dd⟩:=AG I4.inv.cD p3;cases r0;refine⟨rs,c,dd,fun h' AJ hs=>?_⟩;have he:∃ q,h'.get? s.heap.objs.size=some q:=let ⟨q,_,_,hq,_⟩:=AJ; ⟨q,hq⟩
 have em:FV [] [(kk,y)]=[(kk,y)]:=rfl;have kp:Kp H2 (upd H2 s.heap.objs.size (.dK [(kk,y)])):=.putD p3 (.inl ⟨_,rfl⟩);have I5:=qA (t':=s2.toks+[(u,w)].length) I4.inv (by rw [p3]; exact fI) hs he (BQ (kvs:=FV [] [(kk,y)]) (by rw [em]; exact(show 1<=a8 by decide)) hd (rk.merge .nil) AJ);rw [em] at I5;have EY:=(mh.trans m1).trans m2;refine⟨.ref s.heap.objs.size,_,.ref s.heap.objs.size,_,I5,?_,rfl,.ref _,q2 _ p4⟩;refine⟨fun a o e n=>?_,fun a n=>?_,fun a g e=>?_⟩
 ·have ha:a≠s.heap.objs.size:=fun z=>by rw [z,hn] at e; cases e
  obtain⟨k1,k2⟩:=EY.keep a o e n;exact⟨by rw [bL ha]; exact k1,by rw [dP ha]; exact k2⟩
 ·by_cases ha:a=s.heap.objs.size
  ·subst ha; rw [bY]; simp
  ·rw [bL ha]; exact EY.ly a n
 ·by_cases ha:a=s.heap.objs.size
  ·subst ha;rw [aH] at e;cases e;exact .dk bY (.cons ((xc.mono kp)) .nil)
  ·rw [dP ha] at e;exact(EY.ab a g e).mono kp (bL ha)
end
end K2
end
section
namespace K2
open PySem PySem.Spec PyProof.Rows L2 PySem.W
section
variable {X:Cx}
theorem vh:∀ (ns:List Int) (j:Nat),(∀ n∈ns,-1000<=n/\n<=1000)->-1000 * (ns.length:Int)<=(ns.take j).sum/\(ns.take j).sum<=1000 * (ns.length:Int)
 | [],j,_=>by simp
 | n :: ns,0,_=>by simp only [List.take_zero,List.sum_nil,aj]; lia
 | n :: ns,j+1,h=>by
  have h1:=h n (by simp);have:=vh ns j fun m hm=>h m (aK _ hm);rw [List.take_succ_cons,g8,aj]; lia
theorem KJ (hc:X.calm=true):qh X (.builtin "sum") TN:=by
 intro pins s σ H G xs ds us Q I ab rx rd q;unfold TN at q;split at q
 ·rename_i x;obtain⟨ns,ty,hi,⟨hn,hb⟩,q⟩:=q;obtain⟨w1,rfl,CV⟩:=rd.one;obtain⟨u,rfl,ru⟩:=rx.one;obtain⟨l,vs,bS,rfl,rv,rs,hl,_⟩:=lN I ab ru CV (Ab ty hi);have ev:=rs.ints;subst ev;have hlen:bS.length=ns.length:=by rw [<-rv.length,aB]
  obtain⟨o,ho,NH,n,hd⟩:=id hl;have Gk:l≠s.heap.objs.size:=bK (aU ho);refine call_sum_walk (wpAny_pyIter_list hl ?_);refine⟨s.heap.objs.size,_,_,_,_,_,fun i=>ns.getD i 0,rfl,Walks.list (A:=X.A.in1) (show X.A.in1.handled=none from I.ok.hd hc) _ l Gk bS.toArray,⟨⟨_,bz _ rfl,rfl,rfl⟩,⟨o,aJ _ ho,NH,n,hd⟩⟩,fun b hb=>?_,fun i v hv=>?_,fun j hj=>?_,fun h' tk t' hk=>?_⟩
  ·rcases (by simpa using hb:b=s.heap.objs.size\/b=l) with rfl | rfl
   ·rw [Hv]; exact Cw _
   ·rw [Hv]; exact Nat.lt_succ_of_lt (aU ho)
  ·have hv':bS[i]?=some v:=by simpa using hv
   have NF:i < bS.length:=(List.getElem?_eq_some_iff.mp hv').1;have Uk:i < ns.length:=by lia
   obtain⟨u,Gj,ru⟩:=rv.get (i:=i) (x:=.int ns[i]) (by rw [bB,au Uk]; rfl);rw [hv'] at Gj;cases Gj;obtain⟨t,rfl⟩:=ru;refine⟨t,?_⟩;have e9:ns.getD i 0=ns[i]:=by rw [dG,au Uk]; rfl
   show dW ns[i] t=dW (ns.getD i 0) t;rw [e9]
  ·have hj':j < ns.length:=by rw [<-hlen]; simpa using hj
   have e1:ns.getD j 0=ns[j]:=by rw [dG,au hj']; rfl
   have b1:=hb ns[j] (fj hj');have b2:=vh ns (j+1) hb;rw [y7];dsimp only;rw [e1];unfold InLong;lia
  ·have e:preSum (fun i=>ns.getD i 0) bS.toArray.size=ns.sum:=by
    rw [y7,aW,hlen,List.take_length]
   rw [e];refine⟨.int _,H,.int _,G,I.kept (t':=tk) fun b o e=>hk b o (by simpa using bK (aU e)) (aJ _ e),.refl ab,⟨_,rfl⟩,.int _,q⟩
 ·exact q.elim
end
end K2
end
section
namespace K2
open PySem PySem.Spec PyProof.Rows L2
section
variable {K:ai} {h:Heap} {C:Addr} {V7:List Value} {newId:String}
inductive T7 (h:Heap) (C:Addr) (V7:List Value) (newId:String):Prop
 | mk (bm N nm qn bs Y1 sn sub ab col dd k0 k1 k2 k3 k5 mN) (o:h.get? C=some (excClassObj nm qn C N bs bm Y1 sn sub ab col dd k0 k1 k2 k3 k5 newId)) (n:h.Ns N mN) (i:mN "__init__" = none) (t:OwnTail h V7 bm):T7 h C V7 newId
end
end K2
end
section
namespace K2
open PySem PySem.Spec PyProof.Rows L2
noncomputable def kp1:HO->Bool
 | .tup _=>true
 | .jl _ (.lst _)=>true
 | .jl _ (.dK _)=>true
 | .jl _ (.dT _)=>true
 | .jl _ (.ext _)=>true
 | .jl _ (.xd _)=>true
 | _=>false
noncomputable def hr(H:Hp):Hp:=fun b=>(H b).bind fun o=>if kp1 o=true then some o else none
noncomputable def hj(H1 H':Hp):Hp:=fun b=>match H1 b with
 | some o=>some o
 | none=>H' b
end K2
end
section
namespace K2
open PySem PySem.Spec PyProof.Rows L2
noncomputable def subIn(K:ai)(C:Addr)(v:Value):Bool:=match K.lookup C with
 | some ⟨_,_,.cls cd,_⟩=>cd.mro.contains v
 | _=>false
section
variable {X:Cx} {x cn n:Str} {D f:Addr} {fd:aC} {ps:List Str} {k i:Nat} {sp:lR} {Zp:List Value} {newD:String} {cat:List Str} {e:Expr} {es:List Expr} {p np pos ep ab7 tp:Pos} {st0:Stmt} {ZO:List Stmt} {t:He} {th:gW}
structure aaY(X:Cx):Prop where
 st:X.stack=X.env :: X.outer
 fr:X.env.frame=some X.env.locals
 ex:X.ex=[]
structure Clause(X:Cx)(i:Nat)(n cn:Str)(D:Addr)(cat:List Str):Prop where
 nd:X.N.Nodup
 TX:X.N[i]?=some n
 loc:X.env.scope.names.lookup n=some .local
 gl:Gl X cn
 mg:X.mg cn=some (.ref D)
 cls:∃ Zp newD,PySem.W.excIn X.K D Zp newD=true/\Zp.contains (.type "BaseException")=true
 cat:∀ c,cat.contains c=true->∃ C V7 newId,c5 X.K bP c=some (some (.ref C))/\PySem.W.excIn X.K C V7 newId=true/\subIn X.K C (.ref D)=true
end
end K2
end
section
namespace K2
open PySem PySem.Spec PyProof.Rows L2 PySem.W PySem.Calls PySem.Builtin PySem.Builtin.Getset_descriptor
section
variable {prog:bJ} {w:World} {A:dj} {E:Value->av->Prop} {s:av} {K:ai} {a C:Addr} {ox:Obj}
structure aaV(K:ai)(C:Addr):Prop where
 ga:findIn K (.ref C) "__getattribute__" = some (some (.builtin "BaseException.__getattribute__"))
 gn:findIn K (.ref C) "__getattr__" = some none
 TX:findIn K (.ref C) "__class__" = some (some (.builtin "object.__class__"))
 sp:specialIn K (.builtin "object.__class__") "__get__" = some (some (.builtin "getset_descriptor.__get__"))
 tk:takesIn K (.builtin "object.__class__")=some true
 mo:mroIn K C (.type "object")=some true
 mb:mroIn K C (.type "BaseException")=some true
 is:(clsIn K C).isSome=true
end
end K2
end
section
namespace K2
open PySem PySem.Spec PyProof.Rows L2
section
variable {X:Cx} {e:Expr} {te:gb} {pos:Pos}
theorem kz{i:Nat}{x:Str}{pos':Pos}(hN:X.N.Nodup)(hi:X.N[i]?=some x)(he:gy X e te)(hx:autoParam (Loc X.env.scope x) Ao._auto_1)(hs:autoParam (Ls e (some (.Name x pos')) pos.line X.env=pure false) Ar._auto_1)(hf:autoParam (X.fn x=true\/X.env.scope.names.lookup x=some .local) Ao._auto_1) :
  Hf X (.Assign [.Name x pos'] e pos) (bM te (aO i)):=PI hN hi hx he hs hf
theorem lV{i:Nat}{x:Str}(hN:X.N.Nodup)(hi:X.N[i]?=some x)(hx:autoParam (Loc X.env.scope x) Ao._auto_1)(hf:autoParam (X.fn x=true\/X.env.scope.names.lookup x=some .local) Ao._auto_1):KR X (.Name x pos) (aO i):=Mx hN hi hx hf
theorem qO{P:bJ}{w:World}{K:ai}{mg:Str->Option Value}{base:Heap}{x qual:Str}{st:Stmt}{f:Addr}{fd:aC}{Nn ps:List Str}{k:Nat}{sp:lR}{rd:gW}(F:nu K x qual st f fd)(S:cA Nn ps (bc st))
  (hr:∀ ds G Q,sp ds G Q (fun _ _=>False)->rd (fun _ _=>False) (ends Q) (bD Nn.length ds) G)
  (hb:∀ (nB:Value) (A:dj) (outer:List Env) (s:av) (H:Hp) (E:XK),lO k (A.deeper (Cu qual (bc st) s.heap.objs.size f nB))->yH (Ep fD P w K mg base Nn qual (bc st) f nB A outer s H E).Ue (jB st) rd)
  (len:autoParam (∀ ds G Q E,sp ds G Q E->ds.length=ps.length) Al._auto_1):fH P w K mg base fD (k+1) f fd ps (cG K sp):=Qs F S len hr hb
theorem qI{N ps:List Str}{sc:Scope}(h1:autoParam (sc.kind=.function) Ar._auto_1)(h2:autoParam (sc.isCoroutine=false) Ar._auto_1)(h3:autoParam (sc.isGenerator=false) Ar._auto_1)(h4:autoParam N.Nodup Ak._auto_1)(h5:autoParam (N.take ps.length=ps) Ar._auto_1)
  (h6:autoParam (∀ x∈ps,sc.names.lookup x=some .local\/sc.names.lookup x=some .cell) Ak._auto_1) (h7:autoParam (∀ y∈sc.names,y.2≠.free) Ak._auto_1):cA N ps sc:=⟨h1,h2,h3,h4,h5,h6,h7⟩
end
end K2
end
section
namespace K2
open PySem PySem.Spec PyProof.Rows L2
section
variable {X:Cx} {a b c:Expr} {ta tb tc:gb} {pos:Pos}
theorem v7 {x:Str} {i:Int} {t:Tok} {p:Pos} (hg:Gl X x) (hm:X.mg x=some (.int i t)) (hd:autoParam ((x == ("__debug__" : Str))=false) Ad._auto_1):gy X (.Name x p) (dC (.int i)):=uF (PQ (v:=.int i) hg hm ⟨t,rfl⟩ hd) fun _ _=>.int i
end
end K2
end
section
namespace K2
open PySem PySem.Spec PyProof.Rows L2
theorem qM{α:Type}{us:List α}(h:us.length=1):∃ a,us=[a]:=List.length_eq_one_iff.mp h
theorem S8{α:Type}{us:List α}{n:Nat}(h:us.length=n+1):∃ a t,us=a :: t/\t.length=n:=by
 cases us with
 | nil=>cases h
 | cons a t=>exact⟨a,t,rfl,Nat.succ.inj h⟩
theorem vR{α:Type}{us:List α}(h:us.length=2):∃ a b,us=[a,b]:=by
 obtain⟨a,t,rfl,h2⟩:=S8 h; obtain⟨b,rfl⟩:=qM h2; exact⟨a,b,rfl⟩
theorem J4{α:Type}{us:List α}(h:us.length=3):∃ a b c,us=[a,b,c]:=by
 obtain⟨a,t,rfl,h2⟩:=S8 h; obtain⟨b,c,rfl⟩:=vR h2; exact⟨a,b,c,rfl⟩
theorem Yb{α:Type}{us:List α}(h:us.length=4):∃ a b c d,us=[a,b,c,d]:=by
 obtain⟨a,t,rfl,h2⟩:=S8 h; obtain⟨b,c,d,rfl⟩:=J4 h2; exact⟨a,b,c,d,rfl⟩
end K2
end
section
namespace L2
open PySem PySem.Spec PyProof.Rows
section
variable {prog:bJ} {w:World} {A:dj} {E:Value->av->Prop} {s:av}
theorem Gf{it d:Addr}{od:Obj}{es:Array eZ}{i ep:Nat}{ok ov:Value}{Q:Option Value->av->Prop}(hit:mE s.heap it d i es.size ep ok ov)(Cj:s.heap.get? d=some od)(dd:od.data=.dict es ep)(hi:i < es.size)
  (hQ:∀ h',IsItemIterOut h' it d (i+1) es.size ep es[i].key es[i].val s.heap.objs.size->h'.get? s.heap.objs.size=some { cls:=.type "tuple",data:=.seq #[es[i].key,es[i].val] }->(∀ b o,b≠it->s.heap.get? b=some o->h'.get? b=some o)->Q (some (.ref s.heap.objs.size)) { s with heap:=h' }) :
  wpAny (model prog w) A (Ct (.ref it)) Q E s:=by
 obtain⟨hp,g,dr,tk,os⟩:=s;have ty:Shared.TypeIs ⟨hp,g,dr,tk,os⟩ (.ref it) "dict_itemiterator":=⟨_,hit,rfl⟩;unfold Ct;refine ag (Cq (iE (name:=uo "__next__") ty iH (cX iH ty ES ?_ (Cz _))));refine ag (aA (ag (ag ?_)))
 first | refine ag (iC ty (aA (ag (mQ hit rfl ?_)))) | refine ag (j9 ty (aA (ag (mQ hit rfl ?_))))
 have MF:eN "dict_itemiterator" = true:=by decide
 rw [MF];show wpAny _ _ (if (fk d == fE)=true then _ else _) _ _ _;rw [if_neg (fun z=>by cases z)];refine ag (aA (ag (gi Cj dd ?_)));rw [if_neg (by simp)];refine ag (aA (ag (lr Cj dd ?_)));rw [if_neg (by simp)];refine aA ?_;dsimp only;rw [if_neg (show ¬ ((i:Int) < 0) from Int.not_lt.mpr (oO i)),fL,Fg hi];dsimp only;refine ag ?_
 first | refine ag (iC ty (aA (ag (lY ty ?_)))) | refine ag (j9 ty (aA (ag (lY ty ?_))))
 show wpAny _ _ (setField (.ref it) 3 (Cs ((i:Int)+1)) >>= _) _ _ ⟨hp,g,dr,tk,os⟩;refine ag (lq hit (by simp) fun h1 e1 s1=>?_);have s1:fc it hp h1:=s1;have e1:mE h1 it d (i+1) es.size ep ok ov:=by
  have e:((i+1:Nat):Int)=(i:Int)+1:=by lia
  unfold mE; rw [e]; simpa [Cs] using e1
 have ZM:Shared.TypeIs ⟨h1,g,dr,tk,os⟩ (.ref it) "dict_itemiterator":=⟨_,e1,rfl⟩;refine ag (eK (ag (lY ZM (ag (lY ZM ?_)))));show wpAny _ _ (oZ (.ref it) 6 es[i].key es[i].val) _ _ ⟨h1,g,dr,tk,os⟩;unfold oZ;refine ag (wpAny_newTuple ?_);have z1:h1.objs.size=hp.objs.size:=s1.1;have lt:it < hp.objs.size:=aU hit;have e2:mE (h1.push { cls:=.type "tuple",data:=.seq #[es[i].key,es[i].val] }) it d (i+1) es.size ep ok ov:=aJ _ e1;have t2:(h1.push { cls:=.type "tuple",data:=.seq #[es[i].key,es[i].val] }).get? hp.objs.size=some { cls:=.type "tuple",data:=.seq #[es[i].key,es[i].val] }:=by rw [<-z1]; exact bz _ rfl
 have k2:∀ b o,b≠it->hp.get? b=some o->(h1.push { cls:=.type "tuple",data:=.seq #[es[i].key,es[i].val] }).get? b=some o:=fun b o hb e=>aJ _ (s1.extBut b o hb e);generalize h1.push { cls:=.type "tuple",data:=.seq #[es[i].key,es[i].val] } = h2 at e2 t2 k2;show wpAny _ _ (ie (.ref it) >>= _) _ _ ⟨h2,g,dr,tk,os⟩;rw [z1];refine ag (show wpAny _ _ (ie (.ref it)) _ _ _ from ?_);unfold ie;refine ag (oR e2 rfl (x:=.none) rfl (aA ?_));rw [if_pos rfl];refine ag (oR e2 rfl (x:=ok) rfl (ag (oR e2 rfl (x:=ov) rfl (ag (lq e2 (by simp) fun h3 e3 s3=>?_)))));have s3:fc it h2 h3:=s3;have e3:mE h3 it d (i+1) es.size ep es[i].key ov:=e3;refine ag (lq e3 (by simp) fun h4 e4 s4=>?_);have s4:fc it h3 h4:=s4;have e4:mE h4 it d (i+1) es.size ep es[i].key es[i].val:=e4;refine ag (lq e4 (by simp) fun h5 e5 s5=>?_);have s5:fc it h4 h5:=s5;have e5:IsItemIterOut h5 it d (i+1) es.size ep es[i].key es[i].val hp.objs.size:=e5;refine ag (lq e5 (by simp) fun h6 e6 s6=>?_);have s6:fc it h5 h6:=s6;have all:∀ b o,b≠it->h2.get? b=some o->h6.get? b=some o:=fun b o hb e=>s6.extBut b o hb (s5.extBut b o hb (s4.extBut b o hb (s3.extBut b o hb e)));exact ag (wpAny_letGo (aA (aA ⟨_,rfl,aA (hQ h6 e6 (all _ _ (Nat.ne_of_gt lt) t2) fun b o hb e=>all b o hb (k2 b o hb e))⟩)))
end
end L2
namespace L2
open PySem PySem.Spec PyProof.Rows
section
variable {prog:bJ} {w:World} {A:dj} {E:Value->av->Prop} {s:av}
theorem Kg{it d:Addr}{od:Obj}{es:Array eZ}{i ep:Nat}{ok ov:Value}{Q:Option Value->av->Prop}(calm:A.handled=none)(hit:mE s.heap it d i es.size ep ok ov)(Cj:s.heap.get? d=some od)(dd:od.data=.dict es ep)(hi:es.size<=i)
  (hQ:∀ h',Heap.ExtBut it s.heap h'->Q none { s with heap:=h' }):wpAny (model prog w) A (Ct (.ref it)) Q E s:=by
 have ty:s.TypeIs (.ref it) "dict_itemiterator":=⟨_,hit,rfl⟩;unfold Ct;refine ag (Cq (iE (name:=uo "__next__") ty iH (cX iH ty ES ?_ (Cz _))));refine ag (aA (ag (ag ?_)))
 first | refine ag (iC ty (aA (ag (mQ hit rfl ?_)))) | refine ag (j9 ty (aA (ag (mQ hit rfl ?_))))
 have MF:eN "dict_itemiterator" = true:=by decide
 rw [MF];show wpAny _ _ (if (fk d == fE)=true then _ else _) _ _ s;rw [if_neg (fun z=>by cases z)];refine ag (aA (ag (gi Cj dd ?_)));rw [if_neg (by simp)];refine ag (aA (ag (lr Cj dd ?_)));rw [if_neg (by simp)];refine aA ?_;dsimp only;rw [if_neg (show ¬ ((i:Int) < 0) from Int.not_lt.mpr (oO i)),fL,La hi];dsimp only;refine ag ?_
 first | refine ag (iC ty (aA (?_))) | refine ag (j9 ty (aA (?_)))
 show wpAny _ _ (setField (.ref it) 2 .none >>= _) _ _ s;refine ag (O1 hit rfl (by simp) (show wpAny _ _ (newExc (.type "StopIteration") [] >>= _) _ _ _ from ag ?_));simp only [newExc,newTuple];refine ag (dg (ag (m:=zF _ _) (wpAny_of_eq (a:=fE) (by first | rfl | (simp only [zF]; rfl)) (dg ?_ (by size_fits)))) (by size_fits));simp only [raiseNew];refine ag (wpAny_handled ?_);rw [show A.in1.handled=none from calm];refine ag (aA (wpAny_throw ?_));refine ag (nC (T:="StopIteration") (b:=true) ⟨_,bz _ rfl,rfl⟩ isSubtype_stop (?_));exact aA (hQ _ (((iT ..).extBut.push _).push _))
end
end L2
namespace L2
open PySem PySem.Spec PyProof.Rows
section
variable {prog:bJ} {w:World} {A:dj} {E:Value->av->Prop} {s:av}
theorem sZ (d:Addr) (ns:(d == cY)=false):MeetsIn prog w (Builtin.«dict.items» ⟨[.ref d],[]⟩) (fun _ R s=>s.TypeIs (.ref d) "dict"/\R (.ok (.ret (.ref s.heap.objs.size))) { s with heap:=s.heap.push { cls:=.type "dict_items",data:=.fields #[.ref d] } }):=by
 refine .of_wp ?_;rintro A R s ⟨ty,h⟩;unfold Builtin.«dict.items» Builtin.Dict.noArgs;refine ag (ag (wy ty (show wpAny _ _ (pure d) _ _ s from aA ?_)));show wpAny _ _ (jY d >>= _) _ _ s;unfold jY;rw [if_neg (fun z=>by rw [ns] at z; cases z)];exact ag (aA (ag (dg (aA ⟨_,rfl,h⟩))))
theorem vE{v d:Addr}{od:Obj}{es:Array eZ}{ep:Nat}{Q:Value->av->Prop}(hv:s.heap.IsItemsView v d)(Cj:s.heap.get? d=some od)(dd:od.data=.dict es ep)
  (hQ:Q (.ref s.heap.objs.size) { s with heap:=s.heap.push { cls:=.type "dict_itemiterator",data:=.fields #[.none,.bool false,.ref d,.int 0 0,.int es.size 0,.int ep 0,.none,.none] } }) :
  wpAny (model prog w) A (Lu (.ref v)) Q E s:=by
 obtain⟨ov,hov,hcv,hdv⟩:=id hv;refine my hv.typeIs F.slot_dict_items_iter (cX F.slot_dict_items_iter hv.typeIs F.entry_dict_items_iter ?_ (F.args_dict_items_iter_1 _));unfold Builtin.«dict_items.__iter__» Builtin.Dict_items.dictOf;refine ag (aA (ag (ag (oR hov hdv (x:=.ref d) rfl (aA (ag ?_))))));unfold Builtin.Dict_items.newIterator;refine ag (gi Cj dd (ag (lr Cj dd ?_)));have MF:eN "dict_itemiterator" = true:=by decide
 rw [MF];dsimp only;rw [if_pos (show true=true from rfl)];refine dg (aA ⟨_,rfl,"dict_itemiterator",_,⟨_,bz _ rfl,rfl⟩,F.slot_dict_itemiterator_next.lookup,?_⟩) ?_
 ·simpa [Cs,oh] using hQ
 ·simp only [sizeOk,oh,aW,aG,aj,aF,cS]; lia
end
noncomputable def ZF(a:Addr)(o:Obj)(es:Array eZ)(ps:List (V×V)):It :=
 ⟨fun i H=>(∃ u,H a=some (.jl o u))/\i < es.size,fun i H v H'=>∃ T p,v=.ref T/\H T=none/\H'=upd H T (.tup [p.1,p.2])/\ps[i]?=some p,fun i H=>(∃ u,H a=some (.jl o u))/\es.size<=i⟩
theorem vg{P:bJ}{w:World}{K:ai}{elts:List Expr}{kk:Nat}{pos:Pos}(a it:Addr)(o:Obj)(es:Array eZ)(ep:Nat)(ps:List (V×V))(dd:o.data=.dict es ep)(hk:∀ i (h:i < es.size),∃ p,ps[i]?=some p/\RelV p.1 es[i].key/\RelV p.2 es[i].val) :
  Turn P w K (.Tuple elts kk pos) (ZF a o es ps) [it] it (fun i h=>∃ ok ov,mE h it a i es.size ep ok ov) where
 mem:=by simp
 obj:=by
  rintro i h ⟨ok,ov,st⟩ b hb;have e:b=it:=by simpa using hb
  subst e;exact⟨_,st,fun v z=>by cases z⟩
 keep:=by rintro i h h' ⟨ok,ov,st⟩ k; exact⟨ok,ov,k it (by simp) _ st⟩
 item:=by
  intro X hP hw hK hc i pins s σ H E I hf st hg;obtain⟨ok,ov,st⟩:=st;subst hP hw hK;obtain⟨⟨u,hu⟩,hi⟩:=hg;obtain⟨p,hp,r1,r2⟩:=hk i hi;have VR:H s.heap.objs.size=none:=I.cD.fresh (aE _);have YS:it≠s.heap.objs.size:=bK (aU st);refine Gf st (I.cD a _ hu).1 dd hi fun h' ho hT kk=>?_;refine⟨_,rfl,?_⟩;have I1:Inv X pins σ (upd H s.heap.objs.size (.tup [p.1,p.2])) { s with heap:=h',toks:=s.toks } :=
   I.A4 (fp:=[it]) hf (fun b o hb q=>kk b o (fun z=>hb (by simp [z])) q) (aE _)
    ⟨by show 2<=a8; decide,[es[i].key,es[i].val],.cons r1 (.cons r2 .nil),⟨_,hT,rfl,_,rfl⟩⟩
  refine Lq (s:={ s with heap:=h' }) ho fun h2 VJ IQ=>?_;have f1:∀ b∈[it],mP X pins (upd H s.heap.objs.size (.tup [p.1,p.2])) b:=fun b hb=>(hf b hb).upd (by rw [List.mem_singleton.mp hb]; exact YS);have I2:Inv X pins σ (upd H s.heap.objs.size (.tup [p.1,p.2])) { s with heap:=h2,toks:=s.toks } :=
   Inv.vZ (s:={ s with heap:=h',toks:=s.toks }) (t':=s.toks) (fp:=[it]) I1 f1 fun b o hb q=>(IQ.2 b (fun z=>hb (by simp [z]))).trans q
  exact⟨.ref s.heap.objs.size,_,I2,rfl,⟨_,p,rfl,VR,rfl,hp⟩,⟨_,_,VJ⟩,fun b hb=>(f1 b hb).1⟩
 done:=by
  intro X hP hw hK hc i pins s σ H E I hf st hg;obtain⟨ok,ov,st⟩:=st;subst hP hw hK;obtain⟨⟨u,hu⟩,hi⟩:=hg;obtain⟨f0,f1,f2,f3,f4,f5⟩:=hf it (by simp);exact Kg (I.ok.hd hc) st (I.cD a _ hu).1 dd hi fun h' eb=>⟨rfl,I.turned (t':=s.toks) (fun b o hb e=>eb b o hb e) f0 f1 f3 f4 f5⟩
 self:=by
  rintro A i s Q E ⟨ok,ov,st⟩ h;have ty:s.TypeIs (.ref it) "dict_itemiterator":=⟨_,st,rfl⟩;refine my ty iI (cX iI ty kH ?_ (CA _));show wpAny _ _ (ret (.ref it)) _ _ s;exact aA ⟨_,rfl,"dict_itemiterator",_,ty,F.slot_dict_itemiterator_next.lookup,h⟩
end L2
end
section
namespace K2
open PySem PySem.Spec PyProof.Rows L2
section
variable {X:Cx} {elts:List Expr} {kk:Nat} {CI apos jk:Pos} {o:Expr} {to:gb}
theorem kY.item{K:ai}{H:Hp}{kv:List (List Key×V)}{kvs:List (D×D)}(h:kY K H kv kvs):∀ {i:Nat} {q:D×D},kvs[i]?=some q->∃ p,kv[i]?=some p/\q.1=.tup (p.1.map dM)/\ck K H p.2 q.2:=by
 induction h using kY.ind with
 | nil=>intro i q e; simp at e
 | @cons k v d r t rd rs ih =>
  intro i q e;cases i with
  | zero=>simp at e; subst e; exact⟨_,rfl,rfl,rd⟩
  | succ i =>
   obtain⟨p,h1,h2⟩:=ih (i:=i) (q:=q) (by simpa using e);exact⟨p,by simpa using h1,h2⟩
theorem kY.len{K:ai}{H:Hp}{kv:List (List Key×V)}{kvs:List (D×D)}(h:kY K H kv kvs):kv.length=kvs.length:=by
 have:=congrArg dU h.keys;simpa using this.symm
theorem FI (ho:gy X o to) (x8:autoParam (oC o "items" X.env (eval o X.env)=eval o X.env) Ar._auto_1) (x6:autoParam ((apos.endLine == jk.line)=true) Ar._auto_1) :
  Lo X (.Tuple elts kk CI) (.Call (.Attribute o "items" apos) [] [] jk) (Bv to):=by
 intro E pins s σ H τ G R hE I h;refine uk x8 x6 (jh ho hE I h fun x H1 d G1 v s1 I1 m1 r1 jd q1=>?_);cases d with
 | ji kvs =>
  obtain⟨h1,q1⟩:=q1;obtain⟨t1,t2⟩:=mS pins s1 σ H1 G1 x _ v I1.inv I1.ab r1 jd trivial;have main:∃ (a:Addr) (ob:Obj) (u:HO) (es:Array eZ) (ep:Nat) (ps:List (V×V)),x=.ref a/\(a == cY)=false/\H1 a=some (.jl ob u)/\ob.data=.dict es ep/\(∀ i (h:i < es.size),∃ p,ps[i]?=some p/\RelV p.1 es[i].key/\RelV p.2 es[i].val)/\kvs.length=es.size /\
    (∀ (i:Nat) (q:D×D),kvs[i]?=some q->∃ p,ps[i]?=some p/\ck X.K H1 p.1 q.1/\ck X.K H1 p.2 q.2):=by
   cases jd with
   | oI hq rs =>
    rename_i a o kv;cases rs with
    | nil =>
     obtain⟨z,ns,vs,rel,ob,es,ep,ho,ex,dd,hko,hp,nd⟩:=(I1.inv.cD a _ hq).2;have eo:ob=o:=by have:=(I1.inv.cD a _ hq).1; rw [ho] at this; exact aX this
     subst eo;have l1:es.size=vs.length:=by simpa using hp.length
     have l2:([]:List (Key×V)).length=vs.length:=gX rel;have l3:es.size=0:=by rw [l1,<-l2]; rfl
     exact⟨a,ob,_,es,ep,[],rfl,ns,hq,dd,fun i h=>by lia,by rw [l3]; rfl,fun i q e=>by simp at e⟩
    | @cons j _ _ _ _ _ _=>cases j <;> simp [dM,jU] at h1
   | oH hq rs =>
    rename_i a o kv;obtain⟨z,ns,xs,rel,ob,es,ep,ho,ex,dd,hl,nd⟩:=(I1.inv.cD a _ hq).2;have eo:ob=o:=by have:=(I1.inv.cD a _ hq).1; rw [ho] at this; exact aX this
    subst eo;have l1:=congrArg dU hl;rw [aB,eP] at l1;have l2:kv.length=xs.length:=gX rel;have l3:=rs.len;refine⟨a,ob,_,es,ep,(kv.zip xs).map fun z=>(V.ref z.2.2.1,z.1.2),rfl,ns,hq,dd,fun i hi=>?_,by lia,fun i q e=>?_⟩
    ·have i2:i < xs.length:=by lia
     have i3:i < kv.length:=by lia
     have ee:es[i]=entryOfKey (hU (cK X.prog X.w)) xs[i]:=by
      have:=congrArg (fun l=>l[i]?) hl;simp only [bB,au i2] at this;simpa [hi] using this
     refine⟨(V.ref xs[i].2.1,kv[i].2),by rw [bB,au (by rw [kq]; lia),rq]; rfl,?_⟩;rw [ee];exact⟨rfl,(uH rel i i3 i2).2.2⟩
    ·obtain⟨p,hp,ek,rp⟩:=rs.item e;have i3:i < kv.length:=(List.getElem?_eq_some_iff.mp hp).1;have i2:i < xs.length:=by lia
     have pr:=uH rel i i3 i2;rw [au i3] at hp;cases hp;refine⟨(V.ref xs[i].2.1,kv[i].2),by rw [bB,au (by rw [kq]; lia),rq]; rfl,?_,rp⟩;rw [ek];exact .tup pr.2.1 (uA _)
  obtain⟨a,ob,u,es,ep,ps,rfl,hm,hu,dd,hk,hlen,SD⟩:=main;cases r1;refine⟨"dict","dict.items",cZ,fm,oW,t1,t2,kG rfl (vN ?_)⟩;refine wG fm t1 oD (nF _) (sZ a hm) ⟨t1,?_⟩;have I2:Inv X pins σ H1 { s1 with heap:=s1.heap.push { cls:=.type "dict_items",data:=.fields #[.ref a] } }:=I1.inv.kept (t':=s1.toks) fun b o e=>aJ _ e;refine vE (s:={ s1 with heap:=s1.heap.push { cls:=.type "dict_items",data:=.fields #[.ref a] } }) ⟨_,bz _ rfl,rfl,rfl⟩ (aJ _ (I1.inv.cD a _ hu).1) dd ?_;refine⟨_,[_],_,_,H1,G1,kvs.map (fun p=>.tup [p.1,p.2]),_,rfl,I2.kept (t':=s1.toks) fun b o e=>aJ _ e,m1,vg a _ ob es ep ps dd hk,⟨.none,.none,bz _ rfl⟩,fun b hb=>?_,fun i H2 G2 k ab _=>?_,q1⟩
  ·have e:=List.mem_singleton.mp hb;subst e;exact I2.BB (aE _) (I2.cD.fresh (aE _))
  ·have Au:=k.jl _ _ _ hu;refine⟨fun d hd=>?_,fun hle=>⟨⟨u,Au⟩,by rw [<-hlen]; simpa using hle⟩⟩;rw [bB] at hd;cases Kn:kvs[i]? with
   | none=>rw [Kn] at hd; cases hd
   | some q =>
    rw [Kn] at hd;obtain⟨p,hp,rk,rp⟩:=SD i q Kn;have hi:i < es.size:=by rw [<-hlen]; exact(List.getElem?_eq_some_iff.mp Kn).1
    refine⟨⟨⟨u,Au⟩,hi⟩,?_⟩;rintro x H3 ⟨T,p',ex,hT,e3,hy⟩;subst ex e3;rw [hp] at hy;cases hy;have ed:D.tup [q.1,q.2]=d:=by simpa using hd
    subst ed;exact⟨.tup bY (.cons ((rk.mono k).mono (.new hT)) (.cons ((rp.mono k).mono (.new hT)) .nil)),.Li ab hT⟩
 | _=>exact q1.elim
end
end K2
end
section
namespace K2
open PySem PySem.Spec PyProof.Rows L2
noncomputable def Zj(e:eZ)(p:Int×Int):Bool:=e.hash == hashInt p.1&&qE p.1 e.key&&qE p.2 e.val
noncomputable def Qw:List eZ->List (Int×Int)->Bool
 | [],[]=>true
 | e :: es,p :: ps=>Zj e p&&Qw es ps
 | _,_=>false
noncomputable def AI(K:ai)(a:Addr)(kv:List (Int×Int)):Bool:=match K.lookup a with
 | some o=>o.cls == .type "dict" && o.dict == none&&o.slots.toList == []&&(match o.data with | .dict es _=>Qw es.toList kv | _=>false)
 | none=>false
noncomputable def Rx(kv:List (Int×Int)):List (Key×V):=kv.map fun p=>(.inl p.1,.int p.2)
theorem isInt_shape{i:Int}{v:Value}(h:qE i v=true):∃ t,v=.int i t:=by
 rcases eg (k:=.inl i) h with ⟨j,t,e,rfl⟩ | ⟨_,_,e,_⟩
 ·cases e; exact⟨t,rfl⟩
 ·cases e
section
variable {P:bJ} {w:World}
theorem yr:∀ (es:List eZ) (kv:List (Int×Int)),Qw es kv=true->∃ vs,KV (Rx kv) vs/\Pairs (cK P w) es vs/\vs.map (·.1)=kv.map (fun p=>(um p.1:Key))/\∀ e∈es,∃ k,(cK P w).is k e.key=true/\e.hash=(cK P w).hash k
 | [],[],_=>⟨[],.nil,.nil,rfl,fun e h=>by cases h⟩
 | [],_ :: _,h=>bA (show false=true from h)
 | _ :: _,[],h=>bA (show false=true from h)
 | e :: es,p :: ps,h=>by
  have h:(Zj e p&&Qw es ps)=true:=h;rw [aI] at h;obtain⟨vs,h1,h2,h3,h4⟩:=yr es ps h.2;have he:=h.1;unfold Zj at he;rw [aI,aI] at he;obtain⟨t,ev⟩:=isInt_shape he.2;refine⟨(.inl p.1,e.val) :: vs,.cons ⟨rfl,t,ev⟩ h1,.cons he.1.2 rfl h2,by rw [ak,ak,h3],fun x hx=>?_⟩;rcases List.mem_cons.mp hx with rfl | hx
  ·exact⟨.inl p.1,he.1.2,beq_iff_eq.mp he.1.1⟩
  ·exact h4 x hx
theorem TJ{K:ai}{a:Addr}{kv:List (Int×Int)}{h:Heap}(Y:K.In h)(e:AI K a kv=true)(nd:(kv.map (·.1)).Nodup):∃ vs,KV (Rx kv) vs/\h.DictOf (cK P w) a vs:=by
 unfold AI at e;cases hl:K.lookup a with
 | none=>rw [hl] at e; exact bA (show false=true from e)
 | some o =>
  rw [hl] at e;dsimp only at e;rw [aI,aI,aI] at e;obtain⟨⟨⟨e1,e2⟩,e3⟩,e4⟩:=e;obtain⟨c,dd,dt,⟨sl⟩⟩:=o;have f1:c=.type "dict":=beq_iff_eq.mp e1;have f2:dd=none:=beq_iff_eq.mp e2;have f3:sl=[]:=beq_iff_eq.mp e3;clear e1 e2 e3;subst f1;subst f2;subst f3;cases dt with
  | dict es ep =>
   obtain⟨vs,h1,h2,h3,h4⟩:=yr (P:=P) (w:=w) es.toList kv e4;refine⟨vs,h1,_,es,ep,Y _ _ hl,⟨rfl,rfl,rfl⟩,rfl,?_,h2,?_⟩
   ·intro e he;obtain⟨k,q1,q2⟩:=h4 e (Array.mem_toList_iff.mpr he);exact⟨k,q1,q2⟩
   ·rw [h3];have:kv.map (fun p=>(um p.1:Key))=(kv.map (·.1)).map um:=by rw [bt]; rfl
    rw [this,List.nodup_iff_pairwise_ne,zH];exact(List.nodup_iff_pairwise_ne.mp nd).imp fun Gk e=>Gk (Sum.inl.inj e)
  | _=>exact bA (show false=true from e4)
end
end K2
namespace K2
open PySem PySem.Spec PyProof.Rows L2
section
variable {X:Cx} {x:Str} {a:Addr} {kv:List (Int×Int)} {p px pos:Pos}
theorem RO{K:ai}{H:Hp}:∀ kv:List (Int×Int),lh K H (Rx kv) (bu kv)
 | []=>.nil
 | p :: kv=>.cons (k:=.inl p.1) (.int p.2) (RO kv)
theorem zX (hg:Gl X "dict") (hm:X.mg "dict" = none) (YT:Gl X x) (VE:X.mg x=some (.ref a)) (ns:(a == cY)=false) (hD:AI X.K a kv=true) (nd:(kv.map (·.1)).Nodup) (hz:kv.length<=1000) (Ks:autoParam ((x == ("__debug__" : Str))=false) Ad._auto_1)
  (hs:autoParam (cU [.Name x px] X.env=[(false,eval (.Name x px) X.env)]) Ar._auto_1):gy X (.Call (.Name "dict" p) [.Name x px] [] pos) (Em kv):=by
 intro E pins s σ H τ G Q hE I h;refine lu (rJ I.inv hg hm B4 ?_);refine g7 ?_ hs rfl;rw [hs];show wpAny _ _ (spliced ((false,eval (.Name x px) X.env) :: oU pos (cU [] X.env))) _ _ s;refine og ?_;refine Bs I.inv YT VE ?_ Ks;refine y8 ?_;obtain⟨vs,rel,dd⟩:=TJ (P:=X.prog) (w:=X.w) I.inv.ID hD nd;have hl:vs.length=kv.length:=by rw [<-rel.length]; unfold Rx; rw [aB]
 have sz:a8=16777216:=cS;refine kt_call_dict ns dd (by lia) fun h' AJ hs=>?_;have hp:H s.heap.objs.size=none:=I.inv.cD.fresh (aE _);have zz:(Rx kv).length<=a8:=by unfold Rx; rw [aB]; lia
 refine⟨.ref _,upd H s.heap.objs.size (.dK (Rx kv)),.ref _,_,I.inv.laid (a:=s.heap.objs.size) (o:=.dK (Rx kv)) (t':=s.toks) (fun b q hq=>?_) (aE _) (BQ zz (beq_eq_false_iff_ne.mpr (gf (bK I.inv.big))) rel AJ),.new I.ab hp (.dk bY (RO kv)),rfl,.ref _,h _ (I.ab.free hp)⟩;exact(hs.2 b (bK (aU hq))).trans (aJ _ hq)
end
end K2
end
section
namespace K2
open PySem PySem.Spec PyProof.Rows L2
section
variable {X:Cx}
theorem Ew:qh X (.type "tuple") QQ:=by
 intro pins s σ H G xs ds us Q I ab rx rd q;unfold QQ at q;split at q
 ·rename_i x;obtain⟨v,rfl,r⟩:=rd.one;have T9:∀ (l:Addr) (ys:List V) (zs:List D),v=.ref l->qc X.K H l ys->bh X.K H ys zs->Q (.tup zs) G->wpAny (model X.prog X.w) X.A (call (.type "tuple") us) (si X pins σ H G Q) X.xe s:=fun l ys zs e h rs hq=>by
   subst e;exact gB (zA pins s σ H _ us (AU X.K H G Q) I rx ⟨l,ys,rfl,.inl ⟨h,fun p hp=>⟨.tup zs,G,.Li ab hp,.tup bY (rs.mono (.new hp)),hq⟩⟩⟩) fun _ _ z=>.of z
  cases r with
  | dR hq rs=>exact T9 _ _ _ rfl hq.sq rs q
  | ref l =>
   unfold pM at q;dsimp only at q;cases hg:G l with
   | none=>rw [hg] at q; exact q.elim
   | some g =>
    rw [hg] at q;cases g with
    | lst ds =>
     obtain⟨vs,hv,rs⟩:=ab.lst hg;exact T9 _ _ _ rfl (.of hv) rs q
    | ins _ _=>exact q.elim
    | qP _=>exact q.elim
    | fZ kvs=>exact q.elim
  | _=>exact bO q
 ·exact q.elim
end
end K2
end
section
namespace K2
open PySem PySem.Spec PyProof.Rows L2
noncomputable abbrev J9(P:bJ)(w:World):Cy P w PK:=X1 (E4 P w)
section
variable {P:bJ} {w:World} {K:ai} {H:Hp} {h:Heap}
theorem items_int:∀ {t:List Int} {us:List Value},Vals (t.map V.int) us->ItemsAre (E4 P w) t us
 | [],_,r=>by rw [br] at r; cases r; exact .nil
 | i :: t,_,r=>by
  rw [ak] at r;cases r with
  | cons h r =>
   obtain⟨q,rfl⟩:=h;exact .cons (by simp [E4,qE]) (items_int r)
theorem X0(ok:oB P w H h){v:V}{u:Value}{t:List Int}(r:ck K H v (.tup (t.map D.int)))(ru:RelV v u):∃ b,u=.ref b/\(hU (E4 P w)).is h t b:=by
 cases r with
 | tup e rs =>
  have z:=rs.ints;subst z;cases ru;obtain⟨_,bS,r,o,h1,h2,n,h3⟩:=(show fB P w H h _ (.tup (t.map V.int)) from ok _ _ e);exact⟨_,rfl,o,bS.toArray,n,h1,h2,h3,by simpa using items_int r⟩
theorem Rp(ok:oB P w H h):∀ {r:List (List Int)} {vs:List V} {us:List Value},bh K H vs (r.map fun t=>.tup (t.map D.int))->Vals vs us->qQ (hU (E4 P w)) h r us
 | [],_,_,q,ru=>by have:=q.zero; subst this; cases ru; exact .nil
 | t :: r,_,_,q,ru=>by
  rw [ak] at q;cases q with
  | cons q1 q2 =>
   cases ru with
   | cons r1 r2 =>
    obtain⟨b,rfl,hb⟩:=X0 ok q1 r1;exact .cons hb (Rp ok q2 r2)
theorem XZ(ok:oB P w H h){v:V}{u:Value}{r:List (List Int)}(q:ck K H v (.tup (r.map fun t=>.tup (t.map D.int))))(ru:RelV v u):∃ b,u=.ref b/\(Ug (E4 P w)).is h r b:=by
 cases q with
 | tup e rs =>
  cases ru;obtain⟨_,bS,r',o,h1,h2,n,h3⟩:=(show fB P w H h _ (.tup _) from ok _ _ e);exact⟨_,rfl,o,bS.toArray,n,h1,h2,h3,by simpa using Rp ok rs r'⟩
theorem Ro(ok:oB P w H h):∀ {k:PK} {vs:List V} {us:List Value},bh K H vs (k.map fun r=>.tup (r.map fun t=>.tup (t.map D.int)))->Vals vs us->qQ (Ug (E4 P w)) h k us
 | [],_,_,q,ru=>by have:=q.zero; subst this; cases ru; exact .nil
 | t :: r,_,_,q,ru=>by
  rw [ak] at q;cases q with
  | cons q1 q2 =>
   cases ru with
   | cons r1 r2 =>
    obtain⟨b,rfl,hb⟩:=XZ ok q1 r1;exact .cons hb (Ro ok q2 r2)
theorem Qa(ok:oB P w H h){v:V}{u:Value}{k:PK}(q:ck K H v (oq k))(ru:RelV v u):∃ b,v=.ref b/\u=.ref b/\(J9 P w).is h k b:=by
 unfold oq at q;cases q with
 | tup e rs =>
  cases ru;obtain⟨_,bS,r',o,h1,h2,n,h3⟩:=(show fB P w H h _ (.tup _) from ok _ _ e);exact⟨_,rfl,rfl,o,bS.toArray,n,h1,h2,h3,by simpa using Ro ok rs r'⟩
noncomputable def P1(K:ai)(H:Hp)(x:PK×Addr×Value)(p:PK×D):Prop:=x.1=p.1/\ck K H (.ref x.2.1) (oq p.1)/\∃ v,RelV v x.2.2/\ck K H v p.2
theorem Bh:∀ {xs:List (PK×Addr×Value)} {ks vs:List V} {kvs:List (PK×D)},Q0 kvs ks vs xs->bh K H ks (kvs.map fun p=>oq p.1)->bh K H vs (kvs.map fun p=>p.2)->jH (P1 K H) xs kvs
 | [],ks,vs,kvs,r,r1,r2=>by
  have:kvs=[]:=by simpa using r.1
  subst this; exact .nil
 | x :: xs,ks,vs,kvs,r,r1,r2=>by
  obtain⟨e1,e2,e3⟩:=r;cases kvs with
  | nil=>cases e1
  | cons p kvs =>
   rw [ak,ak] at e1;injection e1 with e4 e5
   subst e2;rw [ak] at r1;rw [ak] at r1 r2;rw [ak] at e3;cases r1 with
   | cons q1 q2 =>
    cases r2 with
    | cons q3 q4 =>
     cases e3 with
     | cons q5 q6=>exact .cons ⟨e4.symm,q1,_,q5,q3⟩ (Bh ⟨e5,rfl,q6⟩ q2 q4)
theorem SJ{xs:List (PK×Addr×Value)}{kvs:List (PK×D)}(h:jH (P1 K H) xs kvs):∃ vs,Q0 kvs (xs.map fun x=>.ref x.2.1) vs xs/\bh K H (xs.map fun x=>.ref x.2.1) (kvs.map fun p=>oq p.1)/\bh K H vs (kvs.map fun p=>p.2):=by
 induction h with
 | nil=>exact⟨[],⟨rfl,rfl,.nil⟩,.nil,.nil⟩
 | cons h1 _ ih =>
  obtain⟨vs,⟨a,b,c⟩,r1,r2⟩:=ih;obtain⟨e1,e2,v,e3,e4⟩:=h1;exact⟨v :: vs,⟨by rw [ak,ak,a,e1],rfl,.cons e3 c⟩,.cons e2 r1,.cons e4 r2⟩
theorem P1.mono{H':Hp}(k:Kp H H'){x:PK×Addr×Value}{p:PK×D}(h:P1 K H x p):P1 K H' x p:=let ⟨a,b,v,c,d⟩:=h; ⟨a,b.mono k,v,c,d.mono k⟩
theorem De{H':Hp}(k:Kp H H'){xs:List (PK×Addr×Value)}{kvs:List (PK×D)}(h:jH (P1 K H) xs kvs):jH (P1 K H') xs kvs:=Paired.S5 h fun _ _ z=>z.mono k
theorem SK(ok:oB P w H h){xs:List (PK×Addr×Value)}{kvs:List (PK×D)}(r:jH (P1 K H) xs kvs):∀ x∈xs,(J9 P w).is h x.1 x.2.1:=by
 induction r with
 | nil=>intro x hx; cases hx
 | cons h1 _ ih =>
  intro x hx;rcases List.mem_cons.mp hx with rfl | hx
  ·obtain⟨e1,e2,_⟩:=h1;obtain⟨b,e3,e4,e5⟩:=Qa ok e2 (rfl:RelV (.ref _) (.ref _));cases e4;rw [e1]; exact e5
  ·exact ih x hx
theorem xx(ok:oB P w H h){a:Addr}{xs:List (PK×Addr×Value)}{kvs:List (PK×D)}(p:Hg a xs h)(r:jH (P1 K H) xs kvs):h.DictOfH (J9 P w) a xs:=by
 obtain⟨z,y,o,es,ep,h1,h2,h3,h4,h5⟩:=p;exact⟨o,es,ep,h1,h2,h3,h4,SK ok r,h5⟩
theorem Bk{a:Addr}{xs:List (PK×Addr×Value)}(z:xs.length<=a8)(y:(a == cY)=false)(d:h.DictOfH (J9 P w) a xs):fB P w H h a (.ext (Hg a xs)):=by
 obtain⟨o,es,ep,h1,h2,h3,h4,_,h5⟩:=d;refine⟨⟨z,y,o,es,ep,h1,h2,h3,h4,h5⟩,⟨o,h1⟩,?_⟩;rintro g1 g2 ⟨z,y,o,es,ep,q1,q⟩ k;exact⟨z,y,o,es,ep,k _ q1,q⟩
theorem Ms{xs:List (PK×Addr×Value)}{kvs:List (PK×D)}(r:jH (P1 K H) xs kvs)(k:PK):(∃ q v d,atKey xs k=some q/\ot kvs k=some d/\RelV v q.2/\ck K H v d)\/(atKey xs k=none/\ot kvs k=none):=by
 induction r with
 | nil=>exact .inr ⟨rfl,rfl⟩
 | @cons x p xs kvs h1 _ ih =>
  obtain⟨e1,e2,v,e3,e4⟩:=h1;by_cases e:x.1=k
  ·left;refine⟨x.2,v,p.2,?_,?_,e3,e4⟩
   ·unfold atKey; rw [cx (by simpa using e)]; rfl
   ·unfold ot; rw [cx (by simpa using e1.symm.trans e)]; rfl
  ·have a1:atKey (x :: xs) k=atKey xs k:=by unfold atKey; rw [cy (by simpa using e)]
   have a2:ot (p :: kvs) k=ot kvs k:=by unfold ot; rw [cy (by simpa using fun z=>e (e1.trans z))]
   rw [a1,a2]; exact ih
theorem PM{xs:List (PK×Addr×Value)}{kvs:List (PK×D)}(r:jH (P1 K H) xs kvs)(k:PK):(kvs.any fun p=>decide (p.1=k))=(atKey xs k).isSome:=by
 induction r with
 | nil=>rfl
 | @cons x p xs kvs h1 _ ih =>
  rw [ku];by_cases e:x.1=k
  ·have a1:(atKey (x :: xs) k).isSome=true:=by unfold atKey; rw [cx (by simpa using e)]; rfl
   rw [a1]; simp [h1.1 ▸ e]
  ·have a1:atKey (x :: xs) k=atKey xs k:=by unfold atKey; rw [cy (by simpa using e)]
   have:¬ p.1=k:=fun z=>e (h1.1.trans z);rw [a1,<-ih]; simp [this]
theorem PL{xs:List (PK×Addr×Value)}{kvs:List (PK×D)}(r:jH (P1 K H) xs kvs){k:PK}{b:Addr}{v:V}{u:Value}{d:D}(rk:ck K H (.ref b) (oq k))(ru:RelV v u)(rd:ck K H v d):jH (P1 K H) (E2 xs k b u) (JQ kvs k d):=by
 unfold E2 JQ;rw [PM r k];split
 ·rename_i hs;clear rk hs;induction r with
  | nil=>exact .nil
  | @cons x p xs kvs h1 _ ih =>
   rw [ak,ak];refine .cons ?_ ih;unfold putAt;obtain⟨e1,e2,e3⟩:=h1;by_cases e:x.1=k
   ·rw [if_pos e,if_pos (e1.symm.trans e)];exact⟨e1,e2,v,ru,rd⟩
   ·rw [if_neg e,if_neg (fun z=>e (e1.trans z))];exact⟨e1,e2,e3⟩
 ·exact ON r ⟨rfl,rk,v,ru,rd⟩
theorem Ie{xs:List (PK×Addr×Value)}{kvs:List (PK×D)}(r:jH (P1 K H) xs kvs):xs.length=kvs.length:=gX r
theorem B9{a:Addr}{xs:List (PK×Addr×Value)}{kvs:List (PK×D)}(e:H a=some (.ext (Hg a xs)))(r:jH (P1 K H) xs kvs):Jr K H a (.qP kvs):=by
 obtain⟨vs,a1,a2,a3⟩:=SJ r;exact⟨xs,_,vs,e,a1,a2,a3⟩
theorem GK{G:Gp}{a:Addr}{kvs:List (PK×D)}(ab:kZ K H G)(hg:G a=some (.qP kvs)):∃ xs,H a=some (.ext (Hg a xs))/\jH (P1 K H) xs kvs:=by
 obtain⟨xs,ks,vs,e,a1,a2,a3⟩:=ab a _ hg;exact⟨xs,e,Bh a1 a2 a3⟩
theorem Kp.UX{p:Addr}{o:HO}{φ:Heap->Prop}(hp:H p=some (.ext φ)):Kp H (upd H p o) :=
 ⟨fun a ys e=>by rw [bL (by rintro rfl; rw [hp] at e; cases e)]; exact e,fun a ob u e=>by rw [bL (by rintro rfl; rw [hp] at e; cases e)]; exact e⟩
theorem BK{φ:Heap->Prop}{a:Addr}(ok:oB P w H h)(e:H a=some (.ext φ)):φ h:=(ok a _ e).1
end
section
variable {X:Cx} {elts:List Expr} {kk:Nat} {CI apos jk pos:Pos} {o i k v:Expr} {to ti tk tv:gb}
theorem HB:QX X "dict" tyP:=by
 intro pins s σ H G x d u I ab r rd h;cases rd with
 | ref l =>
  unfold tyP at h;dsimp only at h;split at h
  ·rename_i kvs hg;obtain⟨xs,e,_⟩:=GK ab hg;obtain⟨_,_,o,es,ep,h1,h2,_⟩:=BK I.cD e;cases r;exact⟨⟨o,h1,h2.1⟩,fun a z=>by cases z; exact⟨o,h1,h2.2.1⟩⟩
  ·exact h.elim
 | ny hq _ _ _ =>
  obtain⟨_,_,o,es,ep,h1,h2,_⟩:=(I.cD _ _ hq).2.1;cases r;exact⟨⟨o,h1,h2.1⟩,fun a z=>by cases z; exact⟨o,h1,h2.2.1⟩⟩
 | _=>exact bO h
theorem IX{pins:List (Addr×Obj)}{s:av}{σ:L2.St}{H:Hp}{G:Gp}{a:Addr}{kvs:List (PK×D)}{ys:List (PK×Addr×Value)}{pk:PK}{w w2:V}{u1 u2:Value}{d':D}{Q:DK}(hu:X.A.units+64 < cLine)(I:Inv X pins σ H s)(ab:kZ X.K H G)(pd:Hg a ys s.heap)(r:jH (P1 X.K H) ys kvs)(CV:ck X.K H w (oq pk))(JL:RelV w u1)(Pw:ck X.K H w2 d')(Mg:RelV w2 u2)(q:Q ((ot kvs pk).getD d') G) :
  wpAny (model X.prog X.w) X.A (call (.builtin "dict.get") [.ref a,u1,u2]) (si X pins σ H G Q) X.xe s:=by
 have dd:=xx I.cD pd r;obtain⟨b,rfl,rfl,hb⟩:=Qa I.cD CV JL;have hT:s.TypeIs (.ref a) "dict":=by obtain⟨o,es,ep,ho,hc,_⟩:=dd; exact⟨o,ho,hc.1⟩
 refine wG gj hT Hs (Fb _ _ _) (meetsH_dict_get_default (J9 X.prog X.w) a b pd.2.1 u2) ⟨Dt (by lia),pk,ys,hb,dd,?_⟩;rcases Ms r pk with ⟨q1,v1,d1,h1,h2,h3,h4⟩ | ⟨h1,h2⟩
 ·rw [h1];rw [h2] at q;exact⟨v1,H,d1,G,I.tok _,.refl ab,h3,h4,q⟩
 ·rw [h1];rw [h2] at q;exact⟨w2,H,d',G,I.tok _,.refl ab,Mg,Pw,q⟩
theorem Dw (hu:X.A.units+64 < cLine):K3 X "dict.get" DD:=by
 intro pins s σ H G x d xs ds v us Q I ab rx rd OV C1 q;unfold DD at q;split at q
 ·rename_i a k d';obtain⟨kvs,pk,hg,rfl,q⟩:=q;cases rd;obtain⟨w,w2,rfl,CV,Pw⟩:=C1.two;obtain⟨u1,u2,rfl,JL,Mg⟩:=vals2 OV;cases rx;obtain⟨ys,e,r⟩:=GK ab hg;exact IX hu I ab (BK I.cD e) r CV JL Pw Mg q
 ·rename_i kvs k d';obtain⟨pk,rfl,q⟩:=q;obtain⟨w,w2,rfl,CV,Pw⟩:=C1.two;obtain⟨u1,u2,rfl,JL,Mg⟩:=vals2 OV;cases rd with
  | ny hq rel rk rv =>
   cases rx;exact IX hu I ab (I.cD _ _ hq).2.1 (Bh rel rk rv) CV JL Pw Mg q
 ·exact q.elim
theorem Qz{pins:List (Addr×Obj)}{s:av}{σ:L2.St}{H:Hp}{G:Gp}{a:Addr}{kvs:List (PK×D)}{pk:PK}{y w:V}{u r:Value}{d:D}{Q:Unit->av->Prop}(hu:X.A.units+64 < cLine)(I:Inv X pins σ H s)(ab:kZ X.K H G)(hg:G a=some (.qP kvs))(hz:kvs.length < SZ)(ry:RelV y u)(dy:ck X.K H y (oq pk))(rv:RelV w r)(dv:ck X.K H w d)
  (h:∀ H' s',Inv X pins σ H' s'->Mv X.K H G H' (eL G a (.qP (JQ kvs pk d)))->Q () s'):wpAny (model X.prog X.w) X.A (setItem (.ref a) u r) Q X.xe s:=by
 obtain⟨xs,e,rr⟩:=GK ab hg;have pd:=BK I.cD e;have dd:=xx I.cD pd rr;obtain⟨b,rfl,rfl,hb⟩:=Qa I.cD dy ry;have sz:a8=16777216:=cS;have hl:xs.length < a8:=by rw [Ie rr,sz]; exact hz
 refine wpAny_setItem_heap (hsz:=by lia) (Dt (by lia)) hb dd fun h' AJ hs=>?_;have kp:Kp H (upd H a (.ext (Hg a (E2 xs pk b r)))):=.UX e;have pr:=De kp (PL rr dy rv dv);have he:∃ q,h'.get? a=some q:=let ⟨q,_,_,hq,_⟩:=AJ; ⟨q,hq⟩
 have Au:(E2 xs pk b r).length<=a8:=by
  unfold E2;split
  ·rw [aB]; lia
  ·rw [aG]; show xs.length+1<=_; lia
 exact h _ _ (qA I (by rw [e]; exact fI) hs he (Bk Au pd.2.1 AJ)) (.put ab hg kp (B9 bY pr))
theorem Dh(hu:X.A.units+64 < cLine)(ho:gy X o to)(hi:gy X i ti)
  (ha:autoParam (∀ v,Hn (.Subscript o i pos) X.env v=(do
   let ov ← Lw [v] (eval o X.env)
   let iv ← Lw [v,ov] (eval i X.env)
   standAt pos
   Lw [v,ov,iv] (setItem ov iv v)
   release [v,ov,iv] [])) Ai._auto_1):KR X (.Subscript o i pos) (DW to ti):=by
 intro E pins s σ H τ G w d u Q hE I r rd h;rw [ha];refine ag (eK (jh ho hE I h fun x H1 dx G1 ov s1 I1 m1 r1 jd q1=>?_));refine ag (eK (jh hi hE I1 q1 fun y H2 dy G2 iv s2 lX m2 r2 xc q2=>?_));refine ag (Cp (ag (eK ?_)));have EY:=m1.trans m2;have Ub:=rd.mono (EY.kp I.ab);have EW:=I.st.mono (EY.kp I.ab);have Xn:=jd.mono (m2.kp I1.ab);unfold Fx at q2;split at q2
 ·rename_i l;cases Xn;cases r1;obtain⟨kvs,pk,hg,rfl,hz,q⟩:=q2;exact Qz hu lX.inv lX.ab hg hz r2 xc r Ub fun H4 s4 I4 m4=>wpAny_release ⟨σ,H4,τ,_,⟨I4,EW.mono (m4.kp lX.ab),m4.ab⟩,EY.trans m4,q⟩
 ·exact q2.elim
theorem AH {P:bJ} {w:World} {H:Hp} (h:Heap) (hb:cY < h.objs.size):fB P w H (h.push { cls:=.type "dict",data:=.dict #[] }) h.objs.size (.ext (Hg h.objs.size [])) :=
 Bk (cE _) (beq_eq_false_iff_ne.mpr (gf (bK hb))) ⟨_,#[],0,bz _ rfl,⟨rfl,rfl,rfl⟩,rfl,rfl,(fun x hx=>absurd hx (by simp)),cF⟩
theorem Ik:gy X (.Dict [] [] pos) Oj:=by
 intro E pins s σ H τ G Q hE I h;have hn:=I.inv.cD.fresh (aE s.heap.objs.size);have I1:=I.inv.laid (a:=s.heap.objs.size) (o:=.ext (Hg s.heap.objs.size [])) (h':=s.heap.push { cls:=.type "dict",data:=.dict #[] }) (t':=s.toks) (fun _ _ q=>aJ _ q) (aE _) (AH s.heap I.inv.big);exact wpAny_Dict_empty ⟨.ref s.heap.objs.size,_,.ref _,_,I1,.new I.ab hn (B9 bY .nil),rfl,.ref _,h _ (I.ab.free hn)⟩
theorem MB(hu:X.A.units+64 < cLine)(hk:gy X k tk)(hv:gy X v tv):gy X (.Dict [some k] [v] pos) (Oi tk tv):=by
 intro E pins s σ H τ G Q hE I h;have hn:=I.inv.cD.fresh (aE s.heap.objs.size);have I1:=I.inv.laid (a:=s.heap.objs.size) (o:=.ext (Hg s.heap.objs.size [])) (h':=s.heap.push { cls:=.type "dict",data:=.dict #[] }) (t':=s.toks) (fun _ _ q=>aJ _ q) (aE _) (AH s.heap I.inv.big);have mh:Mv X.K H G (upd H s.heap.objs.size (.ext (Hg s.heap.objs.size []))) G:=.Li I.ab hn;have I2:I2 X pins σ (upd H s.heap.objs.size (.ext (Hg s.heap.objs.size []))) τ G { s with heap:=s.heap.push { cls:=.type "dict",data:=.dict #[] },toks:=s.toks }:=⟨I1,I.st.mono (.new hn),mh.ab⟩;refine wpAny_Dict_any (by rfl) (by rfl) (by simp) (show 1<=15 by decide) ?_;refine pairTrees_cons_walk (jh hk hE I2 h fun x H1 dx G1 u s1 I3 m1 r1 jd q1=>?_);refine jh hv hE I3 q1 fun y H2 dy G2 w s2 I4 m2 r2 xc q2=>?_;obtain⟨pk,rfl,q2⟩:=q2;refine pairTrees_nil_walk ?_;have g0:G s.heap.objs.size=none:=I.ab.free hn;obtain⟨p1,p2⟩:=m1.keep _ _ (bY (H:=H) (a:=s.heap.objs.size) (o:=.ext (Hg s.heap.objs.size []))) g0;obtain⟨p3,p4⟩:=m2.keep _ _ p1 p2;have US:=jd.mono (m2.kp I3.ab);have pd:=BK I4.inv.cD p3;have dd:=xx (K:=X.K) (kvs:=[]) I4.inv.cD pd .nil;obtain⟨b,rfl,rfl,hb⟩:=Qa I4.inv.cD US r1;unfold storeAll;rw [List.forIn_cons];refine ag (ag (wpAny_dictSet_heap (hsz:=cE _) (JZ (by lia)) hb dd fun h' AJ hs=>aA ?_));show wpAny _ _ (forIn [] PUnit.unit _) _ _ _;rw [List.forIn_nil];refine aA ?_;have he:∃ q,h'.get? s.heap.objs.size=some q:=let ⟨q,_,_,hq,_⟩:=AJ; ⟨q,hq⟩
 have es:E2 [] pk b w=[(pk,b,w)]:=rfl;rw [es] at AJ;have kp:Kp H2 (upd H2 s.heap.objs.size (.ext (Hg s.heap.objs.size [(pk,b,w)]))):=.UX p3;have I5:=qA (t':=s2.toks+(J9 X.prog X.w).draws pk) I4.inv (by rw [p3]; exact fI) hs he (Bk (by exact(show 1<=a8 by decide)) pd.2.1 AJ);have EY:=(mh.trans m1).trans m2;refine⟨.ref s.heap.objs.size,_,.ref s.heap.objs.size,_,I5,?_,rfl,.ref _,q2 _ p4⟩;refine⟨fun a o e n=>?_,fun a n=>?_,fun a g e=>?_⟩
 ·have ne:a≠s.heap.objs.size:=dD e hn;obtain⟨k1,k2⟩:=EY.keep a o e n;exact⟨by rw [bL ne]; exact k1,by rw [dP ne]; exact k2⟩
 ·by_cases ha:a=s.heap.objs.size
  ·rw [ha,bY]; simp
  ·rw [bL ha]; exact EY.ly a n
 ·by_cases ha:a=s.heap.objs.size
  ·subst ha;rw [aH] at e; cases e;exact B9 bY (De kp (.cons ⟨rfl,US,y,r2,xc⟩ .nil))
  ·rw [dP ha] at e;exact(EY.ab a g e).mono kp (bL ha)
theorem xt (ho:gy X o to) (x8:autoParam (oC o "items" X.env (eval o X.env)=eval o X.env) Ar._auto_1) (x6:autoParam ((apos.endLine == jk.line)=true) Ar._auto_1) :
  Lo X (.Tuple elts kk CI) (.Call (.Attribute o "items" apos) [] [] jk) (tK to):=by
 intro E pins s σ H τ G R hE I h;refine uk x8 x6 (jh ho hE I h fun x H1 d G1 v s1 I1 m1 r1 jd q1=>?_);cases d with
 | ny kvs =>
  have q1:R (kvs.map fun p=>.tup [oq p.1,p.2]) (fun _=>True) G1:=q1;cases jd with
  | ny hq rel rk rv =>
  rename_i a ob xs ks vs;have pr:=Bh rel rk rv;obtain⟨z,ns,o',es,ep,Ck,ex,dd,hl,nd⟩:=(I1.inv.cD a _ hq).2.1;have eo:o'=ob:=by have:=(I1.inv.cD a _ hq).1; rw [Ck] at this; exact aX this
  subst eo;have t1:s1.TypeIs (.ref a) "dict":=⟨_,Ck,ex.1⟩;have t2:∀ b,fk a=.ref b->∃ ob,s1.heap.get? b=some ob/\ob.dict=none:=fun b z=>by cases z; exact⟨_,Ck,ex.2.1⟩
  have l1:=congrArg dU hl;rw [aB,eP] at l1;have l2:=Ie pr;have l3:vs.length=xs.length:=by have:=rel.2.2.length; simpa using this
  have ps:∀ i (h:i < es.size),∃ p,((xs.zip vs).map fun z=>(V.ref z.1.2.1,z.2))[i]?=some p/\RelV p.1 es[i].key/\RelV p.2 es[i].val:=fun i hi=>by
   have i2:i < xs.length:=by lia
   have i3:i < vs.length:=by lia
   have ee:es[i]=⟨hP xs[i].1,.ref xs[i].2.1,xs[i].2.2⟩:=by
    have:=congrArg (fun l=>l[i]?) hl;simp only [bB,au i2] at this;simpa [hi] using this
   refine⟨(V.ref xs[i].2.1,vs[i]),by rw [bB,au (by rw [kq]; lia),rq]; rfl,?_⟩;rw [ee];refine⟨rfl,?_⟩;obtain⟨u,WG,Yz⟩:=rel.2.2.get (au i3);rw [bB,au i2] at WG;cases WG;exact Yz
  have SD:∀ (i:Nat) (q:PK×D),kvs[i]?=some q->∃ p,((xs.zip vs).map fun z=>(V.ref z.1.2.1,z.2))[i]?=some p/\ck X.K H1 p.1 (oq q.1)/\ck X.K H1 p.2 q.2:=fun i q e=>by
   have i1:i < kvs.length:=(List.getElem?_eq_some_iff.mp e).1;have i2:i < xs.length:=by lia
   have i3:i < vs.length:=by lia
   refine⟨(V.ref xs[i].2.1,vs[i]),by rw [bB,au (by rw [kq]; lia),rq]; rfl,?_,?_⟩
   ·obtain⟨w,hw,qJ⟩:=rk.get (i:=i) (d:=oq q.1) (by rw [bB,e]; rfl);rw [rel.2.1,bB,au i2] at hw;cases hw;exact qJ
   ·obtain⟨w,hw,qJ⟩:=rv.get (i:=i) (d:=q.2) (by rw [bB,e]; rfl);rw [au i3] at hw;cases hw;exact qJ
  have hlen:kvs.length=es.size:=by lia
  cases r1;refine⟨"dict","dict.items",cZ,fm,oW,t1,t2,kG rfl (vN ?_)⟩;refine wG fm t1 oD (nF _) (sZ a ns) ⟨t1,?_⟩;have I2:Inv X pins σ H1 { s1 with heap:=s1.heap.push { cls:=.type "dict_items",data:=.fields #[.ref a] } }:=I1.inv.kept (t':=s1.toks) fun b o e=>aJ _ e;refine vE (s:={ s1 with heap:=s1.heap.push { cls:=.type "dict_items",data:=.fields #[.ref a] } }) ⟨_,bz _ rfl,rfl,rfl⟩ (aJ _ (I1.inv.cD a _ hq).1) dd ?_;refine⟨_,[_],_,_,H1,G1,kvs.map (fun p=>.tup [oq p.1,p.2]),_,rfl,I2.kept (t':=s1.toks) fun b o e=>aJ _ e,m1,vg a _ _ es ep _ dd ps,⟨.none,.none,bz _ rfl⟩,fun b hb=>?_,fun i H2 G2 k ab _=>?_,q1⟩
  ·have e:=List.mem_singleton.mp hb;subst e;exact I2.BB (aE _) (I2.cD.fresh (aE _))
  ·have Au:=k.jl _ _ _ hq;refine⟨fun d hd=>?_,fun hle=>⟨⟨_,Au⟩,by rw [<-hlen]; simpa using hle⟩⟩;rw [bB] at hd;cases Kn:kvs[i]? with
   | none=>rw [Kn] at hd; cases hd
   | some q =>
    rw [Kn] at hd;obtain⟨p,hp,rk,rp⟩:=SD i q Kn;have hi:i < es.size:=by rw [<-hlen]; exact(List.getElem?_eq_some_iff.mp Kn).1
    refine⟨⟨⟨_,Au⟩,hi⟩,?_⟩;rintro x H3 ⟨T,p',ex,hT,e3,hy⟩;subst ex e3;rw [hp] at hy;cases hy;have ed:D.tup [oq q.1,q.2]=d:=by simpa using hd
    subst ed;exact⟨.tup bY (.cons ((rk.mono k).mono (.new hT)) (.cons ((rp.mono k).mono (.new hT)) .nil)),.Li ab hT⟩
 | _=>exact q1.elim
theorem kY.drop{K:ai}{H:Hp}{kv:List (List Key×V)}{kvs:List (D×D)}(r:kY K H kv kvs)(k:List Key):kY K H (kv.filter fun p=>decide (p.1≠k)) (kvs.filter fun p=>!ig p.1 (.tup (k.map dM))):=by
 induction r using kY.ind with
 | nil=>exact .nil
 | @cons j v d r t rd rs ih =>
  rw [bF,bF];simp only [pT];by_cases e:j=k
  ·simp only [e,ne_eq,not_true_eq_false,decide_false,decide_true,bQ,ar,if_false]; exact ih
  ·simp only [e,ne_eq,not_false_eq_true,decide_true,decide_false,fF,if_true]; exact .cons rd ih
theorem KT.drop{H:Hp}{kvs:List (List Key×V)}{xs:List (List Key×Addr×Value)}(r:KT H kvs xs)(k:List Key):KT H (kvs.filter fun p=>decide (p.1≠k)) (R6 xs k):=by
 unfold R6;induction r with
 | nil=>exact .nil
 | @cons p q ps qs h1 _ ih =>
  rw [bF,bF];by_cases e:p.1=k
  ·have e2:q.1=k:=h1.1.symm.trans e;simp only [e,e2,ne_eq,not_true_eq_false,decide_false,ar,if_false]; exact ih
  ·have e2:¬ q.1=k:=fun z=>e (h1.1.trans z);simp only [e,e2,ne_eq,not_false_eq_true,decide_true,if_true]; exact .cons h1 ih
theorem Dv (hu:X.A.units+64 < cLine):K3 X "dict.pop" DB:=by
 intro pins s σ H G x d xs ds v us Q I ab rx rd OV C1 q;unfold DB at q;split at q
 ·rename_i a k;obtain⟨kvs,d',hg,⟨hk,ha,hl⟩,q⟩:=q;cases rd;obtain⟨w,rfl,CV⟩:=C1.one;obtain⟨u1,rfl,JL⟩:=vals1 OV;cases rx;obtain⟨H',I',m,h⟩:=BR I ab hg (by unfold gG; rw [nv]; right; rw [hk,ha]; rfl) CV;rcases h with ⟨kv,kk,hv,rs,rfl,rfl⟩ | ⟨kv,kk,b,hv,rs,rfl,rfl,hb⟩
  ·cases kk <;> simp [dM,jU] at hk
  ·cases JL;obtain⟨z,hd,ys,rel,dd⟩:=N7 I'.cD hv;rcases rs.look kk with ⟨v',d2,e1,e2,rr⟩ | ⟨e1,e2⟩
   ·rw [e2] at hl;cases hl;obtain⟨w',hw,qJ⟩:=vc.some_of (v:=v') (o:=(atKey ys kk).map (·.2)) (by rw [<-e1]; exact rel.val kk);obtain⟨p,hp,oQ⟩:=Option.map_eq_some_iff.mp hw;refine Mt (knd:=hU (cK X.prog X.w)) (lx (by lia)) (uL I'.cD hb) dd hp (by rw [<-gX rel]; exact z) fun h' AJ hs=>?_;rw [oQ];have kp:Kp H' (upd H' a (.dT (kv.filter fun p=>decide (p.1≠kk)))):=.putD hv (.inr ⟨_,rfl⟩);obtain⟨q',es,ep,hq,h2,h3,h4,_,h5⟩:=AJ;have I5:=qA (t':=s.toks+(hU (cK X.prog X.w)).draws kk) I' (by rw [hv]; exact fI) hs ⟨q',hq⟩ (ob:=.dT (kv.filter fun p=>decide (p.1≠kk))) ⟨aZ (dw _ _) z,hd,_,(KT.drop rel kk).keeps fun c ys ec=>by rw [bL (Rq ec hv (fun z=>nomatch z))]; exact ec,q',es,ep,hq,h2,h3,h4,h5⟩;exact⟨v',_,d',_,I5,m.trans (.put m.ab hg kp (.dt bY ((rs.drop kk).mono kp))),qJ,rr.mono kp,q⟩
   ·rw [e2] at hl; cases hl
 ·exact q.elim
end
end K2
end
section
namespace K2
open PySem PySem.W PySem.Spec PyProof.Rows PySem.Calls
theorem J7{p q:bJ}{loose:List Str}{Xt:av->Bool}{α:Type}{Yf:av->α}{Ya:World->α}{N:Nat}(e:opening p=plainProg p.main.scope.names)(hN:Nat.ble 600 N=true)(f:∀ s,fenceModules? p s=some s)
  (h:∀ (w:World) (os:OsState),(topFrom treeTable p w N ⟨Lz w.params,Jv [],E7,Ly,os⟩).map (fun s=>(openSeen q loose (wF p.main.body) Xt true s,Yf s))=some (openGood q loose,Ya w)):LeftO p q loose Xt Yf Ya N:=fun w=>by
 obtain⟨⟨h',gs,d,k,os⟩,e1,e2⟩:=Option.map_eq_some_iff.mp (boot_open e hN f w);obtain⟨rfl,rfl,rfl,rfl⟩:h'=Lz w.params/\gs=Jv []/\d=E7/\k=Ly:=by simpa using e2
 unfold openEnds;rw [e1];exact h w os
noncomputable abbrev HD(l:OpenLaw)(q:bJ):Bool:=chainsOk q&&opensWell l.row.prog&&(frees l.row.toRowW&&l.row.within.isEmpty)
noncomputable abbrev R5(l:OpenLaw)(q:bJ)(s:av):Bool:=xlAt q [] s&&recOk l.row.records s
theorem Kr{l:OpenLaw}{q:bJ}{loose:List Str}{K:Params->Frag}{as:List Addr}{d:DefRec}{N:Nat}(ok:l.wellSaid=true)(e:opening l.row.prog=plainProg l.row.prog.main.scope.names)(hN:Nat.ble 600 N=true)(f:∀ s,fenceModules? l.row.prog s=some s)(hK:∀ P,as=(K P).map (·.1))
  (h:∀ (w:World) (os:OsState),(topFrom treeTable l.row.prog w N ⟨Lz w.params,Jv [],E7,Ly,os⟩).map (fun s=>(openSeen q loose (wF l.row.prog.main.body) (R5 l q) true s,as.map s.heap.get?))=some (openGood q loose,(K w.params).map fun p=>some p.2))
  (hd:defOf q l.row.name=some (d,[])) (hp:l.row.prog.theDef l.row.name=some (d.params,d.body,d.scope)) (hk:kwWritten? d.params.kwonlyargs d.params.kw_defaults=some []) (hr:(!l.row.writes||l.row.records.isEmpty)=true) (ht:HD l q=true) (hb:l.row.prog.bare) (hw:l.row.toRowW.promised)
  (c:WalkO q loose (XL q []) (InK K) l.row.toRowW d [] fun f vs=>Ho f vs):l.Holds :=
 holds_law ok fun k1=>holds_open (J7 (Yf:=Hook.obs (kHook K as hK)) (Ya:=Hook.val (kHook K as hK)) e hN f h) (Hook.of (kHook K as hK)) (Hook.keeps (kHook K as hK)) (fun s x=>xl_of s (Bool.and_eq_true_iff.mp x).1) XL.keeps hd hp hk (fun s x=>recFacts_of (Bool.and_eq_true_iff.mp x).2) hr k1 ht hb hw c
structure At(K:Frag)(x:Str)(st:Stmt)(f:Addr)(fd:aC):Prop where
 a:nsIn K bP x=some (some (.ref f))
 F:L2.nu K x x st f fd
theorem At.mg{K:Frag}{h:Heap}{mg:Str->Option Value}{x:Str}{st:Stmt}{f:Addr}{fd:aC}(z:At K x st f fd)(X:K.In h)(G:h.Ns bP mg):mg x=some (.ref f):=mg_of X G z.a
theorem e7{K:Frag}{x:Str}{st:Stmt}{f:Addr}{oc:Value}{od an:Option Addr}{MG:Array (Option Value)}{kV doc pm nB ct:Value}(a:autoParam (nsIn K bP x=some (some (.ref f))) Aq._auto_1)(l:autoParam (K.lookup f=some ⟨oc,od,.func (fnOf x x (L2.mj st) (L2.jB st) (L2.bc st) .none kV doc pm an nB ct),MG⟩) Aq._auto_1)
  (c:autoParam (codeIn K nB x=true) Aq._auto_1) (k:autoParam (keepIn K (.ref f)=true) Aq._auto_1):At K x st f (fnOf x x (L2.mj st) (L2.jB st) (L2.bc st) .none kV doc pm an nB ct):=⟨a,L2.Tx l c k⟩
structure lj(P:bJ)(w:World)(K:Frag)(mg:Str->Option Value)(base:Heap)(CX:L2.K5)(k:Nat)(f:Addr)(fd:aC)(x:Str)(ps:List Str)(sp:L2.Sp):Prop where
 ok:L2.fH P w K mg base CX k f fd ps sp
 mg:mg x=some (.ref f)
 kp:keepIn K (.ref f)=true
 bi:L2.Binds K fd ps []
end K2
end
section
set_option maxHeartbeats 1000000
namespace K2
namespace J
section
variable {α:Type} [DecidableEq α]
noncomputable def Iv(f:α->α):Prop:=∀ e,f (f e)=e
noncomputable def jn(f:α->α)(x y:α):α->α:=fun e=>if e=x\/e=y then e else if e=f x then f y else if e=f y then f x else f e
noncomputable def cl(f:α->α)(x y:α):Nat:=if f x=y then 1 else 0
theorem Ry{f:α->α}(h:Iv f){x y:α}(hx:f x≠x)(hy:f y≠y)(Ui:x≠y):Iv (jn f x y):=by
 intro e;have h1:=h x;have h2:=h y;have h3:=h e;unfold jn
 grind (splits:=40)
theorem Nh{f:α->α}(h:Iv f){x y e:α}(Ui:x≠y)(he:jn f x y e=e):e=x\/e=y\/f e=e:=by
 have h1:=h x;have h2:=h y;unfold jn at he
 grind (splits:=40)
theorem Yh{f:α->α}{x y:α}:jn f x y x=x:=by unfold jn; grind
theorem Yg{f:α->α}{x y:α}:jn f x y y=y:=by unfold jn; grind
theorem IF{f:α->α}{x y:α}:jn f x y=jn f y x:=by funext e; unfold jn; grind
theorem QM{f:α->α}(h:Iv f){x y:α}:cl f x y=cl f y x:=by
 have h1:=h x;have h2:=h y;unfold cl; grind
theorem Qj{f:α->α}(h:Iv f){x y z w:α}(hx:f x≠x)(hy:f y≠y)(hz:f z≠z)(hw:f w≠w)(xy:x≠y)(xz:x≠z)(xw:x≠w)(yz:y≠z)(yw:y≠w)(zw:z≠w):jn (jn f x y) z w=jn (jn f z w) x y:=by
 funext e;have h1:=h x;have h2:=h y;have h3:=h z;have h4:=h w;have h5:=h e;unfold jn
 grind (splits:=40)
theorem QN{f:α->α}(h:Iv f){x y z w:α}(hx:f x≠x)(hy:f y≠y)(hz:f z≠z)(hw:f w≠w)(xy:x≠y)(xz:x≠z)(xw:x≠w)(yz:y≠z)(yw:y≠w)(zw:z≠w):cl f x y+cl (jn f x y) z w=cl f z w+cl (jn f z w) x y:=by
 have h1:=h x;have h2:=h y;have h3:=h z;have h4:=h w;unfold cl jn
 grind (splits:=40)
end
end J
end K2
end
section
set_option maxHeartbeats 1000000
namespace K2
namespace J
section
variable {α:Type} [DecidableEq α]
noncomputable abbrev Pr(α:Type):=List (α×α)
noncomputable def gT(f:α->α):Pr α->α->α
 | []=>f
 | p :: ps=>gT (jn f p.1 p.2) ps
noncomputable def cls(f:α->α):Pr α->Nat
 | []=>0
 | p :: ps=>cl f p.1 p.2+cls (jn f p.1 p.2) ps
noncomputable def es:Pr α->List α
 | []=>[]
 | p :: ps=>p.1 :: p.2 :: es ps
structure Ok(f:α->α)(ps:Pr α):Prop where
 iv:Iv f
 nd:(es ps).Nodup
 dm:∀ e∈es ps,f e≠e
theorem j6{ps qs:Pr α}(h:ps.Perm qs):(es ps).Perm (es qs):=by
 induction h with
 | nil=>exact .nil
 | cons x _ ih=>exact(ih.cons _).cons _
 | swap x y l =>
  show (y.1 :: y.2 :: x.1 :: x.2 :: es l).Perm (x.1 :: x.2 :: y.1 :: y.2 :: es l);have:∀ (a b c d:α) (l:List α),(a :: b :: c :: d :: l).Perm (c :: d :: a :: b :: l):=fun a b c d l=>by
   refine((mR c b _).cons a).trans ?_;refine(mR c a _).trans ?_;refine AZ c ?_;refine((mR d b _).cons a).trans ?_;exact mR d a _
  exact this _ _ _ _ _
 | trans _ _ a b=>exact a.trans b
theorem qy(ps qs:Pr α):es (ps++qs)=es ps++es qs:=by
 induction ps with
 | nil=>rfl
 | cons p ps ih=>rw [az,es,es,ih]; rfl
theorem GG(ps:Pr α):(es ps).length=2 * ps.length:=by
 induction ps with
 | nil=>rfl
 | cons p ps ih=>rw [es,aj,aj,ih,aj]; lia
theorem kA{ps:Pr α}{e:α}:e∈es ps↔∃ p∈ps,e=p.1\/e=p.2:=by
 induction ps with
 | nil=>simp [es]
 | cons p ps ih =>
  rw [es,aY,aY,ih];constructor
  ·rintro(h | h | ⟨q,h,z⟩)
   ·exact⟨p,by simp,.inl h⟩
   ·exact⟨p,by simp,.inr h⟩
   ·exact⟨q,aK _ h,z⟩
  ·rintro⟨q,h,z⟩;rcases List.mem_cons.mp h with rfl | h
   ·rcases z with z | z
    ·exact .inl z
    ·exact .inr (.inl z)
   ·exact .inr (.inr ⟨q,h,z⟩)
theorem Ok.perm{f:α->α}{ps qs:Pr α}(h:ps.Perm qs)(o:Ok f ps):Ok f qs :=
 ⟨o.iv,(j6 h).nodup_iff.mp o.nd,fun e he=>o.dm e ((j6 h).mem_iff.mpr he)⟩
theorem Ok.hd{f:α->α}{p:α×α}{ps:Pr α}(o:Ok f (p :: ps)):p.1≠p.2/\f p.1≠p.1/\f p.2≠p.2:=by
 have n:=o.nd;rw [es,aN] at n;exact⟨fun z=>n.1 (by rw [z]; exact cc),o.dm _ (by simp [es]),o.dm _ (by simp [es])⟩
theorem Ok.tl{f:α->α}{p:α×α}{ps:Pr α}(o:Ok f (p :: ps)):Ok (jn f p.1 p.2) ps:=by
 obtain⟨h1,h2,h3⟩:=o.hd;have n:=o.nd;rw [es,aN,aN] at n;refine⟨Ry o.iv h2 h3 h1,n.2.2,fun e he z=>?_⟩;rcases Nh o.iv h1 z with z | z | z
 ·exact n.1 (by rw [<-z]; exact aK _ he)
 ·exact n.2.1 (by rw [<-z]; exact he)
 ·exact o.dm e (by simp [es,he]) z
theorem Ok.left{f:α->α}{ps qs:Pr α}(o:Ok f (ps++qs)):Ok (gT f ps) qs:=by
 induction ps generalizing f with
 | nil=>exact o
 | cons p ps ih=>exact ih o.tl
theorem Ok.pre{f:α->α}{ps qs:Pr α}(o:Ok f (ps++qs)):Ok f ps :=
 ⟨o.iv,by have:=o.nd; rw [qy] at this; exact(List.nodup_append.mp this).1,fun e he=>o.dm e (by rw [qy]; exact mC _ he)⟩
theorem nT(f:α->α)(ps qs:Pr α):gT f (ps++qs)=gT (gT f ps) qs:=by
 induction ps generalizing f with
 | nil=>rfl
 | cons p ps ih=>exact ih _
theorem nX(f:α->α)(ps qs:Pr α):cls f (ps++qs)=cls f ps+cls (gT f ps) qs:=by
 induction ps generalizing f with
 | nil=>simp [cls,gT]
 | cons p ps ih=>rw [az,cls,cls,ih,gT,jg]
theorem DO{f:α->α}{ps qs:Pr α}(h:ps.Perm qs)(o:Ok f ps):gT f ps=gT f qs/\cls f ps=cls f qs:=by
 induction h generalizing f with
 | nil=>exact⟨rfl,rfl⟩
 | cons x _ ih =>
  obtain⟨a,b⟩:=ih o.tl;exact⟨a,by rw [cls,cls,b]⟩
 | swap x y l =>
  have n:=o.nd;simp only [es,aN,aY,not_or] at n;have d:∀ e,e=y.1\/e=y.2\/e=x.1\/e=x.2->f e≠e:=fun e he=>o.dm e (by
   simp only [es,aY];rcases he with h | h | h | h <;> simp [h])
  have a:=Qj o.iv (d y.1 (by simp)) (d y.2 (by simp)) (d x.1 (by simp)) (d x.2 (by simp)) n.1.1 n.1.2.1 n.1.2.2.1 n.2.1.1 n.2.1.2.1 n.2.2.1.1;have b:=QN o.iv (d y.1 (by simp)) (d y.2 (by simp)) (d x.1 (by simp)) (d x.2 (by simp)) n.1.1 n.1.2.1 n.1.2.2.1 n.2.1.1 n.2.1.2.1 n.2.2.1.1;refine⟨?_,?_⟩
  ·show gT (jn (jn f y.1 y.2) x.1 x.2) l=gT (jn (jn f x.1 x.2) y.1 y.2) l;rw [a]
  ·show cl f y.1 y.2+(cl (jn f y.1 y.2) x.1 x.2+cls (jn (jn f y.1 y.2) x.1 x.2) l)=cl f x.1 x.2+(cl (jn f x.1 x.2) y.1 y.2+cls (jn (jn f x.1 x.2) y.1 y.2) l);rw [a]; lia
 | trans h1 h2 i1 i2 =>
  obtain⟨a,b⟩:=i1 o;obtain⟨c,d⟩:=i2 (o.perm h1);exact⟨a.trans c,b.trans d⟩
theorem Nc{f:α->α}{x y:α}{ps:Pr α}(o:Iv f):gT f ((x,y) :: ps)=gT f ((y,x) :: ps)/\cls f ((x,y) :: ps)=cls f ((y,x) :: ps):=by
 refine⟨?_,?_⟩
 ·show gT (jn f x y) ps=gT (jn f y x) ps;rw [IF]
 ·show cl f x y+cls (jn f x y) ps=cl f y x+cls (jn f y x) ps;rw [IF,QM o]
theorem Ni{f:α->α}(h:Iv f){p q x y:α}(e:f p=q)(pq:p≠q)(hx:f x≠x)(hy:f y≠y)(xp:x≠p)(xq:x≠q)(yp:y≠p)(yq:y≠q)(xy:x≠y) :
  jn (jn f x p) q y=jn (jn f p q) x y/\cl f x p+cl (jn f x p) q y=cl (jn f p q) x y:=by
 have h1:=h x;have h2:=h y;have h3:=h p;refine⟨?_,?_⟩
 ·funext a;have h5:=h a;unfold jn
  grind (splits:=40)
 ·unfold cl jn
  grind (splits:=40)
theorem Kf{f:α->α}{p q x y:α}{ps:Pr α}(o:Ok f ((x,p) :: (q,y) :: ps))(e:f p=q) :
  gT f ((x,p) :: (q,y) :: ps)=gT (jn f p q) ((x,y) :: ps)/\cls f ((x,p) :: (q,y) :: ps)=cls (jn f p q) ((x,y) :: ps):=by
 have n:=o.nd;simp only [es,aN,aY,not_or] at n;have d:∀ e,e=x\/e=p\/e=q\/e=y->f e≠e:=fun e he=>o.dm e (by
  simp only [es,aY];rcases he with h | h | h | h <;> simp [h])
 obtain⟨a,b⟩:=Ni o.iv e n.2.1.1 (d x (by simp)) (d y (by simp)) n.1.1 n.1.2.1 (fun z=>n.2.1.2.1 z.symm) (fun z=>n.2.2.1.1 z.symm) n.1.2.2.1;refine⟨?_,?_⟩
 ·show gT (jn (jn f x p) q y) ps=gT (jn (jn f p q) x y) ps;rw [a]
 ·show cl f x p+(cl (jn f x p) q y+cls (jn (jn f x p) q y) ps)=cl (jn f p q) x y+cls (jn (jn f p q) x y) ps;rw [<-jg,b,a]
theorem Nd{f:α->α}{p q:α}{ps:Pr α}(e:f p=q):cls f ((p,q) :: ps)=1+cls (jn f p q) ps:=by
 show cl f p q+_=_;unfold cl;rw [if_pos e]
end
end J
end K2
end
section
set_option maxHeartbeats 1000000
namespace K2
namespace J
noncomputable abbrev Fn:=Int->Int
noncomputable def lp(g:Fn):Fn:=fun i=>-(g (i+2)) - g (i - 2)
noncomputable def sh(b:Int)(g:Fn):Fn:=fun i=>g (i+b)
noncomputable def gK:Nat->Fn->Fn
 | 0,g=>g
 | n+1,g=>lp (gK n g)
theorem Bq(n m:Nat)(g:Fn):gK (n+m) g=gK n (gK m g):=by
 induction n with
 | zero=>rw [Cf]; rfl
 | succ n ih=>rw [Nat.succ_add,gK,gK,ih]
theorem Vm(b:Int)(g:Fn):lp (sh b g)=sh b (lp g):=by
 funext i;unfold lp sh;rw [show i+2+b=i+b+2 by lia,show i - 2+b=i+b - 2 by lia]
theorem jz(n:Nat)(b:Int)(g:Fn):gK n (sh b g)=sh b (gK n g):=by
 induction n with
 | zero=>rfl
 | succ n ih=>rw [gK,gK,ih,Vm]
theorem HP(a b:Int)(g:Fn):sh a (sh b g)=sh (a+b) g:=by
 funext i;unfold sh;rw [Int.add_assoc]
theorem HN(g:Fn):sh 0 g=g:=by
 funext i;unfold sh;rw [hB]
noncomputable def pl(g k:Fn):Fn:=fun i=>g i+k i
noncomputable def sc(c:Int)(g:Fn):Fn:=fun i=>c * g i
theorem Vo(g k:Fn):lp (pl g k)=pl (lp g) (lp k):=by
 funext i;show -(g (i+2)+k (i+2)) - (g (i - 2)+k (i - 2))=(-(g (i+2)) - g (i - 2))+(-(k (i+2)) - k (i - 2));lia
theorem Vn(c:Int)(g:Fn):lp (sc c g)=sc c (lp g):=by
 funext i;unfold lp sc;rw [Int.mul_sub,Int.mul_neg]
theorem MZ(n:Nat)(g k:Fn):gK n (pl g k)=pl (gK n g) (gK n k):=by
 induction n with
 | zero=>rfl
 | succ n ih=>rw [gK,gK,gK,ih,Vo]
theorem MY(n:Nat)(c:Int)(g:Fn):gK n (sc c g)=sc c (gK n g):=by
 induction n with
 | zero=>rfl
 | succ n ih=>rw [gK,gK,ih,Vn]
theorem Rf(b:Int)(g k:Fn):sh b (pl g k)=pl (sh b g) (sh b k):=rfl
theorem Rc(b c:Int)(g:Fn):sh b (sc c g)=sc c (sh b g):=rfl
noncomputable def js(n:Int)(w:Bool):Pr T3:=if w=false then [(⟨n,0,0⟩,⟨n,1,1⟩),(⟨n,1,0⟩,⟨n,0,1⟩)] else [(⟨n,0,0⟩,⟨n,1,0⟩),(⟨n,0,1⟩,⟨n,1,1⟩)]
noncomputable def Br:(T3->T3)->List (Int×Int)->Fn->Int
 | _,[],g=>g 0
 | f,p :: ps,g=>Br (gT f (js p.1 false)) ps (gK (cls f (js p.1 false)) (sh p.2 g))+Br (gT f (js p.1 true)) ps (gK (cls f (js p.1 true)) (sh (-p.2) g))
theorem Jq:∀ (ps:List (Int×Int)) (f:T3->T3) (g k:Fn),Br f ps (pl g k)=Br f ps g+Br f ps k
 | [],_,_,_=>rfl
 | p :: ps,f,g,k=>by
  rw [Br,Br,Br,Rf,Rf,MZ,MZ,Jq,Jq]; lia
theorem AW:∀ (ps:List (Int×Int)) (f:T3->T3) (c:Int) (g:Fn),Br f ps (sc c g)=c * Br f ps g
 | [],_,_,_=>rfl
 | p :: ps,f,c,g=>by
  rw [Br,Br,Rc,Rc,MY,MY,AW,AW,rB]
noncomputable def jL(n:Int):List T3:=[⟨n,0,0⟩,⟨n,1,1⟩,⟨n,1,0⟩,⟨n,0,1⟩]
theorem jA(n:Int)(w:Bool):(es (js n w)).Perm (jL n):=by
 cases w with
 | false=>exact .refl _
 | true =>
  show [(⟨n,0,0⟩:T3),⟨n,1,0⟩,⟨n,0,1⟩,⟨n,1,1⟩].Perm _;refine AZ _ ?_;refine(iS (l₁:=[(⟨n,1,0⟩:T3),⟨n,0,1⟩]) (l₂:=[⟨n,1,1⟩]))
structure Dm(f:T3->T3)(ns:List Int):Prop where
 iv:Iv f
 nd:ns.Nodup
 dm:∀ n∈ns,∀ e∈jL n,f e≠e
theorem Dm.perm{f:T3->T3}{ns ms:List Int}(h:ns.Perm ms)(d:Dm f ns):Dm f ms:=⟨d.iv,h.nodup_iff.mp d.nd,fun n hn=>d.dm n (h.mem_iff.mpr hn)⟩
theorem yt(n:Int):(jL n).Nodup:=by
 unfold jL;simp
theorem qz{n:Int}{e:T3}(h:e∈jL n):e.a=n:=by
 unfold jL at h;simp only [aY,dS,or_false] at h;rcases h with rfl | rfl | rfl | rfl <;> rfl
theorem Dm.ok{f:T3->T3}{n:Int}{ns:List Int}(d:Dm f (n :: ns))(w:Bool):Ok f (js n w) :=
 ⟨d.iv,(jA n w).nodup_iff.mpr (yt n),fun e he=>d.dm n (by simp) e ((jA n w).mem_iff.mp he)⟩
theorem Dm.Rm{f:T3->T3}{n m:Int}{ns:List Int}(d:Dm f (n :: m :: ns))(w v:Bool):Ok f (js n w++js m v):=by
 have VC:n≠m:=fun z=>(List.nodup_cons.mp d.nd).1 (by rw [z]; exact cc);refine⟨d.iv,?_,fun e he=>?_⟩
 ·rw [qy,eS];refine⟨(jA n w).nodup_iff.mpr (yt n),(jA m v).nodup_iff.mpr (yt m),fun a ha b hb z=>?_⟩;have h1:=qz ((jA n w).mem_iff.mp ha);have h2:=qz ((jA m v).mem_iff.mp hb);rw [z] at h1;exact VC (h1.symm.trans h2)
 ·rw [qy,List.mem_append] at he;rcases he with he | he
  ·exact d.dm n (by simp) e ((jA n w).mem_iff.mp he)
  ·exact d.dm m (by simp) e ((jA m v).mem_iff.mp he)
theorem IE{f:T3->T3}:∀ {ps:Pr T3},Ok f ps->∀ {e:T3},gT f ps e=e->e∈es ps\/f e=e:=by
 intro ps;induction ps generalizing f with
 | nil=>intro o e h; exact .inr h
 | cons p ps ih =>
  intro o e h;rcases ih o.tl h with z | z
  ·exact .inl (by simp [es,z])
  ·rcases Nh o.iv o.hd.1 z with z | z | z
   ·exact .inl (by simp [es,z])
   ·exact .inl (by simp [es,z])
   ·exact .inr z
theorem Nf{f:T3->T3}:∀ {ps:Pr T3},Ok f ps->Iv (gT f ps):=by
 intro ps;induction ps generalizing f with
 | nil=>intro o; exact o.iv
 | cons p ps ih=>intro o; exact ih o.tl
theorem Dm.step{f:T3->T3}{n:Int}{ns:List Int}(d:Dm f (n :: ns))(w:Bool):Dm (gT f (js n w)) ns:=by
 have nn:=List.nodup_cons.mp d.nd;refine⟨Nf (d.ok w),nn.2,fun m hm e he z=>?_⟩;rcases IE (d.ok w) z with z | z
 ·have h1:=qz ((jA n w).mem_iff.mp z);have h2:=qz he;exact nn.1 (by rw [<-h1,h2]; exact hm)
 ·exact d.dm m (aK _ hm) e he z
theorem Q6{f:T3->T3}{p q:Int×Int}{ps:List (Int×Int)}(d:Dm f (p.1 :: q.1 :: ps.map (·.1)))(g:Fn):Br f (p :: q :: ps) g=Br f (q :: p :: ps) g:=by
 have key:∀ (w v:Bool),gT (gT f (js p.1 w)) (js q.1 v)=gT (gT f (js q.1 v)) (js p.1 w)/\cls (gT f (js p.1 w)) (js q.1 v)+cls f (js p.1 w)=cls (gT f (js q.1 v)) (js p.1 w)+cls f (js q.1 v):=fun w v=>by
  obtain⟨a,b⟩:=DO (iS) (d.Rm w v);rw [nT,nT] at a;rw [nX,nX] at b;exact⟨a,by lia⟩
 have kk:∀ (w v:Bool) (x y:Int),Br (gT (gT f (js p.1 w)) (js q.1 v)) ps (gK (cls (gT f (js p.1 w)) (js q.1 v)) (sh x (gK (cls f (js p.1 w)) (sh y g))))=Br (gT (gT f (js q.1 v)) (js p.1 w)) ps (gK (cls (gT f (js q.1 v)) (js p.1 w)) (sh y (gK (cls f (js q.1 v)) (sh x g)))):=fun w v x y=>by
  obtain⟨a,b⟩:=key w v;have z:∀ (m n:Nat) (x y:Int),gK m (sh x (gK n (sh y g)))=sh (x+y) (gK (m+n) g):=fun m n x y=>by rw [jz,jz,jz,HP,Bq]
  rw [a,z,z,b,Int.add_comm x y]
 show (Br _ ps _+Br _ ps _)+(Br _ ps _+Br _ ps _)=(Br _ ps _+Br _ ps _)+(Br _ ps _+Br _ ps _);rw [kk,kk,kk,kk];lia
theorem Q7{ps qs:List (Int×Int)}(h:ps.Perm qs):∀ {f:T3->T3},Dm f (ps.map (·.1))->∀ g,Br f ps g=Br f qs g:=by
 induction h with
 | nil=>intro f d g; rfl
 | cons x _ ih=>intro f d g; rw [Br,Br,ih (d.step false),ih (d.step true)]
 | swap x y l=>intro f d g; exact Q6 d g
 | trans h1 h2 i1 i2=>intro f d g; rw [i1 d,i2 (d.perm (h1.map _))]
end J
end K2
end
section
set_option maxHeartbeats 1000000
namespace K2
namespace J
section
variable {α:Type} [DecidableEq α]
theorem Ok.es{f:α->α}{ps qs:Pr α}(h:(es ps).Perm (es qs))(o:Ok f ps):Ok f qs:=⟨o.iv,h.nodup_iff.mp o.nd,fun e he=>o.dm e (h.mem_iff.mpr he)⟩
structure Sm(ps qs:Pr α):Prop where
 es:(es ps).Perm (es qs)
 eq:∀ f,Ok f ps->gT f ps=gT f qs/\cls f ps=cls f qs
theorem Sm.refl(ps:Pr α):Sm ps ps:=⟨.refl _,fun _ o=>⟨rfl,rfl⟩⟩
theorem Sm.trans{ps qs rs:Pr α}(a:Sm ps qs)(b:Sm qs rs):Sm ps rs:=⟨a.es.trans b.es,fun f o=>by
 obtain⟨a1,a2⟩:=a.eq f o;obtain⟨b1,b2⟩:=b.eq f (o.es a.es);exact⟨a1.trans b1,a2.trans b2⟩⟩
theorem Sm.perm{ps qs:Pr α}(h:ps.Perm qs):Sm ps qs:=⟨j6 h,fun f o=>DO h o⟩
theorem Sm.turn(x y:α)(ps:Pr α):Sm ((x,y) :: ps) ((y,x) :: ps):=⟨mR _ _ _,fun f o=>Nc o.iv⟩
theorem Sm.cons(p:α×α){ps qs:Pr α}(h:Sm ps qs):Sm (p :: ps) (p :: qs):=⟨(h.es.cons _).cons _,fun f o=>by
 obtain⟨a1,a2⟩:=h.eq _ o.tl;exact⟨a1,by rw [cls,cls,a2]⟩⟩
end
noncomputable abbrev Pn:=List (Nat×Nat)
noncomputable def CJ(p:Nat):Pn->Option (Nat×Pn)
 | []=>none
 | (a,b) :: r=>if a=p then some (b,r) else if b=p then some (a,r) else match CJ p r with
  | some (x,r')=>some (x,(a,b) :: r')
  | none=>none
noncomputable def L3(p q:Nat)(ps:Pn):Option (Nat×Pn):=match CJ p ps with
 | none=>none
 | some (x,r)=>if x=q then some (1,r) else match CJ q r with
  | none=>none
  | some (y,r2)=>some (0,(x,y) :: r2)
noncomputable def WM:Pn->Pn->Option (Nat×Pn)
 | [],ps=>some (0,ps)
 | (p,q) :: T,ps=>match L3 p q ps with
  | none=>none
  | some (k,ZW)=>match WM T ZW with
   | none=>none
   | some (k',qs)=>some (k+k',qs)
noncomputable def Ql(p:Nat×Nat):Pn->Pn
 | []=>[p]
 | a :: r=>if p.1<=a.1 then p :: a :: r else a :: Ql p r
noncomputable def QP:Pn->Pn
 | []=>[]
 | (a,b) :: r=>Ql (if a<=b then (a,b) else (b,a)) (QP r)
section
variable {α:Type} [DecidableEq α] (v:Nat->α)
noncomputable abbrev mp(ps:Pn):Pr α:=ps.map fun p=>(v p.1,v p.2)
theorem wQ{p x:Nat}:∀ {ps r:Pn},CJ p ps=some (x,r)->Sm (mp v ps) (mp v ((x,p) :: r))
 | [],_,h=>by cases h
 | (a,b) :: ps,r,h=>by
  unfold CJ at h;by_cases h1:a=p
  ·rw [if_pos h1] at h;cases h;subst h1;exact Sm.turn _ _ _
  ·rw [if_neg h1] at h;by_cases h2:b=p
   ·rw [if_pos h2] at h;cases h;subst h2;exact .refl _
   ·rw [if_neg h2] at h;split at h
    ·rename_i x' r' e;cases h;exact((wQ e).cons _).trans (.perm (.swap _ _ _))
    ·cases h
theorem As(p:Nat×Nat):∀ ps:Pn,(Ql p ps).Perm (p :: ps)
 | []=>.refl _
 | a :: r=>by
  unfold Ql;split
  ·exact .refl _
  ·exact((As p r).cons a).trans (.swap _ _ _)
theorem Jh:∀ ps:Pn,Sm (mp v ps) (mp v (QP ps))
 | []=>.refl _
 | (a,b) :: r=>by
  unfold QP;refine Sm.trans ?_ (.perm ((As _ _).symm.map _));refine((Jh r).cons (v a,v b)).trans ?_;split
  ·exact .refl _
  ·exact .turn _ _ _
noncomputable def SA(f:α->α):Pn->α->α
 | []=>f
 | (p,q) :: T=>SA (jn f (v p) (v q)) T
structure Th(f:α->α)(T:Pn):Prop where
 iv:Iv f
 nd:(es (mp v T)).Nodup
 th:∀ t∈T,f (v t.1)=v t.2
variable {v}
theorem Ng{f:α->α}(h:Iv f){p q e:α}(t:f p=q)(h1:e≠p)(h2:e≠q):jn f p q e=f e:=by
 have:=h p;have:=h e;unfold jn
 grind
theorem Th.tl{f:α->α}{p q:Nat}{T:Pn}(h:Th v f ((p,q) :: T)):Th v (jn f (v p) (v q)) T:=by
 have n:=h.nd;have t0:=h.th (p,q) (by simp);have e1:v p≠v q:=by
  show (v p)≠(v q);have n':(v p :: v q :: es (mp v T)).Nodup:=n;rw [aN] at n';exact fun z=>n'.1 (by rw [z]; exact cc)
 have n':(v p :: v q :: es (mp v T)).Nodup:=n;rw [aN,aN] at n';have fq:f (v q)=v p:=by rw [<-t0]; exact h.iv _
 refine⟨Ry h.iv (by rw [t0]; exact e1.symm) (by rw [fq]; exact e1) e1,n'.2.2,fun t ht=>?_⟩;have m1:v t.1∈es (mp v T):=kA.mpr ⟨_,List.mem_map.mpr ⟨t,ht,rfl⟩,.inl rfl⟩;rw [Ng h.iv t0]
 ·exact h.th t (aK _ ht)
 ·exact fun z=>n'.1 (by rw [<-z]; exact aK _ m1)
 ·exact fun z=>n'.2.1 (by rw [<-z]; exact m1)
theorem L1{f:α->α}{p q k:Nat}{T ps qs:Pn}(h:Th v f ((p,q) :: T))(o:Ok f (mp v ps))(e:L3 p q ps=some (k,qs)) :
  Ok (jn f (v p) (v q)) (mp v qs)/\gT f (mp v ps)=gT (jn f (v p) (v q)) (mp v qs)/\cls f (mp v ps)=k+cls (jn f (v p) (v q)) (mp v qs):=by
 have t0:=h.th (p,q) (by simp);unfold L3 at e;split at e
 ·cases e
 ·rename_i x r e1;have s1:=wQ v e1;have o1:=o.es s1.es;obtain⟨a1,a2⟩:=s1.eq f o;split at e
  ·rename_i z;cases e;subst z;have s2:=Sm.turn (v x) (v p) (mp v qs);have o2:Ok f ((v p,v x) :: mp v qs):=o1.es s2.es;obtain⟨b1,b2⟩:=s2.eq f o1;refine⟨o2.tl,a1.trans b1,?_⟩;rw [a2];exact b2.trans (Nd t0)
  ·split at e
   ·cases e
   ·rename_i z y r2 e2;cases e;have s2:Sm (mp v ((x,p) :: r)) ((v x,v p) :: (v q,v y) :: mp v r2):=((wQ v e2).trans (.turn _ _ _)).cons _;have o2:=o1.es s2.es;obtain⟨b1,b2⟩:=s2.eq f o1;obtain⟨c1,c2⟩:=Kf o2 t0;refine⟨?_,a1.trans (b1.trans c1),by rw [a2,b2,c2,Cf]; rfl⟩;have n:=o2.nd;have iv:=h.tl.iv;have e1':v p≠v q:=by
     have n':(v p :: v q :: es (mp v T)).Nodup:=h.nd;rw [aN] at n';exact fun z=>n'.1 (by rw [z]; exact cc)
    simp only [es,aN,aY,not_or] at n;have m:∀ {e:α},e∈es (mp v ((x,y) :: r2))->e∈es ((v x,v p) :: (v q,v y) :: mp v r2)/\e≠v p/\e≠v q:=by
     intro e he;have Y0:e=v x\/e=v y\/e∈es (mp v r2):=by simpa [es] using he
     refine⟨by simp only [es,aY]; rcases Y0 with z | z | z <;> simp [z],?_,?_⟩
     ·rintro rfl;rcases Y0 with z | z | z
      ·exact n.1.1 z.symm
      ·exact n.2.1.2.1 z
      ·exact n.2.1.2.2 z
     ·rintro rfl;rcases Y0 with z | z | z
      ·exact n.1.2.1 z.symm
      ·exact n.2.2.1.1 z
      ·exact n.2.2.1.2 z
    refine⟨iv,?_,fun e he=>?_⟩
    ·show (v x :: v y :: es (mp v r2)).Nodup;simp only [aN,aY,not_or];exact⟨⟨n.1.2.2.1,n.1.2.2.2⟩,n.2.2.2.1,n.2.2.2.2⟩
    ·obtain⟨m1,m2,m3⟩:=m he;rw [Ng h.iv t0 m2 m3];exact o2.dm e m1
theorem NN:∀ {T:Pn} {f:α->α} {ps qs:Pn} {k:Nat},Th v f T->Ok f (mp v ps)->WM T ps=some (k,qs) ->
  Ok (SA v f T) (mp v qs)/\gT f (mp v ps)=gT (SA v f T) (mp v qs)/\cls f (mp v ps)=k+cls (SA v f T) (mp v qs)
 | [],f,ps,qs,k,h,o,e=>by
  cases e;exact⟨o,rfl,by rw [Cf]; rfl⟩
 | (p,q) :: T,f,ps,qs,k,h,o,e=>by
  unfold WM at e;split at e
  ·cases e
  ·rename_i k1 ZW e1;split at e
   ·cases e
   ·rename_i k2 qs' e2;cases e;obtain⟨o1,a1,a2⟩:=L1 h o e1;obtain⟨o2,b1,b2⟩:=NN h.tl o1 e2;exact⟨o2,a1.trans b1,by rw [a2,b2,jg]; rfl⟩
noncomputable def X2(T ps:Pn):Option (Nat×Pn):=(WM T ps).map fun r=>(r.1,QP r.2)
theorem S4{T:Pn}{f:α->α}{ps qs:Pn}{k:Nat}(h:Th v f T)(o:Ok f (mp v ps))(e:X2 T ps=some (k,qs)) :
  gT f (mp v ps)=gT (SA v f T) (mp v qs)/\cls f (mp v ps)=k+cls (SA v f T) (mp v qs):=by
 unfold X2 at e;obtain⟨r,e1,e2⟩:=Option.map_eq_some_iff.mp e;cases e2;obtain⟨o1,a1,a2⟩:=NN h o (k:=r.1) (qs:=r.2) e1;obtain⟨b1,b2⟩:=(Jh v r.2).eq _ o1;exact⟨a1.trans b1,by rw [a2,b2]⟩
end
end J
end K2
end
section
set_option maxHeartbeats 1000000
namespace K2
namespace J
section
variable {κ:Type} [DecidableEq κ]
noncomputable def fsum(W:κ->Int):List (κ×Int)->Int
 | []=>0
 | p :: S=>p.2 * W p.1+fsum W S
noncomputable def tV(k:κ):List (κ×Int)->Int
 | []=>0
 | p :: S=>(if p.1=k then p.2 else 0)+tV k S
theorem yd(W:κ->Int)(S S':List (κ×Int)):fsum W (S++S')=fsum W S+fsum W S':=by
 induction S with
 | nil=>simp [fsum]
 | cons p S ih=>rw [az,fsum,fsum,ih]; lia
theorem QL(k:κ)(S S':List (κ×Int)):tV k (S++S')=tV k S+tV k S':=by
 induction S with
 | nil=>simp [tV]
 | cons p S ih=>rw [az,tV,tV,ih]; lia
noncomputable def vP(c:Int)(S:List (κ×Int)):List (κ×Int):=S.map fun p=>(p.1,c * p.2)
theorem yc(W:κ->Int)(c:Int)(S:List (κ×Int)):fsum W (vP c S)=c * fsum W S:=by
 induction S with
 | nil=>simp [vP,fsum]
 | cons p S ih =>
  have:vP c (p :: S)=(p.1,c * p.2) :: vP c S:=rfl;rw [this,fsum,fsum,ih,rB,LD]
theorem QK(k:κ)(c:Int)(S:List (κ×Int)):tV k (vP c S)=c * tV k S:=by
 induction S with
 | nil=>simp [vP,tV]
 | cons p S ih =>
  have:vP c (p :: S)=(p.1,c * p.2) :: vP c S:=rfl;rw [this,tV,tV,ih,rB];congr 1;split <;> simp
theorem Gn(W:κ->Int)(k:κ)(S:List (κ×Int)):fsum W S=tV k S * W k+fsum W (S.filter fun p=>decide (p.1≠k)):=by
 induction S with
 | nil=>simp [fsum,tV]
 | cons p S ih =>
  rw [fsum,tV,ih,bF];by_cases h:p.1=k
  ·simp only [h,ne_eq,not_true_eq_false,decide_false,ar,if_false,if_true,Int.add_mul];lia
  ·simp only [h,ne_eq,not_false_eq_true,decide_true,if_true,if_false,uw];rw [fsum]; lia
theorem GW(k j:κ)(S:List (κ×Int)):tV j (S.filter fun p=>decide (p.1≠k))=if j=k then 0 else tV j S:=by
 induction S with
 | nil=>simp [tV]
 | cons p S ih =>
  rw [bF];by_cases h:p.1=k
  ·simp only [h,ne_eq,not_true_eq_false,decide_false,ar,if_false];have:(S.filter fun p=>!decide (p.1=k))=S.filter fun p=>decide (p.1≠k):=by simp
   rw [tV];by_cases hj:j=k
   ·simp [hj] at ih ⊢; exact ih
   ·have:¬ p.1=j:=fun z=>hj (z.symm.trans h);simp [hj,this] at ih ⊢; exact ih
  ·simp only [h,ne_eq,not_false_eq_true,decide_true,if_true];rw [tV,tV];simp only [ne_eq] at ih;rw [ih];by_cases hj:j=k
   ·have:¬ p.1=j:=fun z=>h (z.trans hj);simp [hj,h]
   ·simp [hj]
theorem AA(W:κ->Int):∀ (n:Nat) (S:List (κ×Int)),S.length<=n->(∀ k,tV k S=0)->fsum W S=0
 | _,[],_,_=>rfl
 | 0,_ :: _,h,_=>by simp at h
 | n+1,p :: S,hl,h=>by
  rw [Gn W p.1,h,Int.zero_mul,uw];refine AA W n _ ?_ fun k=>?_
  ·rw [qU (by simp)];exact aZ (dw _ _) (by simpa using hl)
  ·rw [GW]; split
   ·rfl
   ·exact h k
theorem yC{k:κ}:∀ {S:List (κ×Int)},k∉S.map (·.1)->tV k S=0
 | [],_=>rfl
 | p :: S,h=>by
  rw [ak,aY,not_or] at h;rw [tV,if_neg (fun z=>h.1 z.symm),yC h.2]; rfl
noncomputable def Zf(S S':List (κ×Int)):Bool:=(S++S').all fun p=>decide (tV p.1 S=tV p.1 S')
theorem TF(W:κ->Int){S S':List (κ×Int)}(h:Zf S S'=true):fsum W S=fsum W S':=by
 have z:∀ k,tV k (S++vP (-1) S')=0:=fun k=>by
  rw [QL,QK];by_cases hk:k∈(S++S').map (·.1)
  ·obtain⟨p,hp,rfl⟩:=List.mem_map.mp hk;have:=List.all_eq_true.mp h p hp;have e:tV p.1 S=tV p.1 S':=by simpa using this
   rw [e]; lia
  ·rw [bw,List.mem_append,not_or] at hk;rw [yC hk.1,yC hk.2]; rfl
 have:=AA W _ _ (aE _) z;rw [yd,yc] at this;lia
end
noncomputable abbrev Ky:=Pn×Int
noncomputable def VY:Nat->Int->List (Int×Int)
 | 0,b=>[(b,1)]
 | k+1,b=>(VY k (b+2)).map (fun p=>(p.1,-1 * p.2))++(VY k (b - 2)).map fun p=>(p.1,-1 * p.2)
noncomputable def Sk(jN:Nat->Bool->Pn):List (Nat×Int)->List (Pn×Int)
 | []=>[([],0)]
 | p :: r=>((Sk jN r).map fun q=>(jN p.1 false++q.1,q.2+p.2))++(Sk jN r).map fun q=>(jN p.1 true++q.1,q.2+-p.2)
noncomputable def U3(T:Pn)(s:Pn×Int):Option (List (Ky×Int)):=(X2 T s.1).map fun r=>(VY r.1 s.2).map fun x=>((r.2,x.1),x.2)
noncomputable def Ha(T:Pn):List (Pn×Int)->Option (List (Ky×Int))
 | []=>some []
 | s :: r=>match U3 T s,Ha T r with
  | some a,some b=>some (a++b)
  | _,_=>none
section
variable (v:Nat->T3) (F:T3->T3) (ns:List (Int×Int)) (g:Fn)
noncomputable def Wk(k:Ky):Int:=Br (gT F (mp v k.1)) ns (gK (cls F (mp v k.1)) (sh k.2 g))
theorem GD(q:Pn):∀ (k:Nat) (b:Int),fsum (Wk v F ns g) ((VY k b).map fun x=>((q,x.1),x.2))=Br (gT F (mp v q)) ns (gK (k+cls F (mp v q)) (sh b g))
 | 0,b=>by
  rw [Cf];show 1 * Wk v F ns g (q,b)+0=_;rw [Fc,hB]; rfl
 | k+1,b=>by
  have neg:∀ l:List (Int×Int),fsum (Wk v F ns g) ((l.map fun p=>(p.1,-1 * p.2)).map fun x=>((q,x.1),x.2))=-1 * fsum (Wk v F ns g) (l.map fun x=>((q,x.1),x.2)):=fun l=>by
   rw [<-yc,vP,bt,bt]; rfl
  rw [VY,bw,yd,neg,neg,GD q k,GD q k,Nat.succ_add,gK];have e:lp (gK (k+cls F (mp v q)) (sh b g))=pl (sc (-1) (gK (k+cls F (mp v q)) (sh (b+2) g))) (sc (-1) (gK (k+cls F (mp v q)) (sh (b - 2) g))):=by
   rw [jz,jz,jz];funext i;show -(gK _ g (i+2+b)) - gK _ g (i - 2+b)=-1 * (gK _ g (i+(b+2)))+-1 * gK _ g (i+(b - 2));rw [show i+2+b=i+(b+2) by lia,show i - 2+b=i+(b - 2) by lia];lia
  rw [e,Jq,AW,AW]
end
section
variable {v:Nat->T3} {jN:Nat->Bool->Pn} {nm:Nat->Int}
noncomputable def vS(v:Nat->T3)(f:T3->T3)(ns:List (Int×Int))(g:Fn):List (Pn×Int)->Int
 | []=>0
 | s :: r=>Br (gT f (mp v s.1)) ns (gK (cls f (mp v s.1)) (sh s.2 g))+vS v f ns g r
theorem R8(f:T3->T3)(ns:List (Int×Int))(g:Fn)(a b:List (Pn×Int)):vS v f ns g (a++b)=vS v f ns g a+vS v f ns g b:=by
 induction a with
 | nil=>simp [vS]
 | cons s a ih=>rw [az,vS,vS,ih]; lia
theorem Fu(hj:∀ i w,mp v (jN i w)=js (nm i) w):∀ (as:List (Nat×Int)) (f:T3->T3) (ns:List (Int×Int)) (g:Fn),Br f ((as.map fun p=>(nm p.1,p.2))++ns) g=vS v f ns g (Sk jN as)
 | [],f,ns,g=>by
  show Br f ns g=Br f ns (sh 0 g)+0;rw [HN,hB]
 | p :: r,f,ns,g=>by
  have one:∀ (w:Bool) (b:Int) (l:List (Pn×Int)),vS v (gT f (js (nm p.1) w)) ns (gK (cls f (js (nm p.1) w)) (sh b g)) l=vS v f ns g (l.map fun q=>(jN p.1 w++q.1,q.2+b)):=fun w b l=>by
   induction l with
   | nil=>rfl
   | cons s l ih =>
    rw [ak,vS,vS,ih];congr 1;show _=Br (gT f ((jN p.1 w++s.1).map fun p=>(v p.1,v p.2))) ns (gK (cls f ((jN p.1 w++s.1).map fun p=>(v p.1,v p.2))) (sh (s.2+b) g));rw [bw];have e:=hj p.1 w;unfold mp at e;rw [e,nT,nX];congr 1;have z:∀ (m n:Nat) (x y:Int),gK m (sh x (gK n (sh y g)))=sh (x+y) (gK (m+n) g):=fun m n x y=>by rw [jz,jz,jz,HP,Bq]
    rw [z,jz,Nat.add_comm]
  rw [ak,az,Br,Sk,R8,Fu hj r,Fu hj r,one,one]
theorem B6{T:Pn}{f:T3->T3}(ns:List (Int×Int))(g:Fn)(h:Th v f T):∀ {ss:List (Pn×Int)} {S:List (Ky×Int)},(∀ s∈ss,Ok f (mp v s.1))->Ha T ss=some S->vS v f ns g ss=fsum (Wk v (SA v f T) ns g) S
 | [],S,_,e=>by cases e; rfl
 | s :: ss,S,o,e=>by
  unfold Ha at e;split at e
  ·rename_i a b e1 e2;cases e;rw [vS,yd,B6 ns g h (fun s hs=>o s (aK _ hs)) e2];congr 1;unfold U3 at e1;obtain⟨r,e3,e4⟩:=Option.map_eq_some_iff.mp e1;subst e4;rw [GD];obtain⟨a1,a2⟩:=S4 h (o s (by simp)) (k:=r.1) (qs:=r.2) e3;rw [a1,a2]
  ·cases e
theorem Fs{T:Pn}{f:T3->T3}(ns:List (Int×Int))(g:Fn)(h:Th v f T){as bs:List (Pn×Int)}{c:Int}(oa:∀ s∈as,Ok f (mp v s.1))(ob:∀ s∈bs,Ok f (mp v s.1))
  (e:(match Ha T as,Ha T bs with
   | some S,some S'=>Zf S (vP c S')
   | _,_=>false)=true):vS v f ns g as=c * vS v f ns g bs:=by
 split at e
 ·rename_i S S' e1 e2;rw [B6 ns g h oa e1,B6 ns g h ob e2,TF _ e,yc]
 ·cases e
end
end J
end K2
end
section
set_option maxHeartbeats 1000000
namespace K2
namespace J
noncomputable def vv(nm:Nat->Int)(i:Nat):T3:=⟨nm (i / 4),((i / 2 % 2:Nat):Int),((i % 2:Nat):Int)⟩
noncomputable def jN(i:Nat)(w:Bool):Pn:=if w=false then [(4 * i,4 * i+3),(4 * i+2,4 * i+1)] else [(4 * i,4 * i+2),(4 * i+1,4 * i+3)]
theorem UK(nm:Nat->Int)(i:Nat):vv nm (4 * i)=⟨nm i,0,0⟩/\vv nm (4 * i+1)=⟨nm i,0,1⟩/\vv nm (4 * i+2)=⟨nm i,1,0⟩/\vv nm (4 * i+3)=⟨nm i,1,1⟩:=by
 have q:∀ (k:Nat),k < 4->(4 * i+k) / 4=i/\(4 * i+k) / 2 % 2=k / 2/\(4 * i+k) % 2=k % 2:=fun k hk=>by lia
 obtain⟨a0,a1,a2⟩:=q 0 (by lia);obtain⟨b0,b1,b2⟩:=q 1 (by lia);obtain⟨c0,c1,c2⟩:=q 2 (by lia);obtain⟨d0,d1,d2⟩:=q 3 (by lia);unfold vv;rw [oN] at a0 a1 a2;rw [a0,a1,a2,b0,b1,b2,c0,c1,c2,d0,d1,d2];exact⟨rfl,rfl,rfl,rfl⟩
theorem Vq(nm:Nat->Int)(i:Nat)(w:Bool):mp (vv nm) (jN i w)=js (nm i) w:=by
 obtain⟨a,b,c,d⟩:=UK nm i;cases w
 ·show [(vv nm (4 * i),vv nm (4 * i+3)),(vv nm (4 * i+2),vv nm (4 * i+1))]=_;rw [a,b,c,d]; rfl
 ·show [(vv nm (4 * i),vv nm (4 * i+2)),(vv nm (4 * i+1),vv nm (4 * i+3))]=_;rw [a,b,c,d]; rfl
noncomputable def okN(m:Nat)(ps:Pn):Bool:=decide (es ps).Nodup&&(es ps).all fun i=>decide (i < 4 * m)
theorem GF{α β:Type}(v:α->β):∀ ps:Pr α,es (ps.map fun p=>(v p.1,v p.2))=(es ps).map v
 | []=>rfl
 | p :: ps=>by rw [ak,es,es,GF v ps,ak,ak]
structure Tg(v:Nat->T3)(f:T3->T3)(m:Nat):Prop where
 iv:Iv f
 inj:∀ i j,i < 4 * m->j < 4 * m->v i=v j->i=j
 dm:∀ i,i < 4 * m->f (v i)≠v i
theorem qr{α β:Type}{v:α->β}:∀ {l:List α},l.Nodup->(∀ i∈l,∀ j∈l,v i=v j->i=j)->(l.map v).Nodup
 | [],_,_=>cF
 | a :: l,h,hi=>by
  rw [aN] at h;rw [ak,aN];refine⟨fun z=>?_,qr h.2 fun i NF j hj=>hi i (aK _ NF) j (aK _ hj)⟩;obtain⟨b,hb,e⟩:=List.mem_map.mp z;have:=hi a (by simp) b (aK _ hb) e.symm;exact h.1 (this ▸ hb)
theorem Ip{m:Nat}{ps:Pn}(h:okN m ps=true):(es ps).Nodup/\∀ i∈es ps,i < 4 * m:=by
 unfold okN at h;rw [aI] at h;exact⟨of_decide_eq_true h.1,fun i hi=>of_decide_eq_true (List.all_eq_true.mp h.2 i hi)⟩
theorem Tg.nd{v:Nat->T3}{f:T3->T3}{m:Nat}(t:Tg v f m){ps:Pn}(h:okN m ps=true):(es (mp v ps)).Nodup:=by
 obtain⟨h1,h2⟩:=Ip h;unfold mp;rw [GF];exact qr h1 fun i hi j hj=>t.inj i j (h2 i hi) (h2 j hj)
theorem Tg.ok{v:Nat->T3}{f:T3->T3}{m:Nat}(t:Tg v f m){ps:Pn}(h:okN m ps=true):Ok f (mp v ps):=by
 refine⟨t.iv,t.nd h,fun e he=>?_⟩;unfold mp at he;rw [GF] at he;obtain⟨i,hi,rfl⟩:=List.mem_map.mp he;exact t.dm i ((Ip h).2 i hi)
theorem Tg.th{v:Nat->T3}{f:T3->T3}{m:Nat}(t:Tg v f m){T:Pn}(h:okN m T=true)(ht:∀ p∈T,f (v p.1)=v p.2):Th v f T:=⟨t.iv,t.nd h,ht⟩
noncomputable def chk(m:Nat)(T:Pn)(as bs:List (Pn×Int))(c:Int):Bool:=okN m T&&(as.all fun s=>okN m s.1)&&(bs.all fun s=>okN m s.1)&&(match Ha T as,Ha T bs with
   | some S,some S'=>Zf S (vP c S')
   | _,_=>false)
theorem LV{v:Nat->T3}{f:T3->T3}{m:Nat}{T:Pn}{as bs:List (Pn×Int)}{c:Int}(t:Tg v f m)(h:chk m T as bs c=true)(ht:∀ p∈T,f (v p.1)=v p.2)(ns:List (Int×Int))(g:Fn):vS v f ns g as=c * vS v f ns g bs:=by
 unfold chk at h;rw [aI,aI,aI] at h;obtain⟨⟨⟨h1,h2⟩,h3⟩,h4⟩:=h;exact Fs ns g (t.th h1 ht) (fun s hs=>t.ok (List.all_eq_true.mp h2 s hs)) (fun s hs=>t.ok (List.all_eq_true.mp h3 s hs)) h4
theorem R7{nm:Nat->Int}{m:Nat}(h:∀ i j,i < m->j < m->nm i=nm j->i=j):∀ i j,i < 4 * m->j < 4 * m->vv nm i=vv nm j->i=j:=by
 intro i j hi hj e;unfold vv at e;injection e with e1 e2 e3
 have:=h (i / 4) (j / 4) (by lia) (by lia) e1;have e2':i / 2 % 2=j / 2 % 2:=by exact_mod_cast e2
 have e3':i % 2=j % 2:=by exact_mod_cast e3
 lia
theorem Pd{nm:Nat->Int}(i:Nat):vv nm i∈jL (nm (i / 4)):=by
 have h1:i / 2 % 2=0\/i / 2 % 2=1:=by lia
 have h2:i % 2=0\/i % 2=1:=by lia
 unfold vv jL;rcases h1 with h1 | h1 <;> rcases h2 with h2 | h2 <;> rw [h1,h2] <;> simp
noncomputable def Rn(l:List Int)(i:Nat):Int:=(l[i]?).getD 0
theorem FQ{l:List Int}{i:Nat}(h:i < l.length):Rn l i=l[i]:=by unfold Rn; rw [au h]; rfl
theorem Dm.tg{f:T3->T3}{l:List Int}(d:Dm f l):Tg (vv (Rn l)) f l.length:=by
 refine⟨d.iv,R7 fun i j hi hj e=>?_,fun i hi=>?_⟩
 ·rw [FQ hi,FQ hj] at e;exact(List.getElem_inj d.nd).mp e
 ·have NF:i / 4 < l.length:=by lia
  refine d.dm (Rn l (i / 4)) ?_ _ (Pd i);rw [FQ NF];exact fj NF
noncomputable def EX(n w:Int):T3×T3:=(⟨n,w,0⟩,⟨n,w,1⟩)
theorem QH{f:T3->T3}{n h w:Int}{ns:List (Int×Int)}(d:Dm f [n])(hh:h=1\/h=-1)(hw:w=0\/w=1)(ht:f ⟨n,w,1⟩=⟨n,1 - w,0⟩)(g:Fn) :
  Br f ((n,h) :: ns) g=-Br (gT f [EX n w,EX n (1 - w)]) ns (gK (cls f [EX n w,EX n (1 - w)]) (sh (3 * h) g)):=by
 have t:Tg (vv (Rn [n])) f 1:=d.tg;have e0:=Fu (v:=vv (Rn [n])) (jN:=jN) (nm:=Rn [n]) (Vq _) [(0,h)] f ns g;have e1:Br f ((n,h) :: ns) g=vS (vv (Rn [n])) f ns g (Sk jN [(0,h)]):=e0;rw [e1];rcases hw with rfl | rfl
 ·have:=LV (T:=[(1,2)]) (as:=Sk jN [(0,h)]) (bs:=[([(0,1),(2,3)],3 * h)]) (c:=-1) t (by rcases hh with rfl | rfl <;> decide +kernel) (by intro p hp; rw [cC] at hp; subst hp; exact ht) ns g;rw [this];show -1 * (Br (gT f [EX n 0,EX n 1]) ns (gK (cls f [EX n 0,EX n 1]) (sh (3 * h) g))+0)=_;rw [hB,Int.neg_mul,Fc]; rfl
 ·have:=LV (T:=[(3,0)]) (as:=Sk jN [(0,h)]) (bs:=[([(2,3),(0,1)],3 * h)]) (c:=-1) t (by rcases hh with rfl | rfl <;> decide +kernel) (by intro p hp; rw [cC] at hp; subst hp; exact ht) ns g;rw [this];show -1 * (Br (gT f [EX n 1,EX n 0]) ns (gK (cls f [EX n 1,EX n 0]) (sh (3 * h) g))+0)=_;rw [hB,Int.neg_mul,Fc]; rfl
end J
end K2
end
section
namespace K2
open PySem (Str)
open Enc (enc)
theorem pQ{α:Type} [DecidableEq α] [Enc α]{G G1:Gp}{p:Nat}{xs:List α}{Q:DK}(l:gc G G1)(hp:G p=none)(h1:G1 p=some (.lst (xs.map enc)))(q:Q (enc xs) G):EL G1 (.ref p) Q :=
 NO l hp h1 (Jn.same _) q
theorem dQ{α:Type}{f:α->D}{g:y0}{body:gW}{ok:Gp->Prop}{xs:List α}{E:kX}{K:kI}{τ:gZ}{G:Gp}(I:List α->gZ->Gp->Prop)
  (h0:I [] τ G) (cD:∀ pre τ G,I pre τ G->ok G)
  (step:∀ (pre:List α) (x:α) (post:List α) τ G (N:gZ->Gp->Prop),xs=pre++x :: post->I pre τ G->(∀ ux G2,I (pre++[x]) ux G2->N ux G2) ->
   g E (f x) τ G fun nH G1=>body E { K with nx:=N,ct:=N,bk:=K.nx } nH G1)
  (fin:∀ τ G,I xs τ G->K.nx τ G):oz g body ok (xs.map f) E K τ G:=by
 have main:∀ (post pre:List α) τ G,xs=pre++post->I pre τ G->oz g body ok (post.map f) E K τ G:=by
  intro post;induction post with
  | nil =>
   intro pre τ G e h;rw [cN] at e;subst e;exact⟨cD _ _ _ h,fin _ _ h⟩
  | cons d post ih =>
   intro pre τ G e h;refine⟨cD _ _ _ h,?_⟩;exact step pre d post τ G _ e h fun ux G2 h2=>ih (pre++[d]) ux G2 (by rw [e,cf]; rfl) h2
 exact main xs [] τ G rfl h0
theorem lM{α:Type}{f:α->D}{g:y0}{c:Option vJ}{e:gb}{ok:Gp->Prop}{xs:List α}{E:kX}{τ:gZ}{G:Gp}{Q:List D->Gp->Prop}(I:List α->List D->gZ->Gp->Prop)
  (h0:I [] [] τ G) (cD:∀ pre acc τ G,I pre acc τ G->ok G)
  (step:∀ (pre:List α) (x:α) (post:List α) (acc:List D) τ G (N:gZ->List D->Gp->Prop),xs=pre++x :: post->I pre acc τ G->(∀ ux vb G2,I (pre++[x]) vb ux G2->N ux vb G2) ->
   g E (f x) τ G fun nH G1=>match c with
    | none=>e E nH G1 fun x G2=>N nH (acc++[x]) G2
    | some c=>c E nH G1 fun k G2=>if k=true then e E nH G2 fun x G3=>N nH (acc++[x]) G3 else N nH acc G2)
  (fin:∀ acc τ G,I xs acc τ G->Q acc G):iN g c e ok (xs.map f) E τ G [] Q:=by
 have main:∀ (post pre:List α) (acc:List D) τ G,xs=pre++post->I pre acc τ G->iN g c e ok (post.map f) E τ G acc Q:=by
  intro post;induction post with
  | nil =>
   intro pre acc τ G e h;rw [cN] at e;subst e;exact⟨cD _ _ _ _ h,fin _ _ _ h⟩
  | cons d post ih =>
   intro pre acc τ G e' h;refine⟨cD _ _ _ _ h,?_⟩;have:=step pre d post acc τ G (fun ux vb G2=>iN g c e ok (post.map f) E ux G2 vb Q) e' h fun ux vb G2 h2=>ih (pre++[d]) vb ux G2 (by rw [e',cf]; rfl) h2;cases c with
   | none=>exact this
   | some c=>exact this
 exact main xs [] [] τ G rfl h0
theorem i4{α:Type} [DecidableEq α] [Enc α]{xs:List α}{G:Gp}{R:List D->(Gp->Prop)->Gp->Prop}(h:R (xs.map enc) (fun _=>True) G):Qm (enc xs) G R:=h
theorem Lf{n:Nat}(h:n<=1000):n<=SZ:=by unfold SZ; lia
theorem Sh{n:Nat}(h:n<=1000):n < SZ:=by unfold SZ; lia
noncomputable abbrev Rows:=List (List T3)
noncomputable def T3.s(p:T3):T2:=⟨p.a,p.b⟩
structure Dr(rows:Rows):Prop where
 nd:(rows.flatten.map T3.s).Nodup
 way:∀ p∈rows.flatten,p.b=0\/p.b=1
 hand:∀ p∈rows.flatten,p.c=1\/p.c=-1
 FW:∀ p∈rows.flatten,(⟨p.a,1 - p.b,p.c⟩:T3)∈rows.flatten
 D7:rows.flatten.length<=24
 str:rows.length<=3
namespace P
noncomputable def fu:lR:=So (fun rows:Rows=>rows.flatten.length<=1000) fun rows=>rows.flatten
noncomputable def pA:gW :=
 (cH (bM (oJ bq) (aO 1))
 (cH (eQ (ni (aw 0)) (aO 2) (rj (BX Ld wb (aw 1) (ay (aw 2) bq))))
 (cR (dh (aw 1)))))
theorem qe(ds:List D)(G:Gp)(Q:DK)(h:fu ds G Q fun _ _=>False):pA (fun _ _=>False) (ends Q) (bD 3 ds) G:=by
 obtain⟨rows,rfl,hl,q⟩:=h;unfold pA;simp only [ends,bD,ak,br,aj,aF,bg,az,aT,c7,bM,oJ,bq,aO,aq,ao];refine⟨by decide,fun p hp=>?_⟩;refine fX (fun τ G'=>(∃ b,τ=[some (enc rows),some (.ref p),b])/\gc G G'/\G' p=some (.lst (rows.flatten.map enc))) ?_ ?_
 ·intro N hN;simp only [eQ,gq,aw,aa];refine i4 ?_;refine dQ (xs:=rows) (fun pre τ G'=>(∃ b,τ=[some (enc rows),some (.ref p),b])/\gc G G'/\G' p=some (.lst (pre.flatten.map enc))) ⟨⟨_,rfl⟩,.new hp,aH⟩ (fun _ _ _ _=>trivial) ?_ ?_
  ·rintro pre r post τ G' N2 e ⟨⟨b,rfl⟩,l,gp⟩ nj;have hlen:pre.flatten.length+r.length<=rows.flatten.length:=by
    rw [e]; simp only [jJ,fJ,aG]; lia
   simp only [aO,rj,BX,aw,aq,ao,ae,aa,vX,gp,ay,bq,vC,tm (IsL.enc r),true_and];refine⟨Lf (by simp only [aB]; lia),?_⟩;refine nj _ _ ⟨⟨_,rfl⟩,l.put hp,?_⟩;rw [aH]; simp
  ·rintro τ G' ⟨⟨b,rfl⟩,l,gp⟩;exact hN _ _ ⟨⟨_,rfl⟩,l,gp⟩
 ·rintro _ G' ⟨⟨b,rfl⟩,l,gp⟩;simp only [cR,dh,aw,ae,aa];exact pQ l hp gp q
theorem yu(p:T3):(enc p:D)=.tup [.int p.a,.int p.b,.int p.c]:=rfl
theorem TH(p:T2):(enc p:D)=.tup [.int p.a,.int p.b]:=rfl
theorem wg(i:Int):(enc i:D)=.int i:=rfl
theorem Uq{a:D}{r:List D}:u7 (a :: r) 0=some a:=by
 rw [t6 _ (by lia) (by simp)]; rfl
theorem TX{a b:D}{r:List D}:u7 (a :: b :: r) 1=some b:=by
 rw [t6 _ (by lia) (by simp; lia)]; rfl
theorem at2{a b c:D}{r:List D}:u7 (a :: b :: c :: r) 2=some c:=by
 rw [t6 _ (by lia) (by simp; lia)]; rfl
noncomputable def names(rows:Rows):List Int:=Pt ((rows.flatten.filter fun p=>p.b == 0).map (·.a))
noncomputable def ff:lR:=So (fun rows:Rows=>rows.flatten.length < 64) names
noncomputable def vp:gW :=
 (cR (dh (zx t4 (ay (iR 1 [] (ni (bC fu (ay (aw 0) bq))) (aO 0) (some (jj (bG (H0 false) (bG oP (aw 0) (dC (.int 1))) (dC (.int 0))))) (bG oP (aw 0) (dC (.int 0)))) bq))))
theorem vK(ds:List D)(G:Gp)(Q:DK)(h:ff ds G Q fun _ _=>False):vp (fun _ _=>False) (ends Q) (bD 1 ds) G:=by
 obtain⟨rows,rfl,hl,q⟩:=h;unfold vp;simp only [cR,dh,zx,ay,iR,bD,ak,br,aj,aF,az,aT,bq,ends,gq,bC,aw,aa];refine⟨rows,rfl,(show rows.flatten.length<=1000 by lia),i4 ⟨Lf (by rw [aB]; show rows.flatten.length<=1000; lia),?_⟩⟩;refine lM (xs:=rows.flatten) (fun pre acc τ G'=>G=G'/\(∃ a,τ=[a])/\acc=((pre.filter fun p=>p.b == 0).map (·.a)).map enc) ⟨rfl,⟨_,rfl⟩,rfl⟩ (fun _ _ _ _ _=>trivial) ?_ ?_
 ·rintro pre x post acc τ G' N e ⟨rfl,⟨a,rfl⟩,rfl⟩ hN;simp only [aO,yu,ao,bG,aw,aa,dC,kc,Uq,eB,TX];refine⟨_,_,.int _,.int _,?_⟩;simp only [ar,kD,if_false,cP];split
  ·rename_i h;refine hN _ _ _ ⟨rfl,⟨_,rfl⟩,?_⟩;simp [dI,bF,h,wg]
  ·rename_i h;refine hN _ _ _ ⟨rfl,⟨_,rfl⟩,?_⟩;simp [dI,bF,h]
 ·rintro acc τ G' ⟨rfl,⟨a,rfl⟩,rfl⟩ p hp;refine yE (IsL.ref aH) (by rw [aB]; exact fi (dw _ _) hl) fun p2 oQ=>?_;exact pQ ((gc.new hp).trans (.new oQ)) ((gc.new hp).free oQ) aH q
noncomputable def handOf(rows:Rows)(n:Int):Int:=((rows.flatten.find? fun p=>p.a == n).map (·.c)).getD 0
noncomputable def fW:lR:=Xm (fun (rows:Rows) (n:Int)=>rows.flatten.length<=1000/\∃ p∈rows.flatten,p.a=n) handOf
noncomputable def xa:gW :=
 (cH (eQ (ni (bC fu (ay (aw 0) bq))) (aO 2) (ja (jj (bG (H0 false) (bG oP (aw 2) (dC (.int 0))) (aw 1))) (cR (dh (bG oP (aw 2) (dC (.int 2))))) fA))
 Og)
theorem yM(ds:List D)(G:Gp)(Q:DK)(h:fW ds G Q fun _ _=>False):xa (fun _ _=>False) (ends Q) (bD 3 ds) G:=by
 obtain⟨rows,n,rfl,⟨hl,hn⟩,q⟩:=h;unfold xa;refine fX (fun τ G'=>False) ?_ (fun _ _ h=>h.elim);intro N hN;simp only [eQ,bD,ak,br,aj,aF,bg,az,aT,ends,gq,bC,ay,aw,aa,bq];refine⟨rows,rfl,hl,i4 ?_⟩;refine dQ (xs:=rows.flatten) (fun pre τ G'=>G=G'/\(∃ a,τ=[some (enc rows),some (enc n),a])/\∀ p∈pre,p.a≠n) ⟨rfl,⟨_,rfl⟩,by simp⟩ (fun _ _ _ _=>trivial) ?_ ?_
 ·rintro pre x post τ G' N2 e ⟨rfl,⟨a,rfl⟩,hp⟩ nj;simp only [aO,ja,wg,yu,aq,ao,cR,dh,bG,aw,ae,aa,dC,kc,at2,fA,eB,Uq];refine⟨_,_,.int _,.int _,?_⟩;simp only [ar,kD,if_false,cP];by_cases hx:x.a=n
  ·simp only [hx,beq_self_eq_true,if_true];refine di ?_;have:handOf rows n=x.c:=by
    unfold handOf;have:rows.flatten.find? (fun p=>p.a == n)=some x:=by
     rw [e,List.find?_append];have:pre.find? (fun p=>p.a == n)=none:=by
      rw [gx]; intro p uj; simpa using hp p uj
     rw [this];simp [hx]
    rw [this]; rfl
   rw [<-this]; exact q
  ·have:(x.a == n)=false:=by simpa using hx
   simp only [this,ar,if_false];refine nj _ _ ⟨rfl,⟨_,rfl⟩,fun p uj=>?_⟩;rcases List.mem_append.mp uj with h | h
   ·exact hp p h
   ·rw [List.mem_singleton.mp h]; exact hx
 ·rintro τ G' ⟨rfl,_,hp⟩;obtain⟨p,YF,oQ⟩:=hn;exact absurd oQ (hp p YF)
noncomputable def sI(row:List T3)(i:Int):List T2:=if row=[] then [⟨i,2⟩] else row.map T3.s
noncomputable def L6:Rows->Nat->List T2
 | [],_=>[]
 | r :: rs,k=>sI r (k:Int)++L6 rs (k+1)
noncomputable def Rb(rows:Rows):List T2:=Pt (L6 rows 0)
theorem Zn{a b c:D}:cut [a,b,c] none (some 2)=[a,b]:=rfl
theorem J3{α:Type} [DecidableEq α] [Enc α](xs:List α)(G:Gp):tu (enc xs) G=some (xs.map enc,fun _=>True):=rfl
theorem J2{a:Nat}{ds:List D}{G:Gp}(h:G a=some (.lst ds)):tu (.ref a) G=some (ds,fun G2=>G2 a=some (.lst ds)):=by unfold tu; simp only [h]
theorem wL{α β:Type} [DecidableEq α] [Enc α] [DecidableEq β] [Enc β]:∀ (xs:List α) (ys:List β),nI (xs.map enc) (ys.map enc)=(xs.zip ys).map fun p=>D.tup [enc p.1,enc p.2]
 | [],ys=>by simp [nI]
 | x :: xs,[]=>by simp [nI]
 | x :: xs,y :: ys=>by simp [nI,wL xs ys]
theorem fK{κ α:Type} [DecidableEq κ] [Enc κ] [sg κ] [DecidableEq α] [Enc α]{a:Nat}{l:List (κ×α)}{k:κ}{v:α}{G:Gp}{Q:Gp->Prop}(h:G a=some (.fZ (bu l)))(hl:l.length<=1000)(q:Q (eL G a (.fZ (bu (ez l k v))))):wW (.ref a) (enc k) (enc v) G Q:=by
 unfold wW;simp only [h];refine⟨lJ l k,?_,by rw [Ib]; exact q⟩;unfold bu; rw [aB]; exact Sh hl
noncomputable def ik(r:List T3):List T3:=r.drop 1++r.take 1
noncomputable def pairsOf(rows:Rows):List (T3×T3):=rows.flatMap fun r=>r.zip (ik r)
noncomputable def lH(ps:List (T3×T3)):List (T2×T2):=ps.foldl (fun l p=>ez l p.1.s p.2.s) []
theorem z0(ps:List (T3×T3)):(lH ps).length<=ps.length:=by
 have:∀ (ps:List (T3×T3)) (l:List (T2×T2)),(ps.foldl (fun l p=>ez l p.1.s p.2.s) l).length<=l.length+ps.length:=by
  intro ps;induction ps with
  | nil=>intro l; simp
  | cons p ps ih =>
   intro l;rw [cM,aj];have h1:=ih (ez l p.1.s p.2.s);have h2:=pZ l p.1.s p.2.s;lia
 simpa [lH] using this ps []
theorem FR(ps:List (T3×T3))(p:T3×T3):lH (ps++[p])=ez (lH ps) p.1.s p.2.s:=by unfold lH; rw [k7]; rfl
noncomputable def lz:lR:=fun ds G Q _=>∃ rows:Rows,ds=[enc rows]/\rows.flatten.length<=500/\Q (.ji (bu (lH (pairsOf rows)))) G
theorem pairs_len(rows:Rows):(pairsOf rows).length<=rows.flatten.length:=by
 unfold pairsOf;induction rows with
 | nil=>simp
 | cons r rs ih=>simp only [eT,fJ,aG,kq]; lia
noncomputable def w8:gW :=
 (cH (bM mM (aO 1))
 (cH (eQ (ni (aw 0)) (aO 2) (eQ (Nw (aw 2) (bG jy (KI (aw 2) (rh (dC (.int 1))) jC) (KI (aw 2) jC (rh (dC (.int 1)))))) (jV (dN (aO 3) (dN (aO 4) jG))) (bM (KI (aw 4) jC (rh (dC (.int 2)))) (kC (aw 1) (KI (aw 3) jC (rh (dC (.int 2))))))))
 (cR (dh (aw 1)))))
theorem yI(ds:List D)(G:Gp)(Q:DK)(h:lz ds G Q fun _ _=>False):w8 (fun _ _=>False) (ends Q) (bD 5 ds) G:=by
 obtain⟨rows,rfl,hl,q⟩:=h;unfold w8;simp only [ends,bD,ak,br,aj,aF,bg,az,aT,c7,bM,mM,gw,aO,aq,ao];intro d hd;refine fX (fun τ G'=>(∃ a b c,τ=[some (enc rows),some (.ref d),a,b,c])/\gc G G'/\G' d=some (.fZ (bu (lH (pairsOf rows))))) ?_ ?_
 ·intro N hN;simp only [eQ,gq,aw,aa];refine i4 ?_;refine dQ (xs:=rows) (fun pre τ G'=>(∃ a b c,τ=[some (enc rows),some (.ref d),a,b,c])/\gc G G'/\G' d=some (.fZ (bu (lH (pairsOf pre))))) ⟨⟨_,_,_,rfl⟩,.new hd,aH⟩ (fun _ _ _ _=>trivial) ?_ ?_
  ·rintro pre r post τ G' N2 e ⟨⟨a,b,c,rfl⟩,l,gd⟩ nj;have hr:pre.flatten.length+r.length<=rows.flatten.length:=by
    rw [e]; simp only [jJ,fJ,aG]; lia
   simp only [aO,eQ,Nw,aw,aq,ao,ae,aa,bG,KI,jC,pX,dC,jR];refine Bb (IsL.enc r) fun p1 h1=>?_;refine Bb (IsL.enc r) fun p2 h2=>?_;have d1:d≠p1:=by rintro rfl; rw [gd] at h1; cases h1
   have l1:=l.trans (gc.new (o:=.lst (cut (r.map enc) (some 1) none)) h1);have d2:d≠p2:=by rintro rfl; rw [dP d1,gd] at h2; cases h2
   have h12:p1≠p2:=by rintro rfl; rw [aH] at h2; cases h2
   refine Bc (IsL.ref (by rw [dP h12,aH])) (IsL.ref aH) ?_ fun p3 h3=>?_
   ·rw [tU,tU,aB,aB];have e1:(cut r (some 1) none).length<=r.length:=by unfold cut; rw [eF,cV]; lia
    have e2:(cut r none (some 1)).length<=r.length:=by unfold cut; rw [eF,cV]; lia
    exact Lf (by lia)
   have d3:d≠p3:=by rintro rfl; rw [dP d2,dP d1,gd] at h3; cases h3
   have et:cut (r.map enc) (some 1) none++cut (r.map enc) none (some 1)=(ik r).map enc:=by
    rw [tU,tU,<-bw];congr 1;cases r with
    | nil=>rfl
    | cons x r=>rw [show (1:Int)=((1:Nat):Int) from rfl,Er _ _ (by simp),Ol _ _ (by simp)]; rfl
   rw [et];generalize Y6:eL (eL (eL G' p1 (.lst (cut (r.map enc) (some 1) none))) p2 (.lst (cut (r.map enc) none (some 1)))) p3 (.lst ((ik r).map enc))=G3;have g3:G3 p3=some (.lst ((ik r).map enc)):=by rw [<-Y6,aH]
   have gd3:G3 d=some (.fZ (bu (lH (pairsOf pre)))):=by rw [<-Y6,dP d3,dP d2,dP d1]; exact gd
   have l3:gc G G3:=by rw [<-Y6]; exact(l1.trans (.new h2)).trans (.new h3)
   unfold rK;rw [J3,J2 g3];dsimp only;rw [wL];refine dQ (xs:=r.zip (ik r)) (fun pp τ G'=>(∃ a b c,τ=[some (enc rows),some (.ref d),a,b,c])/\gc G G'/\G' d=some (.fZ (bu (lH (pairsOf pre++pp))))/\G' p3=some (.lst ((ik r).map enc)))
    ⟨⟨_,_,_,rfl⟩,l3,by rw [cN]; exact gd3,g3⟩ (fun _ _ _ h=>⟨trivial,h.2.2.2⟩) ?_ ?_
   ·rintro pp x post τ G4 N3 e4 ⟨⟨a,b,c,rfl⟩,l4,Y9,Tv⟩ IU;have hz:(pairsOf pre++pp).length<=1000:=by
     have:=pairs_len pre;have h5:pp.length < (r.zip (ik r)).length:=by rw [e4]; simp
     rw [kq] at h5;rw [aG]; lia
    simp only [jV,dN,aO,jG,bM,KI,aw,yu,aq,ao,ae,aa,jC,kC,HU,aj,aF,pX,dC,jR,Zn];refine⟨by decide,by decide,?_⟩;refine fK (k:=x.1.s) (v:=x.2.s) Y9 (aZ (z0 _) hz) ?_;refine IU _ _ ⟨⟨_,_,_,rfl⟩,l4.put hd,?_,by rw [dP (gf d3)]; exact Tv⟩;rw [aH,<-cf,FR]
   ·rintro τ G4 ⟨⟨a,b,c,rfl⟩,l4,Y9,Tv⟩;refine nj _ _ ⟨⟨_,_,_,rfl⟩,l4,?_⟩;have:pairsOf (pre++[r])=pairsOf pre++r.zip (ik r):=by unfold pairsOf; simp
    rw [this]; exact Y9
  ·rintro τ G' ⟨⟨a,b,c,rfl⟩,l,gd⟩;exact hN _ _ ⟨⟨_,_,_,rfl⟩,l,gd⟩
 ·rintro _ G' ⟨⟨a,b,c,rfl⟩,l,gd⟩;simp only [cR,dh,aw,ae,aa];exact gU l hd gd q
noncomputable def X8(s:T2):T3:=⟨s.a,s.b,0⟩
noncomputable def Xp(s:T2):T3:=⟨s.a,s.b,1⟩
noncomputable def Sv(ss:List T2):List T3:=ss.flatMap fun s=>[X8 s,Xp s]
end P
end K2
end
section
set_option maxHeartbeats 1000000
namespace K2
namespace J
noncomputable def pt:Pr T3->T3->T3
 | [],e=>e
 | p :: r,e=>if e=p.1 then p.2 else if e=p.2 then p.1 else pt r e
theorem me{P:Pr T3}{e:T3}(h:e∉es P):pt P e=e:=by
 induction P with
 | nil=>rfl
 | cons p r ih =>
  rw [es,aY,aY,not_or,not_or] at h;rw [pt,if_neg h.1,if_neg h.2.1,ih h.2.2]
theorem i8{P:Pr T3}(nd:(es P).Nodup){p:T3×T3}(h:p∈P):pt P p.1=p.2/\pt P p.2=p.1:=by
 induction P with
 | nil=>cases h
 | cons q r ih =>
  rw [es,aN,aN,aY,not_or] at nd;rcases List.mem_cons.mp h with rfl | h
  ·refine⟨by rw [pt,if_pos rfl],?_⟩;rw [pt,if_neg (fun z=>nd.1.1 z.symm),if_pos rfl]
  ·obtain⟨a,b⟩:=ih nd.2.2 h;have m1:p.1∈es r:=kA.mpr ⟨p,h,.inl rfl⟩;have m2:p.2∈es r:=kA.mpr ⟨p,h,.inr rfl⟩;have ne:∀ e∈es r,e≠q.1/\e≠q.2:=fun e he=>⟨fun z=>nd.1.2 (z ▸ he),fun z=>nd.2.1 (z ▸ he)⟩;exact⟨by rw [pt,if_neg (ne _ m1).1,if_neg (ne _ m1).2,a],by rw [pt,if_neg (ne _ m2).1,if_neg (ne _ m2).2,b]⟩
theorem Mq{P:Pr T3}(nd:(es P).Nodup){f:T3->T3}(h1:∀ p∈P,f p.1=p.2/\f p.2=p.1)(h2:∀ e,e∉es P->f e=e):pt P=f:=by
 funext e;by_cases he:e∈es P
 ·obtain⟨p,hp,z⟩:=kA.mp he;rcases z with rfl | rfl
  ·rw [(i8 nd hp).1,(h1 p hp).1]
  ·rw [(i8 nd hp).2,(h1 p hp).2]
 ·rw [me he,h2 e he]
theorem v5{P P':Pr T3}(h:P.Perm P')(nd:(es P).Nodup):pt P=pt P':=by
 refine Mq nd (fun p hp=>i8 ((j6 h).nodup_iff.mp nd) (h.mem_iff.mp hp)) fun e he=>me fun z=>he ((j6 h).mem_iff.mpr z)
theorem Mr{P:Pr T3}(nd:(es P).Nodup):Iv (pt P):=by
 intro e;by_cases he:e∈es P
 ·obtain⟨p,hp,z⟩:=kA.mp he;rcases z with rfl | rfl
  ·rw [(i8 nd hp).1,(i8 nd hp).2]
  ·rw [(i8 nd hp).2,(i8 nd hp).1]
 ·rw [me he,me he]
theorem Rk{P:Pr T3}(nd:(es P).Nodup){p:T3×T3}(h:p∈P):p.1≠p.2:=by
 induction P with
 | nil=>cases h
 | cons q r ih =>
  rw [es,aN,aN,aY,not_or] at nd;rcases List.mem_cons.mp h with rfl | h
  ·exact nd.1.1
  ·exact ih nd.2.2 h
theorem uD{P:Pr T3}(nd:(es P).Nodup){e:T3}:pt P e≠e↔e∈es P:=by
 refine⟨fun h=>gk fun z=>h (me z),fun he=>?_⟩;obtain⟨p,hp,z⟩:=kA.mp he;rcases z with rfl | rfl
 ·rw [(i8 nd hp).1]; exact(Rk nd hp).symm
 ·rw [(i8 nd hp).2]; exact Rk nd hp
theorem SG{P:Pr T3}(nd:(es P).Nodup)(h:∀ e,pt P e=e):P=[]:=by
 cases P with
 | nil=>rfl
 | cons p r=>exact absurd (h p.1) (uD nd |>.mpr (by simp [es]))
structure Jo(l:List (T3×T3))(f:T3->T3):Prop where
 nd:(l.map (·.1)).Nodup
 at':∀ e,cI l e=if f e=e then none else some (f e)
theorem qb{κ β:Type} [DecidableEq κ]{l:List (κ×β)}{k j:κ}:cI (l.filter fun p=>decide (p.1≠k)) j=if j=k then none else cI l j:=by
 induction l with
 | nil=>simp [cI]
 | cons p r ih =>
  unfold cI at *;rw [bF];by_cases h:p.1=k
  ·rw [if_neg (by simp [h]),ih];by_cases hj:j=k
   ·rw [if_pos hj,if_pos hj]
   ·rw [if_neg hj,if_neg hj,cy (by simp [h]; exact fun z=>hj z.symm)]
  ·rw [if_pos (by simp [h])];by_cases Vz:p.1=j
   ·rw [cx (by simp [Vz]),cx (by simp [Vz]),if_neg (fun z=>h (Vz.trans z))]
   ·rw [cy (by simp [Vz]),cy (by simp [Vz]),ih]
noncomputable def BO(l:List (T3×T3))(k:T3):List (T3×T3):=l.filter fun p=>decide (p.1≠k)
theorem nZ{κ β:Type} [DecidableEq κ]{l:List (κ×β)}{k:κ}{v:β}(h:(l.map (·.1)).Nodup):((ez l k v).map (·.1)).Nodup:=by
 unfold ez;split
 ·rw [bt];have:(l.map ((fun x:κ×β=>x.1)∘fun p=>if p.1=k then (p.1,v) else p))=l.map (·.1):=by
   refine c4 fun p _=>?_;show (if p.1=k then (p.1,v) else p).1=p.1;split <;> rfl
  rw [this]; exact h
 ·rename_i hk;rw [bw,eS];refine⟨h,by simp,fun a ha b hb z=>?_⟩;rw [List.map_singleton,cC] at hb;obtain⟨p,hp,e⟩:=List.mem_map.mp ha;exact hk (List.any_eq_true.mpr ⟨p,hp,by simp; rw [e,z,hb]⟩)
theorem Jo.join{l:List (T3×T3)}{f:T3->T3}(h:Jo l f)(iv:Iv f){x y:T3}(xy:x≠y)(hx:f x≠x)(hy:f y≠y) :
  cI l x=some (f x)/\cI (BO l x) y=some (f y)/\(f x=y->Jo (BO (BO l x) y) (jn f x y))/\(f x≠y->Jo (ez (ez (BO (BO l x) y) (f x) (f y)) (f y) (f x)) (jn f x y)):=by
 have a1:cI l x=some (f x):=by rw [h.at',if_neg hx]
 have a2:cI (BO l x) y=some (f y):=by unfold BO; rw [qb,if_neg (fun z=>xy z.symm),h.at',if_neg hy]
 have WA:((BO (BO l x) y).map (·.1)).Nodup:=lS (ky _ (List.filter_sublist.trans jK)) h.nd;have d2:∀ e,cI (BO (BO l x) y) e=if e=x\/e=y then none else if f e=e then none else some (f e):=fun e=>by
  unfold BO;rw [qb,qb,h.at']
  grind
 have ix:=iv x;have iy:=iv y;refine⟨a1,a2,fun e=>⟨WA,fun z=>?_⟩,fun e=>⟨nZ (nZ WA),fun z=>?_⟩⟩
 ·have iz:=iv z;rw [d2];unfold jn
  grind (splits:=30)
 ·have iz:=iv z;rw [qD,qD,d2];unfold jn
  grind (splits:=30)
end J
end K2
end
section
namespace K2
namespace Y
noncomputable abbrev Po:=List (Int×Int)
noncomputable def ND(l:Po):Prop:=(l.map (·.1)).Nodup
noncomputable def c0(l:Po)(k:Int):Int:=(cI l k).getD 0
noncomputable def fg(l:Po):Po:=l.filter fun p=>p.2 != 0
noncomputable def plus(a:Po)(p:Int×Int):Po:=ez a p.1 (c0 a p.1+p.2)
noncomputable def q0(l m:Po):Po:=m.foldl plus l
noncomputable def vO(l m:Po):Po:=fg (q0 l m)
noncomputable def mU(m:Po)(a:Po)(p:Int×Int):Po:=m.foldl (fun a q=>plus a (p.1+q.1,p.2 * q.2)) a
noncomputable def md(l m:Po):Po:=l.foldl (mU m) []
noncomputable def iL(l m:Po):Po:=fg (md l m)
noncomputable def hX(l:Po)(by_ f:Int):Po:=fg (l.map fun p=>(p.1+by_,p.2 * f))
noncomputable def dB(l:Po):Nat->Po
 | 0=>[(0,1)]
 | n+1=>iL (dB l n) l
theorem kl{κ β:Type} [DecidableEq κ]{l:List (κ×β)}{k:κ}{v:β}(h:k∉l.map (·.1)):ez l k v=l++[(k,v)]:=by
 unfold ez;rw [if_neg];intro q;obtain⟨p,h1,h2⟩:=List.any_eq_true.mp q;exact h (List.mem_map.mpr ⟨p,h1,by simpa using h2⟩)
theorem yF{κ β:Type} [DecidableEq κ]{l:List (κ×β)}{k:κ}{v:β}(h:k∈l.map (·.1)):ez l k v=l.map (fun p=>if p.1=k then (p.1,v) else p):=by
 unfold ez;rw [if_pos];obtain⟨p,h1,h2⟩:=List.mem_map.mp h;exact List.any_eq_true.mpr ⟨p,h1,by simpa using h2⟩
theorem KO{κ β:Type} [DecidableEq κ](l:List (κ×β))(k:κ)(v:β):(ez l k v).map (·.1)=if k∈l.map (·.1) then l.map (·.1) else l.map (·.1)++[k]:=by
 split
 ·rename_i h;rw [yF h,bt];refine c4 fun p _=>?_;show (if p.1=k then (p.1,v) else p).1=p.1;split <;> rfl
 ·rename_i h;rw [kl h,bw]; rfl
theorem ND.put{l:Po}(h:ND l)(k v:Int):ND (ez l k v):=by
 unfold ND;rw [KO];split
 ·exact h
 ·rename_i hk;rw [eS];exact⟨h,by simp,fun a ha b hb=>by rw [cC] at hb; subst hb; intro z; exact hk (z ▸ ha)⟩
theorem ND.nil:ND []:=cF
theorem ND.one(k v:Int):ND [(k,v)]:=by unfold ND; simp
theorem ND.tail{p:Int×Int}{l:Po}(h:ND (p :: l)):ND l:=by unfold ND at *; rw [ak,aN] at h; exact h.2
theorem ND.head{p:Int×Int}{l:Po}(h:ND (p :: l)):p.1∉l.map (·.1):=by unfold ND at *; rw [ak,aN] at h; exact h.1
theorem ND.fg{l:Po}(h:ND l):ND (fg l):=by
 unfold ND Y.fg at *;exact lS (ky _ jK) h
theorem qm{l:Po}(h:ND l)(p:Int×Int):ND (plus l p):=h.put _ _
theorem tO{α:Type}(f:Po->α->Po)(hf:∀ a x,ND a->ND (f a x)):∀ (xs:List α) (a:Po),ND a->ND (xs.foldl f a)
 | [],_,h=>h
 | x :: xs,a,h=>tO f hf xs _ (hf a x h)
theorem Di{l m:Po}(h:ND l):ND (q0 l m):=tO _ (fun a x h=>qm h x) m l h
theorem Bi{m a:Po}(h:ND a)(p:Int×Int):ND (mU m a p):=tO _ (fun a x h=>qm h _) m a h
theorem xm(l m:Po):ND (md l m):=tO _ (fun a x h=>Bi h x) l [] .nil
theorem PX{l m:Po}(h:ND l):ND (vO l m):=(Di h).fg
theorem uC(l m:Po):ND (iL l m):=(xm l m).fg
theorem wV{l:Po}(h:ND l)(b f:Int):ND (l.map fun p=>(p.1+b,p.2 * f)):=by
 unfold ND at *;rw [bt];have:(l.map ((fun x:Int×Int=>x.1)∘fun p=>(p.1+b,p.2 * f)))=(l.map (·.1)).map (· + b):=by rw [bt]; rfl
 rw [this];exact List.Pairwise.map _ (fun a c hac z=>hac (by lia)) h
theorem zW{l:Po}(h:ND l)(b f:Int):ND (hX l b f):=(wV h b f).fg
theorem uE(l:Po):∀ n,ND (dB l n)
 | 0=>.one _ _
 | n+1=>uC _ _
theorem Dg(l:Po)(p:Int×Int):(plus l p).length<=l.length+1:=by unfold plus ez; split <;> simp
theorem qx{α:Type}(f:Po->α->Po)(c:Nat)(hf:∀ a x,(f a x).length<=a.length+c):∀ (xs:List α) (a:Po),(xs.foldl f a).length<=a.length+xs.length * c
 | [],a=>by simp
 | x :: xs,a=>by
  have:=qx f c hf xs (f a x);have:=hf a x;rw [cM,aj,Nat.succ_mul]; lia
theorem zY(l m:Po):(q0 l m).length<=l.length+m.length:=by
 have:=qx plus 1 Dg m l;unfold q0; lia
theorem Df(m a:Po)(p:Int×Int):(mU m a p).length<=a.length+m.length:=by
 have:=qx (fun a q=>plus a (p.1+q.1,p.2 * q.2)) 1 (fun a q=>Dg a _) m a;unfold mU; lia
theorem pH(l m:Po):(md l m).length<=l.length * m.length:=by
 have:=qx (mU m) m.length (fun a p=>Df m a p) l [];simpa [md] using this
theorem qo(l:Po):(fg l).length<=l.length:=dw _ _
theorem xl(l m:Po):(iL l m).length<=l.length * m.length:=aZ (qo _) (pH l m)
theorem rC(l:Po):∀ n,(dB l n).length<=l.length ^ n
 | 0=>by simp [dB]
 | n+1=>aZ (xl _ _) (by rw [O3]; exact jr _ (rC l n))
noncomputable def L(g:Int->Int):Po->Int
 | []=>0
 | p :: l=>p.2 * g p.1+L g l
theorem EK(g:Int->Int):∀ (l m:Po),L g (l++m)=L g l+L g m
 | [],m=>by simp [L]
 | p :: l,m=>by rw [az,L,L,EK g l m]; lia
theorem AS{l:Po}{k:Int}(h:k∉l.map (·.1)):cI l k=none:=by
 unfold cI;have:l.find? (fun p=>decide (p.1=k))=none:=by
  rw [gx];intro p hp z;exact h (List.mem_map.mpr ⟨p,hp,by simpa using z⟩)
 rw [this]; rfl
theorem B3{p:Int×Int}{l:Po}{k:Int}:c0 (p :: l) k=if p.1=k then p.2 else c0 l k:=by
 unfold c0 cI;rw [dO];by_cases h:p.1=k <;> simp [h]
theorem AV(g:Int->Int)(k v:Int):∀ (l:Po),ND l->k∈l.map (·.1)->L g (l.map fun p=>if p.1=k then (p.1,v) else p)=L g l+(v - c0 l k) * g k
 | [],_,h=>by cases h
 | p :: l,hn,h=>by
  rw [ak,B3];by_cases e:p.1=k
  ·rw [if_pos e,if_pos e,L,L];have:l.map (fun p=>if p.1=k then (p.1,v) else p)=l:=by
    conv=>rhs; rw [<-k6 l]
    refine c4 fun q hq=>?_;rw [if_neg]; rfl;intro z; exact hn.head (by rw [e,<-z]; exact bI hq)
   rw [this];show v * g p.1+L g l=_;rw [e,Int.sub_mul]; lia
  ·rw [if_neg e,if_neg e,L,L,AV g k v l hn.tail (by
    rw [ak,aY] at h;rcases h with h | h
    ·exact absurd h.symm e
    ·exact h)]
   lia
theorem Wh(g:Int->Int){l:Po}(hn:ND l)(k v:Int):L g (ez l k v)=L g l+(v - c0 l k) * g k:=by
 by_cases h:k∈l.map (·.1)
 ·rw [yF h]; exact AV g k v l hn h
 ·rw [kl h,EK];have:c0 l k=0:=by unfold c0; rw [AS h]; rfl
  rw [this];simp [L]
theorem OH(g:Int->Int){l:Po}(hn:ND l)(p:Int×Int):L g (plus l p)=L g l+p.2 * g p.1:=by
 unfold plus;rw [Wh g hn];congr 1;rw [show c0 l p.1+p.2 - c0 l p.1=p.2 by lia]
theorem wu(g:Int->Int):∀ (l:Po),L g (fg l)=L g l
 | []=>rfl
 | p :: l=>by
  have ih:=wu g l;unfold fg at *;rw [bF];by_cases h:p.2=0
  ·rw [if_neg (by simp [h]),ih,L,h]; simp
  ·rw [if_pos (by simp [h]),L,L,ih]
theorem OI(g:Int->Int):∀ (m l:Po),ND l->L g (m.foldl plus l)=L g l+L g m
 | [],l,_=>by simp [L]
 | p :: m,l,h=>by
  rw [cM,OI g m _ (qm h p),OH g h,L]; lia
theorem T5(g:Int->Int){l:Po}(h:ND l)(m:Po):L g (vO l m)=L g l+L g m:=by
 unfold vO q0; rw [wu,OI g m l h]
theorem OG(g:Int->Int)(p:Int×Int):∀ (m a:Po),ND a->L g (mU m a p)=L g a+p.2 * L (fun j=>g (p.1+j)) m
 | [],a,_=>by simp [mU,L]
 | q :: m,a,h=>by
  have ih:=OG g p m (plus a (p.1+q.1,p.2 * q.2)) (qm h _);unfold mU at *;rw [cM,ih,OH g h,L,rB];show L g a+p.2 * q.2 * g (p.1+q.1)+_=_;rw [LD]; lia
theorem EI(g:Int->Int)(l m:Po):L g (iL l m)=L (fun i=>L (fun j=>g (i+j)) m) l:=by
 unfold iL md;rw [wu];have:∀ (l a:Po),ND a->L g (l.foldl (mU m) a)=L g a+L (fun i=>L (fun j=>g (i+j)) m) l:=by
  intro l;induction l with
  | nil=>intro a _; simp [L]
  | cons p l ih =>
   intro a h;rw [cM,ih _ (Bi h p),OG g p m a h,L]; lia
 rw [this l [] .nil]; simp [L]
theorem vL(g:Int->Int)(b f:Int):∀ (l:Po),L g (l.map fun p=>(p.1+b,p.2 * f))=f * L (fun i=>g (i+b)) l
 | []=>by simp [L]
 | p :: l=>by
  rw [ak,L,vL g b f l,L,rB];congr 1;show p.2 * f * g (p.1+b)=f * (p.2 * g (p.1+b));rw [Int.mul_comm p.2 f,LD]
theorem EJ(g:Int->Int)(b f:Int)(l:Po):L g (hX l b f)=f * L (fun i=>g (i+b)) l:=by
 unfold hX; rw [wu,vL]
theorem RV(g h:Int->Int):∀ (l:Po),L (fun i=>g i+h i) l=L g l+L h l
 | []=>rfl
 | p :: l=>by rw [L,L,L,RV g h l,rB]; lia
theorem Oy{l:Po}{k:Int}(h:k∉l.map (·.1)):c0 l k=0:=by unfold c0; rw [AS h]; rfl
theorem Jm{l:Po}(hn:ND l)(k:Int):L (fun i=>if i=k then 1 else 0) l=c0 l k:=by
 induction l with
 | nil=>rfl
 | cons p l ih =>
  rw [L,ih hn.tail,B3];by_cases h:p.1=k
  ·have:c0 l k=0:=Oy (h ▸ hn.head);simp [h,this]
  ·simp [h]
noncomputable def NZ(l:Po):Prop:=∀ p∈l,p.2≠0
theorem xC(l:Po):NZ (fg l):=fun p h=>by
 have:=(List.mem_filter.mp h).2;simpa using this
theorem qa{l:Po}(hn:ND l){p:Int×Int}(h:p∈l):cI l p.1=some p.2:=by
 induction l with
 | nil=>cases h
 | cons q l ih =>
  unfold cI;rw [dO];rcases List.mem_cons.mp h with rfl | h
  ·simp
  ·have:q.1≠p.1:=fun z=>hn.head (by rw [z]; exact bI h);simp only [this,decide_false];exact ih hn.tail h
theorem Oz{l:Po}(hn:ND l){p:Int×Int}(h:p∈l):c0 l p.1=p.2:=by unfold c0; rw [qa hn h]; rfl
theorem MT{l:Po}{k:Int}(h:c0 l k≠0):(k,c0 l k)∈l:=by
 unfold c0 at *;unfold cI at *;cases q:l.find? (fun p=>decide (p.1=k)) with
 | none=>rw [q] at h; exact absurd rfl h
 | some p =>
  have h1:=ug q;have h2:=jF q;simp at h1;simp only [sk,qG];rw [<-h1]; exact h2
theorem gP:∀ (xs ys:List Int),xs.Nodup->(∀ x∈xs,x∈ys)->xs.length<=ys.length
 | [],_,_,_=>cE _
 | x :: xs,ys,hn,h=>by
  rw [aN] at hn;have:=gP xs (ys.erase x) hn.2 fun y hy=>(O5 (show y≠x from fun z=>hn.1 (by rw [<-z]; exact hy))).mpr (h y (aK _ hy));have hx:=h x (by simp);rw [Ju hx] at this;have:=LB hx;rw [aj]; lia
theorem sub_len{l m:Po}(hl:ND l)(zl:NZ l)(h:∀ k,c0 l k=c0 m k):l.length<=m.length:=by
 have:=gP (l.map fun p:Int×Int=>p.1) (m.map fun p:Int×Int=>p.1) hl fun k hk=>by
  obtain⟨p,hp,rfl⟩:=List.mem_map.mp hk;have h1:c0 m p.1≠0:=by rw [<-h,Oz hl hp]; exact zl p hp
  exact bI (f:=(·.1)) (MT h1)
 simpa using this
theorem Qx{l m:Po}(hl:ND l)(hm:ND m)(zl:NZ l)(zm:NZ m)(h:∀ k,c0 l k=c0 m k):rT l m=true:=by
 unfold rT;rw [aI];refine⟨?_,List.all_eq_true.mpr fun p hp=>?_⟩
 ·have h1:=sub_len hl zl h;have h2:=sub_len hm zm fun k=>(h k).symm;simpa using Nat.le_antisymm h1 h2
 ·have h1:c0 m p.1=p.2:=by rw [<-h,Oz hl hp]
  have h2:c0 m p.1≠0:=by rw [h1]; exact zl p hp
  have:=qa hm (MT h2);rw [h1] at this;simp only at this;rw [this]; simp
theorem N4{l m:Po}(hl:ND l)(hm:ND m)(zl:NZ l)(zm:NZ m)(h:∀ g,L g l=L g m):rT l m=true :=
 Qx hl hm zl zm fun k=>by rw [<-Jm hl,<-Jm hm,h]
noncomputable def eV:Po->Nat
 | []=>0
 | p :: l=>p.2.natAbs+eV l
theorem xI:∀ (l m:Po),eV (l++m)=eV l+eV m
 | [],m=>by simp [eV]
 | p :: l,m=>by rw [az,eV,eV,xI l m]; lia
theorem wa{l:Po}{p:Int×Int}(h:p∈l):p.2.natAbs<=eV l:=by
 induction l with
 | nil=>cases h
 | cons q l ih =>
  rw [eV];rcases List.mem_cons.mp h with rfl | h
  ·lia
  ·have:=ih h; lia
theorem vA(k v:Int):∀ (l:Po),ND l->k∈l.map (·.1)->eV (l.map fun p=>if p.1=k then (p.1,v) else p)+(c0 l k).natAbs=eV l+v.natAbs
 | [],_,h=>by cases h
 | p :: l,hn,h=>by
  rw [ak,B3];by_cases e:p.1=k
  ·rw [if_pos e,if_pos e,eV,eV];have:l.map (fun p=>if p.1=k then (p.1,v) else p)=l:=by
    conv=>rhs; rw [<-k6 l]
    refine c4 fun q hq=>?_;rw [if_neg]; rfl;intro z; exact hn.head (by rw [e,<-z]; exact bI hq)
   rw [this];show v.natAbs+eV l+_=_;lia
  ·have:=vA k v l hn.tail (by
    rw [ak,aY] at h;rcases h with h | h
    ·exact absurd h.symm e
    ·exact h)
   rw [if_neg e,if_neg e,eV,eV];lia
theorem Dp{l:Po}(hn:ND l)(p:Int×Int):eV (plus l p)<=eV l+p.2.natAbs:=by
 unfold plus;by_cases h:p.1∈l.map (·.1)
 ·rw [yF h];have:=vA p.1 (c0 l p.1+p.2) l hn h;have:=Int.natAbs_add_le (c0 l p.1) p.2;lia
 ·rw [kl h,xI,Oy h];simp [eV]
theorem qp(l:Po):eV (fg l)<=eV l:=by
 induction l with
 | nil=>exact aE _
 | cons p l ih =>
  unfold fg at *;rw [bF];split
  ·rw [eV,eV]; lia
  ·rw [eV]; lia
theorem Dl(p:Int×Int):∀ (m a:Po),ND a->eV (mU m a p)<=eV a+p.2.natAbs * eV m
 | [],a,_=>by simp [mU,eV]
 | q :: m,a,h=>by
  have ih:=Dl p m (plus a (p.1+q.1,p.2 * q.2)) (qm h _);have:=Dp h (p.1+q.1,p.2 * q.2);unfold mU at *;rw [cM,eV,Nat.mul_add];have e:(p.2 * q.2).natAbs=p.2.natAbs * q.2.natAbs:=Int.natAbs_mul _ _;simp only at this;lia
theorem rF(l m:Po):eV (iL l m)<=eV l * eV m:=by
 refine aZ (qp _) ?_;unfold md;have:∀ (l a:Po),ND a->eV (l.foldl (mU m) a)<=eV a+eV l * eV m:=by
  intro l;induction l with
  | nil=>intro a _; simp [eV]
  | cons p l ih =>
   intro a h;rw [cM];have h1:=ih _ (Bi (m:=m) h p);have h2:=Dl p m a h;rw [eV,Nat.add_mul]; lia
 have:=this l [] .nil;simpa [eV] using this
theorem nP(l:Po):∀ n,eV (dB l n)<=eV l ^ n
 | 0=>by simp [dB,eV]
 | n+1=>aZ (rF _ _) (by rw [O3]; exact jr _ (nP l n))
theorem Dq:∀ (m l:Po),ND l->eV (m.foldl plus l)<=eV l+eV m
 | [],l,_=>by simp [eV]
 | p :: m,l,h=>by
  have h1:=Dq m _ (qm h p);have h2:=Dp h p;rw [cM,eV]; lia
theorem MJ{l:Po}(h:ND l)(m:Po):eV (vO l m)<=eV l+eV m:=aZ (qp _) (Dq m l h)
theorem JT(l:Po):∀ n,NZ (dB l n)
 | 0=>fun p h=>by
  simp only [dB,cC] at h;subst h; decide
 | n+1=>xC _
end Y
end K2
end
section
namespace K2
open PySem (Str)
open Enc (enc)
class inductive Cn {α:Type} (ps:List (α×α)):α->α->Prop
 | refl (x:α):Cn ps x x
 | pair {x y:α}:(x,y)∈ps->Cn ps x y
 | symm {x y:α}:Cn ps x y->Cn ps y x
 | trans {x y z:α}:Cn ps x y->Cn ps y z->Cn ps x z
class Ce (α:Type) [DecidableEq α] [Enc α] [bo α] where
 mn:∀ {x:D} {G:Gp} {xs:List α} {Q:DK},itemsOf x G=some (xs.map enc)->xs≠[]->(∀ m∈xs,(∀ y∈xs,Lh m y=true)->Q (enc m) G)->Zo [x] G Q
theorem lL{α:Type} [DecidableEq α] [Enc α] [bo α]:∀ (r:List α) (a:α),r.foldl (fun m x=>if bo.lt x m=true then x else m) a∈a :: r/\∀ y∈a :: r,Lh (r.foldl (fun m x=>if bo.lt x m=true then x else m) a) y=true
 | [],a=>⟨by simp,fun y hy=>by rw [List.mem_singleton.mp hy]; unfold Lh; rw [List.foldl_nil,bo.Gh]; rfl⟩
 | b :: r,a=>by
  rw [cM];by_cases c:bo.lt b a=true
  ·rw [if_pos c];obtain⟨h1,h2⟩:=lL r b;refine⟨aK _ h1,fun y hy=>?_⟩;rcases List.mem_cons.mp hy with rfl | hy
   ·refine Aj _ _ _ (h2 b (by simp)) ?_;unfold Lh;cases q:bo.lt y b with
    | false=>rfl
    | true=>have:=bo.trans _ _ _ q c; rw [bo.Gh] at this; cases this
   ·exact h2 y hy
  ·rw [if_neg c];obtain⟨h1,h2⟩:=lL r a;refine⟨?_,fun y hy=>?_⟩
   ·rcases List.mem_cons.mp h1 with h | h
    ·rw [h]; simp
    ·exact aK _ (aK _ h)
   ·rcases List.mem_cons.mp hy with rfl | hy
    ·exact h2 y (by simp)
    ·rcases List.mem_cons.mp hy with rfl | hy
     ·refine Aj _ _ _ (h2 a (by simp)) ?_;unfold Lh; simpa using c
     ·exact h2 y (aK _ hy)
noncomputable instance:Ce Int where
 mn:=by
  intro x G xs Q hi Gk k;cases xs with
  | nil=>exact absurd rfl Gk
  | cons a r =>
   obtain⟨h1,h2⟩:=lL r a;refine .inl ⟨a :: r,_,hi,rfl,?_⟩;have:(fun (m x:Int)=>if x < m then x else m)=fun m x=>if bo.lt x m=true then x else m:=by
    funext m x;show (if x < m then x else m)=if decide (x < m)=true then x else m
    simp
   show Q (enc (r.foldl (fun m x=>if x < m then x else m) a)) G;rw [this];exact k _ h1 h2
theorem rG:∀ (x y:List Int),rH (fun a b=>decide (a < b)) x y=lexLt x y
 | [],[]=>rfl
 | [],_ :: _=>rfl
 | _ :: _,[]=>rfl
 | a :: x,b :: y=>by simp only [uK,lexLt,rG x y]
noncomputable instance:Ce T3 where
 mn:=by
  intro x G xs Q hi Gk k;cases xs with
  | nil=>exact absurd rfl Gk
  | cons a r =>
   obtain⟨h1,h2⟩:=lL r a;have ei:itemsOf x G=some (((a :: r).map T3.l).map tI):=by rw [hi,bt]; rfl
   refine .inr ⟨(a :: r).map T3.l,_,ei,rfl,?_⟩;have:∀ (r:List T3) (a:T3),(r.map T3.l).foldl (fun m x=>if lexLt x m=true then x else m) a.l=(r.foldl (fun m x=>if bo.lt x m=true then x else m) a).l:=by
    intro r;induction r with
    | nil=>intro a; rfl
    | cons b r ih =>
     intro a;rw [ak,cM,cM];have e:(if lexLt b.l a.l=true then b.l else a.l)=(if bo.lt b a=true then b else a).l:=by
      have:bo.lt b a=lexLt b.l a.l:=rG _ _;rw [this];split <;> rfl
     rw [e]; exact ih _
   rw [this r a];exact k _ h1 h2
namespace P
section
variable {α:Type} [DecidableEq α] [Enc α] [bo α] [sg α] [Ce α]
structure GI(ms:List α)(ps:List (α×α))(l:List (α×List α)):Prop where
 len:l.length<=64
 at':∀ m∈ms,∃ g,cI l m=some g/\g.Nodup/\∀ x,x∈g↔Cn ps m x
end
end P
end K2
end
section
namespace K2
open PySem (Str)
open Enc (enc)
namespace P
theorem kl{κ β:Type} [DecidableEq κ]{l:List (κ×β)}{k:κ}{v:β}(h:k∉l.map (·.1)):ez l k v=l++[(k,v)]:=by
 unfold ez;rw [if_neg];intro q;obtain⟨p,h1,h2⟩:=List.any_eq_true.mp q;exact h (List.mem_map.mpr ⟨p,h1,by simpa using h2⟩)
theorem DX{κ β γ:Type} [DecidableEq κ](kf:γ->κ)(vf:γ->β):∀ (ps:List γ) (l:List (κ×β)),(l.map (·.1)++ps.map kf).Nodup->ps.foldl (fun l p=>ez l (kf p) (vf p)) l=l++ps.map fun p=>(kf p,vf p)
 | [],l,_=>by simp
 | p :: ps,l,h=>by
  rw [cM,kl (fun z=>by
   rw [ak,eS] at h;exact h.2.2 _ z _ (by simp) rfl),DX kf vf ps _ (by simpa using h)]
  simp
theorem ve(r:List T3):(ik r).length=r.length:=by unfold ik; rw [aG,cV,eF]; lia
theorem A5(r:List T3):(ik r).Perm r:=by
 unfold ik;exact List.perm_append_comm.trans (by rw [ue])
theorem mY(rows:Rows):(pairsOf rows).map (·.1)=rows.flatten:=by
 unfold pairsOf;induction rows with
 | nil=>rfl
 | cons r rs ih =>
  rw [eT,bw,ih,fJ];congr 1;rw [List.map_fst_zip]; rw [ve]; exact aE _
theorem mX(rows:Rows):((pairsOf rows).map (·.2)).Perm rows.flatten:=by
 unfold pairsOf;induction rows with
 | nil=>exact .refl _
 | cons r rs ih =>
  rw [eT,bw,fJ];refine List.Perm.append ?_ ih;rw [List.map_snd_zip]
  ·exact A5 r
  ·rw [ve]; exact aE _
variable {rows:Rows}
theorem NR(d:Dr rows):((pairsOf rows).map fun p=>p.1.s).Nodup:=by
 have:((pairsOf rows).map fun p=>p.1.s)=rows.flatten.map T3.s:=by rw [<-mY,bt]; rfl
 rw [this]; exact d.nd
theorem Sr(d:Dr rows):((pairsOf rows).map fun p=>p.2.s).Nodup:=by
 have:((pairsOf rows).map fun p=>p.2.s)=((pairsOf rows).map (·.2)).map T3.s:=by rw [bt]; rfl
 rw [this,((mX rows).map T3.s).nodup_iff]; exact d.nd
theorem MR(d:Dr rows):lH (pairsOf rows)=(pairsOf rows).map fun p=>(p.1.s,p.2.s):=by
 unfold lH;rw [DX (fun p:T3×T3=>p.1.s) (fun p=>p.2.s) _ _ (by simpa using NR d)]; rfl
noncomputable def Wt(rows:Rows)(s:T2):T3:=(rows.flatten.find? fun p=>decide (p.s=s)).getD ⟨0,0,0⟩
noncomputable def nxt(rows:Rows)(s:T2):T2:=(cI ((pairsOf rows).map fun p=>(p.1.s,p.2.s)) s).getD s
noncomputable def cmg(rows:Rows)(s:T2):T2:=(cI ((pairsOf rows).map fun p=>(p.2.s,p.1.s)) s).getD s
noncomputable def mt(p:T3):T2:=⟨p.a,1 - p.b⟩
noncomputable def fst(p:T3):Bool:=decide (p.b=0) == decide (p.c=1)
theorem Il(d:Dr rows){p:T3}(h:p∈rows.flatten):Wt rows p.s=p:=by
 unfold Wt;cases q:rows.flatten.find? (fun x=>decide (x.s=p.s)) with
 | none=>rw [gx] at q; exact absurd (by simp) (q p h)
 | some x =>
  have h1:=ug q;have h2:=jF q;have h1:x.s=p.s:=by simpa using h1
  have:∀ (L:List T3),(L.map T3.s).Nodup->x∈L->p∈L->x=p:=by
   intro L;induction L with
   | nil=>intro _ h; cases h
   | cons y L ih =>
    intro hn hx hp;rw [ak,aN] at hn;rcases List.mem_cons.mp hx with e1 | hx2
    ·rcases List.mem_cons.mp hp with e2 | oQ
     ·rw [e1,e2]
     ·exact absurd (by rw [<-e1,h1]; exact bI oQ) hn.1
    ·rcases List.mem_cons.mp hp with e2 | oQ
     ·exact absurd (by rw [<-e2,<-h1]; exact bI hx2) hn.1
     ·exact ih hn.2 hx2 oQ
  exact this _ d.nd h2 h
theorem NK{p:T3}(h:p∈rows.flatten):∃ q,(p,q)∈pairsOf rows/\q∈rows.flatten:=by
 rw [<-mY] at h;obtain⟨x,hx,rfl⟩:=List.mem_map.mp h;exact⟨x.2,hx,(mX rows).mem_iff.mp (bI hx)⟩
theorem NJ{q:T3}(h:q∈rows.flatten):∃ p,(p,q)∈pairsOf rows/\p∈rows.flatten:=by
 rw [<-(mX rows).mem_iff] at h;obtain⟨x,hx,rfl⟩:=List.mem_map.mp h;exact⟨x.1,hx,by rw [<-mY]; exact bI hx⟩
noncomputable def om(p:T3):T3:=⟨p.a,1 - p.b,p.c⟩
theorem U4(d:Dr rows){p:T3}(h:p∈rows.flatten):om p∈rows.flatten:=d.FW p h
noncomputable def step(rows:Rows)(x:T3):T3 :=
 if x.b=2 then x else
 let al:=decide (x.c=0)
 let p:=if al=true then Wt rows (nxt rows x.s) else Wt rows x.s
 if (fst p == al)=true then X8 (mt p) else Xp (cmg rows (mt p))
theorem lg{n:Int}:n∈names rows↔∃ p∈rows.flatten,p.b=0/\p.a=n:=by
 unfold names;rw [Pq,List.mem_map];constructor
 ·rintro⟨p,h,rfl⟩;obtain⟨h1,h2⟩:=List.mem_filter.mp h;exact⟨p,h1,by simpa using h2,rfl⟩
 ·rintro⟨p,h1,h2,rfl⟩;exact⟨p,List.mem_filter.mpr ⟨h1,by simpa using h2⟩,rfl⟩
theorem we(d:Dr rows){p:T3}(h:p∈rows.flatten):handOf rows p.a=p.c:=by
 unfold handOf;cases q:rows.flatten.find? (fun x=>x.a == p.a) with
 | none=>rw [gx] at q; exact absurd (by simp) (q p h)
 | some x =>
  have h1:x.a=p.a:=by simpa using ug q
  have h2:=jF q;show x.c=p.c;have hw:=d.way p h;have WE:=d.way x h2;by_cases e:x.b=p.b
  ·have:x.s=p.s:=by unfold T3.s; rw [h1,e]
   have e1:=Il d h2;rw [this,Il d h] at e1;rw [e1]
  ·have:(om x).s=p.s:=by unfold T3.s om; rw [h1]; congr 1; dsimp only; lia
   have e1:=Il d (U4 d h2);rw [this,Il d h] at e1;rw [e1]; rfl
end P
end K2
end
section
set_option maxHeartbeats 1000000
namespace K2
open Enc (enc)
noncomputable instance {α β:Type} [DecidableEq α] [Enc α] [bo α] [DecidableEq β] [Enc β] [bo β]:bo (α×β) where
 lt:=fun x y=>if x.1=y.1 then bo.lt x.2 y.2 else bo.lt x.1 y.1
 zM:=.tup [bo.zM α,bo.zM β]
 Bz:=fun x=>by
  show (cQ _ (enc x.1)&&(cQ _ (enc x.2)&&true))=true;rw [bo.Bz,bo.Bz]; rfl
 Qf:=fun x y=>by
  show kR [enc x.1,enc x.2] [enc y.1,enc y.2]=_;rw [lI,lI,Enc.eqv,Enc.eqv,bo.Qf,bo.Qf,show kR [] []=false from rfl];by_cases h:x.1=y.1
  ·simp only [h,decide_true,if_true];by_cases h2:x.2=y.2
   ·simp only [h2,decide_true,if_true]; exact(bo.Gh _).symm
   ·simp only [h2,decide_false,ar,if_false]
  ·simp only [h,decide_false,ar,if_false]
 Gh:=fun x=>by simp only [if_true]; exact bo.Gh _
 trans:=fun x y z h1 h2=>by
  by_cases e1:x.1=y.1
  ·rw [if_pos e1] at h1;by_cases e2:y.1=z.1
   ·rw [if_pos e2] at h2;rw [if_pos (e1.trans e2)];exact bo.trans _ _ _ h1 h2
   ·rw [if_neg e2] at h2;rw [if_neg (fun q=>e2 (e1.symm.trans q)),e1]; exact h2
  ·rw [if_neg e1] at h1;by_cases e2:y.1=z.1
   ·rw [if_neg (fun q=>e1 (q.trans e2.symm)),<-e2]; exact h1
   ·rw [if_neg e2] at h2;have h3:=bo.trans _ _ _ h1 h2;rw [if_neg (fun q=>by rw [q,bo.Gh] at h3; cases h3)]; exact h3
 mG:=fun x y h1 h2=>by
  by_cases e1:x.1=y.1
  ·rw [if_pos e1] at h1;rw [if_pos e1.symm] at h2;exact Prod.ext e1 (bo.mG _ _ h1 h2)
  ·rw [if_neg e1] at h1;rw [if_neg (fun q=>e1 q.symm)] at h2;exact absurd (bo.mG _ _ h1 h2) e1
namespace J
noncomputable def JV(l:List (T3×T3)):Pr T3:=Pt (l.filter fun p=>bo.lt p.1 p.2)
theorem xP{κ β:Type} [DecidableEq κ]:∀ {l:List (κ×β)},(l.map (·.1)).Nodup->∀ {p:κ×β},p∈l->cI l p.1=some p.2
 | [],_,_,h=>by cases h
 | q :: l,nd,p,h=>by
  rw [ak,aN] at nd;unfold cI;rcases List.mem_cons.mp h with rfl | h
  ·rw [cx (by simp)]; rfl
  ·have:¬ q.1=p.1:=fun z=>nd.1 (by rw [z]; exact bI h);rw [cy (by simpa using this)];exact xP nd.2 h
theorem B8{κ β:Type} [DecidableEq κ]{l:List (κ×β)}{k:κ}{v:β}(h:cI l k=some v):(k,v)∈l:=by
 unfold cI at h;obtain⟨p,h1,h2⟩:=Option.map_eq_some_iff.mp h;have h3:=ug h1;have h4:=jF h1;simp at h3;rw [<-h3,<-h2]; exact h4
theorem Jo.mem{l:List (T3×T3)}{f:T3->T3}(h:Jo l f){p:T3×T3}(hp:p∈l):f p.1=p.2/\f p.1≠p.1:=by
 have a:=xP h.nd hp;rw [h.at'] at a;split at a
 ·cases a
 ·rename_i z; exact⟨aX a,z⟩
theorem Qh{α:Type} [DecidableEq α] [Enc α] [bo α]{a b:α}(h1:bo.lt a b=true)(h2:bo.lt b a=true):False:=by
 have:=bo.trans _ _ _ h1 h2;rw [bo.Gh] at this; cases this
theorem Ja{f:T3->T3}(iv:Iv f):∀ {l:List (T3×T3)},(l.map (·.1)).Nodup->(∀ p∈l,f p.1=p.2)->(es (l.filter fun p=>bo.lt p.1 p.2)).Nodup
 | [],_,_=>cF
 | p :: l,nd,h=>by
  rw [ak,aN] at nd;have ih:=Ja iv nd.2 fun q hq=>h q (aK _ hq);rw [bF];split
  ·rename_i hl;have fp:=h p (by simp);rw [es,aN,aN,aY,not_or];have out:∀ q∈l.filter (fun p=>bo.lt p.1 p.2),p.1≠q.1/\p.1≠q.2/\p.2≠q.1/\p.2≠q.2:=fun q hq=>by
    have RG:=List.mem_filter.mp hq;have fq:=h q (aK _ RG.1);have n1:p.1≠q.1:=fun z=>nd.1 (by rw [z]; exact bI RG.1);have n2:p.1=q.2->p.2=q.1:=fun z=>by rw [<-fp,z,<-fq,iv]
    have n3:p.2=q.1->p.1=q.2:=fun z=>by rw [<-fq,<-z,<-fp,iv]
    have RQ:¬ (p.1=q.2/\p.2=q.1):=fun ⟨a,b⟩=>Qh hl (by rw [a,b]; exact RG.2);refine⟨n1,fun z=>RQ ⟨z,n2 z⟩,fun z=>RQ ⟨n3 z,z⟩,fun z=>n1 ?_⟩;have:=congrArg f z;rw [<-fp,<-fq,iv,iv] at this;exact this
   have ne:p.1≠p.2:=fun z=>by rw [z,bo.Gh] at hl; cases hl
   refine⟨⟨ne,fun z=>?_⟩,fun z=>?_,ih⟩
   ·obtain⟨q,hq,e⟩:=kA.mp z;rcases e with e | e
    ·exact(out q hq).1 e
    ·exact(out q hq).2.1 e
   ·obtain⟨q,hq,e⟩:=kA.mp z;rcases e with e | e
    ·exact(out q hq).2.2.1 e
    ·exact(out q hq).2.2.2 e
  ·exact ih
theorem Ih{l:List (T3×T3)}{f:T3->T3}(h:Jo l f)(iv:Iv f):(es (JV l)).Nodup/\pt (JV l)=f:=by
 have sp:=pe (l.filter fun p=>bo.lt p.1 p.2);have nd0:=Ja iv h.nd fun p hp=>(h.mem hp).1;have nd:(es (JV l)).Nodup:=(j6 sp).nodup_iff.mpr nd0;refine⟨nd,Mq nd (fun p hp=>?_) fun e he=>?_⟩
 ·have uj:=(List.mem_filter.mp (sp.mem_iff.mp hp)).1;have:=(h.mem uj).1;exact⟨this,by rw [<-this,iv]⟩
 ·refine gk fun z=>he ?_;have a1:cI l e=some (f e):=by rw [h.at',if_neg z]
  have z2:f (f e)≠f e:=fun q=>z (by rw [iv] at q; exact q.symm);have a2:cI l (f e)=some e:=by rw [h.at',if_neg z2,iv]
  have m1:=B8 a1;have m2:=B8 a2;rw [kA];by_cases hl:bo.lt e (f e)=true
  ·exact⟨(e,f e),sp.mem_iff.mpr (List.mem_filter.mpr ⟨m1,hl⟩),.inl rfl⟩
  ·by_cases Au:bo.lt (f e) e=true
   ·exact⟨(f e,e),sp.mem_iff.mpr (List.mem_filter.mpr ⟨m2,Au⟩),.inr rfl⟩
   ·exact absurd (bo.mG _ _ (by simpa using Au) (by simpa using hl)) z
noncomputable def Gy(P:Pr T3):List (T3×T3):=P.foldl (fun l p=>ez (ez l p.1 p.2) p.2 p.1) []
theorem I0:∀ {P:Pr T3},(es P).Nodup->Jo (Gy P) (pt P):=by
 have main:∀ (P:Pr T3) (l:List (T3×T3)) (f:T3->T3),Jo l f->(es P).Nodup->(∀ e∈es P,f e=e)->Jo (P.foldl (fun l p=>ez (ez l p.1 p.2) p.2 p.1) l) (fun e=>if e∈es P then pt P e else f e):=by
  intro P;induction P with
  | nil =>
   intro l f h _ _;have:(fun e=>if e∈es ([]:Pr T3) then pt [] e else f e)=f:=by funext e; simp [es]
   rw [this]; exact h
  | cons p P ih =>
   intro l f h nd hf;rw [es,aN,aN,aY,not_or] at nd;have f1:f p.1=p.1:=hf _ (by simp [es]);have f2:f p.2=p.2:=hf _ (by simp [es]);have h2:Jo (ez (ez l p.1 p.2) p.2 p.1) (fun e=>if e=p.1 then p.2 else if e=p.2 then p.1 else f e):=by
    refine⟨nZ (nZ h.nd),fun e=>?_⟩;rw [qD,qD,h.at'];have:=nd.1.1
    grind
   have:=ih _ _ h2 nd.2.2 fun e he=>by
    have m1:e≠p.1:=fun z=>nd.1.2 (z ▸ he);have m2:e≠p.2:=fun z=>nd.2.1 (z ▸ he);simp only [if_neg m1,if_neg m2];exact hf e (by simp [es,he])
   rw [cM];have e2:(fun e=>if e∈es (p :: P) then pt (p :: P) e else f e)=fun e=>if e∈es P then pt P e else if e=p.1 then p.2 else if e=p.2 then p.1 else f e:=by
    funext e;rw [es,pt];by_cases he:e∈es P
    ·have m1:e≠p.1:=fun z=>nd.1.2 (z ▸ he);have m2:e≠p.2:=fun z=>nd.2.1 (z ▸ he);rw [if_pos (by simp [he]),if_neg m1,if_neg m2,if_pos he]
    ·rw [if_neg he];by_cases m1:e=p.1
     ·rw [if_pos (by simp [m1]),if_pos m1,if_pos m1]
     ·by_cases m2:e=p.2
      ·rw [if_pos (by simp [m2]),if_neg m1,if_pos m2,if_neg m1,if_pos m2]
      ·rw [if_neg (by simp [m1,m2,he]),if_neg m1,if_neg m2]
   rw [e2]; exact this
 intro P nd;have:=main P [] (fun e=>e) ⟨cF,fun e=>by simp [cI]⟩ nd (fun _ _=>rfl);have e2:(fun e=>if e∈es P then pt P e else e)=pt P:=by
  funext e;by_cases he:e∈es P
  ·rw [if_pos he]
  ·rw [if_neg he,me he]
 rw [e2] at this; exact this
theorem IZ(P:Pr T3):(Gy P).length<=2 * P.length:=by
 have:∀ (P:Pr T3) (l:List (T3×T3)),(P.foldl (fun l p=>ez (ez l p.1 p.2) p.2 p.1) l).length<=l.length+2 * P.length:=by
  intro P;induction P with
  | nil=>intro l; simp
  | cons p P ih =>
   intro l;have h1:=ih (ez (ez l p.1 p.2) p.2 p.1);have h2:=pZ (ez l p.1 p.2) p.2 p.1;have h3:=pZ l p.1 p.2;rw [cM,aj]; lia
 have:=this P [];simpa [Gy] using this
end J
end K2
end
section
set_option maxHeartbeats 1000000
namespace K2
open Enc (enc)
namespace J
open Y (Po L ND NZ eV vO iL hX dB)
noncomputable def mH(P:Pr T3):PK:=P.map fun p=>[p.1.l,p.2.l]
noncomputable def Zl:List (List Int)->T3×T3
 | [[a,b,c],[x,y,z]]=>(⟨a,b,c⟩,⟨x,y,z⟩)
 | _=>(⟨0,0,0⟩,⟨0,0,0⟩)
noncomputable def dec(k:PK):Pr T3:=k.map Zl
theorem GL(P:Pr T3):dec (mH P)=P:=by
 unfold dec mH;rw [bt]
 conv=>rhs; rw [<-k6 P]
 rfl
theorem Mu(P:Pr T3):oq (mH P)=.tup (P.map enc):=by
 unfold oq mH;rw [bt];rfl
noncomputable abbrev Su:=List (PK×Po)
noncomputable def g6(S:Su):List (PK×D):=S.map fun p=>(p.1,D.ji (bu p.2))
theorem Ag(S:Su)(k:PK):ot (g6 S) k=(cI S k).map fun l=>D.ji (bu l):=by
 unfold ot cI g6;rw [List.find?_map,Option.map_map,Option.map_map];rfl
theorem Mp(S:Su)(k:PK)(l:Po):JQ (g6 S) k (.ji (bu l))=g6 (ez S k l):=by
 unfold JQ ez g6;rw [List.any_map];split
 ·rename_i h;rw [if_pos (by simpa [OQ] using h),bt,bt];refine c4 fun p _=>?_;simp only [Function.comp];split <;> rfl
 ·rename_i h;rw [if_neg (by simpa [OQ] using h),bw]; rfl
noncomputable def mG(ns:List (Int×Int))(g:Fn):Su->Int
 | []=>0
 | p :: S=>L (fun j=>Br (pt (dec p.1)) ns (sh j g)) p.2+mG ns g S
theorem HC(ns:List (Int×Int))(g:Fn)(S S':Su):mG ns g (S++S')=mG ns g S+mG ns g S':=by
 induction S with
 | nil=>simp [mG]
 | cons p S ih=>rw [az,mG,mG,ih]; lia
theorem Pj(ns:List (Int×Int))(g:Fn)(k:PK)(l:Po):∀ {S:Su},(S.map (·.1)).Nodup->mG ns g (ez S k l)=mG ns g S+(L (fun j=>Br (pt (dec k)) ns (sh j g)) l - L (fun j=>Br (pt (dec k)) ns (sh j g)) ((cI S k).getD []))
 | S,nd=>by
  unfold ez;split
  ·rename_i h;have main:∀ {S:Su},(S.map (·.1)).Nodup->(S.any fun p=>decide (p.1=k))=true->mG ns g (S.map fun p=>if p.1=k then (p.1,l) else p)=mG ns g S+(L (fun j=>Br (pt (dec k)) ns (sh j g)) l - L (fun j=>Br (pt (dec k)) ns (sh j g)) ((cI S k).getD [])):=by
    intro S;induction S with
    | nil=>intro _ h; cases h
    | cons p S ih =>
     intro nd h;rw [ak,aN] at nd;rw [ak,mG,mG];by_cases e:p.1=k
     ·have e2:(S.map fun p=>if p.1=k then (p.1,l) else p)=S:=by
       conv=>rhs; rw [<-k6 S]
       refine c4 fun q hq=>?_;rw [if_neg]; rfl;intro z; exact nd.1 (by rw [e,<-z]; exact bI hq)
      have e3:cI (p :: S) k=some p.2:=by unfold cI; rw [cx (by simpa using e)]; rfl
      rw [e2,e3,if_pos e,e];simp only [qG];lia
     ·have e3:cI (p :: S) k=cI S k:=by unfold cI; rw [cy (by simpa using e)]
      rw [e3,if_neg e,ih nd.2 (by simpa [e] using h)];lia
   exact main nd h
  ·rename_i h;rw [HC];have e3:cI S k=none:=by
    unfold cI;have:S.find? (fun p=>decide (p.1=k))=none:=by
     rw [gx];intro p hp z;exact h (List.any_eq_true.mpr ⟨p,hp,z⟩)
    rw [this]; rfl
   rw [e3];show mG ns g S+(L _ l+0)=_;simp only [zG,L];lia
noncomputable def LP:Po:=[(2,-1),(-2,-1)]
theorem Zy(g:Fn)(i:Int):L (fun j=>g (i+j)) LP=lp g i:=by
 show -1 * g (i+2)+(-1 * g (i+-2)+0)=-(g (i+2)) - g (i - 2);rw [show i+-2=i - 2 by lia]; lia
theorem MX(n:Nat)(g:Fn):gK n (lp g)=lp (gK n g):=by
 induction n with
 | zero=>rfl
 | succ n ih=>rw [gK,gK,ih]
theorem sf:∀ (n:Nat) (g:Fn),L g (dB LP n)=gK n g 0
 | 0,g=>by show 1 * g 0+0=g 0; lia
 | n+1,g=>by
  show L g (iL (dB LP n) LP)=_;rw [Y.EI];have:(fun i=>L (fun j=>g (i+j)) LP)=lp g:=by funext i; exact Zy g i
  rw [this,sf n,MX]; rfl
theorem Gb(f:T3->T3)(ns:List (Int×Int))(g:Fn):∀ (n:Nat) (b:Int),gK n (fun t=>Br f ns (sh (t+b) g))=fun t=>Br f ns (sh (t+b) (gK n g))
 | 0,b=>rfl
 | n+1,b=>by
  rw [gK,Gb f ns g n b];funext t;show -(Br f ns (sh (t+2+b) (gK n g))) - Br f ns (sh (t - 2+b) (gK n g))=Br f ns (sh (t+b) (lp (gK n g)));have e:sh (t+b) (lp (gK n g))=pl (sc (-1) (sh (t+2+b) (gK n g))) (sc (-1) (sh (t - 2+b) (gK n g))):=by
   funext i;show -(gK n g (i+(t+b)+2)) - gK n g (i+(t+b) - 2)=-1 * gK n g (i+(t+2+b))+-1 * gK n g (i+(t - 2+b));rw [show i+(t+b)+2=i+(t+2+b) by lia,show i+(t+b) - 2=i+(t - 2+b) by lia];lia
  rw [e,Jq,AW,AW]; lia
noncomputable def PJ(l:Po)(c:Nat)(b:Int):Po:=hX (iL l (dB LP c)) b 1
theorem Wi(f:T3->T3)(ns:List (Int×Int))(g:Fn)(l:Po)(c:Nat)(b:Int):L (fun j=>Br f ns (sh j g)) (PJ l c b)=L (fun j=>Br f ns (gK c (sh b (sh j g)))) l:=by
 unfold PJ;rw [Y.EJ,Y.EI,Fc];congr 1;funext i;rw [sf];have:(fun j=>Br f ns (sh (i+j+b) g))=fun t=>Br f ns (sh (t+(i+b)) g):=by
  funext t; rw [show i+t+b=t+(i+b) by lia]
 rw [this,Gb];show Br f ns (sh (0+(i+b)) (gK c g))=_;rw [uw,jz,jz,HP,Int.add_comm i b]
theorem P9(l:Po)(c:Nat)(b:Int):eV (PJ l c b)<=eV l * 2 ^ c:=by
 unfold PJ hX;refine aZ (Y.qp _) ?_;have e:∀ m:Po,eV (m.map fun p=>(p.1+b,p.2 * 1))=eV m:=by
  intro m;induction m with
  | nil=>rfl
  | cons p m ih=>rw [ak,eV,eV,ih]; simp
 rw [e];exact aZ (Y.rF _ _) (wJ _ (Y.nP LP c))
noncomputable def qV(A:Su)(k':PK)(l:Po)(c:Nat)(b:Int):Su:=ez A k' (vO ((cI A k').getD []) (PJ l c b))
noncomputable def K1(S:Su):Prop:=(S.map (·.1)).Nodup/\∀ p∈S,ND p.2/\NZ p.2
theorem K1.get{S:Su}(h:K1 S)(k:PK):ND ((cI S k).getD [])/\NZ ((cI S k).getD []):=by
 cases e:cI S k with
 | none=>exact⟨Y.ND.nil,fun p hp=>by cases hp⟩
 | some l=>exact h.2 _ (B8 e)
theorem K1.put{S:Su}(h:K1 S){k:PK}{l:Po}(h1:ND l)(h2:NZ l):K1 (ez S k l):=by
 refine⟨nZ h.1,fun p hp=>?_⟩;unfold ez at hp;split at hp
 ·obtain⟨q,hq,rfl⟩:=List.mem_map.mp hp;split
  ·exact⟨h1,h2⟩
  ·exact h.2 q hq
 ·rcases List.mem_append.mp hp with hp | hp
  ·exact h.2 p hp
  ·rw [cC] at hp; subst hp; exact⟨h1,h2⟩
theorem L0{A:Su}(h:K1 A)(k':PK)(l:Po)(c:Nat)(b:Int):K1 (qV A k' l c b):=h.put (Y.PX (h.get k').1) (Y.xC _)
theorem LY{A:Su}(h:K1 A)(ns:List (Int×Int))(g:Fn)(k':PK)(l:Po)(c:Nat)(b:Int):mG ns g (qV A k' l c b)=mG ns g A+L (fun j=>Br (pt (dec k')) ns (gK c (sh b (sh j g)))) l:=by
 unfold qV;rw [Pj ns g k' _ h.1,Y.T5 _ (h.get k').1,Wi];lia
noncomputable def gC:Su->Nat
 | []=>0
 | p :: S=>eV p.2+gC S
theorem xJ(S S':Su):gC (S++S')=gC S+gC S':=by
 induction S with
 | nil=>simp [gC]
 | cons p S ih=>rw [az,gC,gC,ih]; lia
theorem MK(k:PK)(l:Po):∀ {S:Su},(S.map (·.1)).Nodup->gC (ez S k l)+eV ((cI S k).getD [])<=gC S+eV l
 | S,nd=>by
  unfold ez;split
  ·rename_i h;have main:∀ {S:Su},(S.map (·.1)).Nodup->(S.any fun p=>decide (p.1=k))=true->gC (S.map fun p=>if p.1=k then (p.1,l) else p)+eV ((cI S k).getD [])<=gC S+eV l:=by
    intro S;induction S with
    | nil=>intro _ h; cases h
    | cons p S ih =>
     intro nd h;rw [ak,aN] at nd;rw [ak,gC,gC];by_cases e:p.1=k
     ·have e2:(S.map fun p=>if p.1=k then (p.1,l) else p)=S:=by
       conv=>rhs; rw [<-k6 S]
       refine c4 fun q hq=>?_;rw [if_neg]; rfl;intro z; exact nd.1 (by rw [e,<-z]; exact bI hq)
      have e3:cI (p :: S) k=some p.2:=by unfold cI; rw [cx (by simpa using e)]; rfl
      rw [e2,e3,if_pos e];simp only [qG];lia
     ·have e3:cI (p :: S) k=cI S k:=by unfold cI; rw [cy (by simpa using e)]
      have:=ih nd.2 (by simpa [e] using h);rw [e3,if_neg e];lia
   exact main nd h
  ·rename_i h;rw [xJ];have e3:cI S k=none:=by
    unfold cI;have:S.find? (fun p=>decide (p.1=k))=none:=by
     rw [gx];intro p hp z;exact h (List.any_eq_true.mpr ⟨p,hp,z⟩)
    rw [this]; rfl
   rw [e3];show gC S+(eV l+0)+0<=_;lia
theorem LZ{A:Su}(h:K1 A)(k':PK)(l:Po){c:Nat}(hc:c<=2)(b:Int):gC (qV A k' l c b)<=gC A+4 * eV l:=by
 unfold qV;have h1:=MK k' (vO ((cI A k').getD []) (PJ l c b)) h.1;have h2:=Y.MJ (h.get k').1 (PJ l c b);have h3:=P9 l c b;have h4:eV l * 2 ^ c<=eV l * 4:=wJ _ (show 2 ^ c<=2 ^ 2 from jq (by decide) hc);lia
theorem Ir(S:Su)(k:PK):eV ((cI S k).getD [])<=gC S:=by
 induction S with
 | nil=>exact aE _
 | cons p S ih =>
  unfold cI at *;rw [gC];by_cases e:p.1=k
  ·rw [cx (by simpa using e)]; simp only [sk,qG]; lia
  ·rw [cy (by simpa using e)]; lia
theorem xH:∀ {l:Po},NZ l->l.length<=eV l
 | [],_=>aE _
 | p :: l,h=>by
  have h1:=h p (by simp);have h2:=xH (l:=l) fun q hq=>h q (aK _ hq);rw [aj,eV]; lia
noncomputable def iQ(S:Su):Su:=S.filter fun p=>!p.2.isEmpty
theorem M7(ns:List (Int×Int))(g:Fn)(S:Su):mG ns g (iQ S)=mG ns g S:=by
 unfold iQ;induction S with
 | nil=>rfl
 | cons p S ih =>
  rw [bF];split
  ·rw [mG,mG,ih]
  ·rename_i h;have:p.2=[]:=by simpa using h
   rw [ih,mG,this,L,uw]
theorem DL{S:Su}(h:K1 S):K1 (iQ S):=⟨lS (ky _ jK) h.1,fun p hp=>h.2 p (List.mem_filter.mp hp).1⟩
theorem M8(S:Su):gC (iQ S)<=gC S:=by
 unfold iQ;induction S with
 | nil=>exact aE _
 | cons p S ih =>
  rw [bF];split
  ·rw [gC,gC]; lia
  ·rw [gC]; lia
theorem Na{S:Su}(h:K1 S):(iQ S).length<=gC S:=by
 have:∀ {S:Su},(∀ p∈S,NZ p.2)->(iQ S).length<=gC S:=by
  intro S;unfold iQ;induction S with
  | nil=>intro _; exact aE _
  | cons p S ih =>
   intro h;have ih:=ih fun q hq=>h q (aK _ hq);rw [bF,gC];split
   ·rename_i z;have h1:=xH (h p (by simp));have h2:0 < p.2.length:=by
     cases q:p.2 with
     | nil=>rw [q] at z; cases z
     | cons _ _=>simp
    rw [aj]; lia
   ·lia
 exact this fun p hp=>(h.2 p hp).2
end J
end K2
end
section
namespace K2
open PySem (Str)
open Enc (enc)
namespace Y
structure Pl(G:Gp)(d:D)(l:Po):Prop where
 is:RY G d l
 nd:ND l
theorem nW{G G1:Gp}{p:Nat}{o:GO}{Q:DK}(l:gc G G1)(hp:G p=none)(h1:G1 p=some o)(q:gw G o Q):EL G1 (.ref p) Q:=NQ l hp h1 (q p hp)
theorem BM(i j:Int):ig (.int i) (.int j)=decide (i=j):=Enc.eqv i j
theorem sX(l m:Po):fg (l++m)=fg l++fg m:=dI _ _
theorem FJ{l:Po}{k:Int}(h:k∈(fg l).map (·.1)):k∈l.map (·.1):=(ky _ jK).subset h
theorem Rt{l pre post:Po}{p:Int×Int}(h:ND l)(e:l=pre++p :: post):p.1∉pre.map (·.1):=by
 subst e;unfold ND at h;rw [bw,ak,eS] at h;intro z;exact h.2.2 _ z _ (by simp) rfl
theorem xA{l pre post:Po}{p:Int×Int}(h:ND l)(e:l=pre++p :: post)(hz:p.2≠0):ez (fg pre) p.1 p.2=fg (pre++[p]):=by
 rw [kl fun z=>Rt h e (FJ z),sX];congr 1;simp [fg,hz]
theorem xB{pre:Po}{p:Int×Int}(hz:p.2=0):fg (pre++[p])=fg pre:=by
 rw [sX]; simp [fg,hz]
theorem tQ(i:Int):(enc i:D)=.int i:=rfl
noncomputable def cW:lR:=fun ds G Q _=>∃ (d:D) (l:Po),ds=[d]/\Pl G d l/\l.length<=SZ/\gw G (.fZ (bu (fg l))) Q
noncomputable def lE:gW :=
 (cH (bM mM (aO 1))
 (cH (eQ (kB (aw 0)) (jV (dN (aO 2) (dN (aO 3) jG))) (ja (jj (bG (H0 true) (aw 3) (dC (.int 0)))) (bM (aw 3) (kC (aw 1) (aw 2))) fA))
 (cR (dh (aw 1)))))
theorem se(ds:List D)(G:Gp)(Q:DK)(h:cW ds G Q fun _ _=>False):lE (fun _ _=>False) (ends Q) (bD 4 ds) G:=by
 obtain⟨d,l,rfl,hd,hl,q⟩:=h;unfold lE;simp only [ends,bD,ak,br,aj,aF,bg,az,aT,c7,bM,mM,aO,aq,ao];intro p hp;refine fX (fun τ G'=>(∃ a b,τ=[some d,some (.ref p),a,b])/\gc G G'/\G' p=some (.fZ (bu (fg l)))) ?_ ?_
 ·intro N hN;simp only [eQ,kB,aw,aa];refine ke hd.is (.new hp) fun ok cD=>?_;refine dQ (xs:=l) (fun pre τ G'=>(∃ a b,τ=[some d,some (.ref p),a,b])/\gc G G'/\G' p=some (.fZ (bu (fg pre)))) ⟨⟨_,_,rfl⟩,.new hp,aH⟩ (fun pre τ G' h=>cD G' h.2.1) ?_ ?_
  ·rintro pre x post τ G' N2 e ⟨⟨a,b,rfl⟩,le,gp⟩ nj;have hlen:(fg pre).length < SZ:=by
    have:=qo pre;have:=congrArg dU e;rw [aG,aj] at this; lia
   simp only [jV,dN,aO,jG,aq,ao];refine⟨_,_,.int _,.int _,?_⟩;simp only [BM,if_true,bM,aw,ae,aa,kC,fA];by_cases hz:x.2=0
   ·simp only [hz,decide_true,bQ];exact nj _ _ ⟨⟨_,_,rfl⟩,le,by rw [xB hz]; exact gp⟩
   ·simp only [hz,decide_false,fF];refine fK (α:=Int) gp hlen ?_;exact nj _ _ ⟨⟨_,_,rfl⟩,le.put hp,by rw [aH,<-xA hd.nd e hz]⟩
  ·rintro τ G' ⟨⟨a,b,rfl⟩,le,gp⟩;exact hN _ _ ⟨⟨_,_,rfl⟩,le,gp⟩
 ·rintro _ G' ⟨⟨a,b,rfl⟩,le,gp⟩;simp only [cR,dh,aw,ae,aa];exact nW le hp gp q
theorem Ru{G:Gp}{d:D}{l:Po}{i:Int}{Q:DK}(h:vd G d l)(k:Q (.int (c0 l i)) G):J0 d [.int i,.int 0] G Q:=Qe (α:=Int) (e:=0) h k
theorem i0{α:Type}{l pre post:List α}{x:α}(e:l=pre++x :: post):pre.length < l.length:=by
 have:=congrArg dU e;rw [aG,aj] at this; lia
noncomputable def kb:lR:=fun ds G Q _=>∃ (d e:D) (l m:Po),ds=[d,e]/\Pl G d l/\Pl G e m/\l.length+m.length<=SZ/\gw G (.fZ (bu (vO l m))) Q
noncomputable def C3:gW :=
 (cH (bM (zx Ji (ay (aw 0) bq)) (aO 2))
 (cH (eQ (kB (aw 1)) (jV (dN (aO 3) (dN (aO 4) jG))) (bM (bG jy (BX Ph J0 (aw 2) (ay (aw 3) (ay (dC (.int 0)) bq))) (aw 4)) (kC (aw 2) (aw 3))))
 (cR (dh (bC cW (ay (dh (aw 2)) bq))))))
theorem OF(ds:List D)(G:Gp)(Q:DK)(h:kb ds G Q fun _ _=>False):C3 (fun _ _=>False) (ends Q) (bD 5 ds) G:=by
 obtain⟨d,e,l,m,rfl,hd,he,hl,q⟩:=h;unfold C3;simp only [ends,bD,ak,br,aj,aF,bg,az,aT,c7,bM,zx,ay,aw,aa,bq,aO,aq,ao];refine Ox hd.is.p (by lia) fun p hp=>?_;refine fX (fun τ G'=>(∃ a b,τ=[some d,some e,some (.ref p),a,b])/\gc G G'/\G' p=some (.fZ (bu (q0 l m)))) ?_ ?_
 ·intro N hN;simp only [eQ,kB,aw,ae,aa];refine ke he.is (.new hp) fun ok cD=>?_;refine dQ (xs:=m) (fun pre τ G'=>(∃ a b,τ=[some d,some e,some (.ref p),a,b])/\gc G G'/\G' p=some (.fZ (bu (q0 l pre)))) ⟨⟨_,_,rfl⟩,.new hp,aH⟩ (fun pre τ G' h=>cD G' h.2.1) ?_ ?_
  ·rintro pre x post τ G' N2 e2 ⟨⟨a,b,rfl⟩,le,gp⟩ nj;have hlen:(q0 l pre).length < SZ:=by
    have:=zY l pre;have:=i0 e2; lia
   simp only [jV,dN,aO,jG,bM,bG,BX,aw,aq,ao,ae,aa,vY,ay,dC,bq,kC];refine⟨LQ (vd.ref gp),Ru (vd.ref gp) ?_⟩;simp only [tQ,eM];refine fK (α:=Int) gp hlen ?_;refine nj _ _ ⟨⟨_,_,rfl⟩,le.put hp,?_⟩;rw [aH];unfold q0 plus;rw [k7]; rfl
  ·rintro τ G' ⟨⟨a,b,rfl⟩,le,gp⟩;exact hN _ _ ⟨⟨_,_,rfl⟩,le,gp⟩
 ·rintro _ G' ⟨⟨a,b,rfl⟩,le,gp⟩;simp only [cR,dh,bC,ay,aw,ae,aa,bq];refine gU le hp gp ?_;refine⟨_,q0 l m,rfl,⟨rfl,Di hd.nd⟩,by have:=zY l m; lia,fun p2 oQ=>?_⟩;exact nW (.new oQ) oQ aH q
noncomputable def dZ:lR:=fun ds G Q _=>∃ (d:D) (l:Po) (b f:Int),ds=[d,.int b,.int f]/\Pl G d l/\l.length<=SZ/\(eV l < oK/\f.natAbs < oK)/\gw G (.fZ (bu (hX l b f))) Q
noncomputable def w6:gW :=
 (cH (bM mM (aO 3))
 (cH (eQ (kB (aw 0)) (jV (dN (aO 4) (dN (aO 5) jG))) (bM (bG zV (aw 5) (aw 2)) (kC (aw 3) (bG jy (aw 4) (aw 1)))))
 (cR (dh (bC cW (ay (dh (aw 3)) bq))))))
noncomputable def CN(b f:Int)(l:Po):Po:=l.map fun p=>(p.1+b,p.2 * f)
theorem wU{l pre post:Po}{p:Int×Int}(b f:Int)(h:ND l)(e:l=pre++p :: post):ez (CN b f pre) (p.1+b) (p.2 * f)=CN b f (pre++[p]):=by
 rw [kl,CN,CN,bw]; rfl;intro z;unfold CN at z;rw [bt] at z;obtain⟨r,hr,er⟩:=List.mem_map.mp z;have:r.1=p.1:=by have:r.1+b=p.1+b:=er; lia
 exact Rt h e (this ▸ bI hr)
theorem Hh(ds:List D)(G:Gp)(Q:DK)(h:dZ ds G Q fun _ _=>False):w6 (fun _ _=>False) (ends Q) (bD 6 ds) G:=by
 obtain⟨d,l,b,f,rfl,hd,hl,⟨hb,hf⟩,q⟩:=h;unfold w6;simp only [ends,bD,ak,br,aj,aF,bg,az,aT,c7,bM,mM,aO,aq,ao];intro p hp;refine fX (fun τ G'=>(∃ u v,τ=[some d,some (.int b),some (.int f),some (.ref p),u,v])/\gc G G'/\G' p=some (.fZ (bu (CN b f l)))) ?_ ?_
 ·intro N hN;simp only [eQ,kB,aw,aa];refine ke hd.is (.new hp) fun ok cD=>?_;refine dQ (xs:=l) (fun pre τ G'=>(∃ u v,τ=[some d,some (.int b),some (.int f),some (.ref p),u,v])/\gc G G'/\G' p=some (.fZ (bu (CN b f pre)))) ⟨⟨_,_,rfl⟩,.new hp,aH⟩ (fun pre τ G' h=>cD G' h.2.1) ?_ ?_
  ·rintro pre x post τ G' N2 e ⟨⟨u,v,rfl⟩,le,gp⟩ nj;have hlen:(CN b f pre).length < SZ:=by
    have:=i0 e;unfold CN; rw [aB]; lia
   have hx:x.2.natAbs < oK:=fi (wa (by rw [e]; simp)) hb;simp only [jV,dN,aO,jG,bM,bG,aw,aq,ao,tQ,ae,aa,kC,eM,uB];refine⟨⟨hx,hf⟩,?_⟩;refine fK (α:=Int) gp hlen ?_;exact nj _ _ ⟨⟨_,_,rfl⟩,le.put hp,by rw [aH,<-wU b f hd.nd e]⟩
  ·rintro τ G' ⟨⟨u,v,rfl⟩,le,gp⟩;exact hN _ _ ⟨⟨_,_,rfl⟩,le,gp⟩
 ·rintro _ G' ⟨⟨u,v,rfl⟩,le,gp⟩;simp only [cR,dh,bC,ay,aw,ae,aa,bq];refine gU le hp gp ?_;refine⟨_,CN b f l,rfl,⟨rfl,wV hd.nd b f⟩,by unfold CN; rw [aB]; exact hl,fun p2 oQ=>?_⟩;exact nW (.new oQ) oQ aH q
noncomputable def iP:lR:=fun ds G Q _=>∃ (d e:D) (l m:Po),ds=[d,e]/\Pl G d l/\Pl G e m/\l.length * m.length<=SZ/\(eV l < oK/\eV m < oK)/\gw G (.fZ (bu (iL l m))) Q
noncomputable def C2:gW :=
 (cH (bM mM (aO 2))
 (cH (eQ (kB (aw 0)) (jV (dN (aO 3) (dN (aO 4) jG))) (eQ (kB (aw 1)) (jV (dN (aO 5) (dN (aO 6) jG))) (cH (bM (bG jy (aw 3) (aw 5)) (aO 7))
 (bM (bG jy (BX Ph J0 (aw 2) (ay (aw 7) (ay (dC (.int 0)) bq))) (bG zV (aw 4) (aw 6))) (kC (aw 2) (aw 7))))))
 (cR (dh (bC cW (ay (dh (aw 2)) bq))))))
theorem Qc{l pre post:Po}{x:Int×Int}{m mp mq:Po}{y:Int×Int}(e:l=pre++x :: post)(e2:m=mp++y :: mq)(a:Po)(ha:a.length<=pre.length * m.length):(mU mp a x).length < l.length * m.length:=by
 have h1:=Df mp a x;have h2:=i0 e;have h3:=i0 e2;have h4:(pre.length+1) * m.length<=l.length * m.length:=jr _ h2;rw [Nat.succ_mul] at h4;lia
theorem Kv(m:Po):∀ (l:Po),(l.foldl (mU m) []).length<=l.length * m.length:=fun l=>pH l m
theorem OE(ds:List D)(G:Gp)(Q:DK)(h:iP ds G Q fun _ _=>False):C2 (fun _ _=>False) (ends Q) (bD 8 ds) G:=by
 obtain⟨d,e,l,m,rfl,hd,he,hl,⟨hb,hf⟩,q⟩:=h;unfold C2;simp only [ends,bD,ak,br,aj,aF,bg,az,aT,c7,bM,mM,aO,aq,ao];intro p hp;refine fX (fun τ G'=>(∃ a1 a2 a3 a4 a5,τ=[some d,some e,some (.ref p),a1,a2,a3,a4,a5])/\gc G G'/\G' p=some (.fZ (bu (md l m)))) ?_ ?_
 ·intro N hN;simp only [eQ,kB,aw,aa];refine ke hd.is (.new hp) fun ok cD=>?_;refine dQ (xs:=l) (fun pre τ G'=>(∃ a1 a2 a3 a4 a5,τ=[some d,some e,some (.ref p),a1,a2,a3,a4,a5])/\gc G G'/\G' p=some (.fZ (bu (pre.foldl (mU m) [])))) ⟨⟨_,_,_,_,_,rfl⟩,.new hp,aH⟩ (fun pre τ G' h=>cD G' h.2.1) ?_ ?_
  ·rintro pre x post τ G' N2 e1 ⟨⟨a1,a2,a3,a4,a5,rfl⟩,le,gp⟩ nj;have hx:x.2.natAbs < oK:=fi (wa (by rw [e1]; simp)) hb;simp only [jV,dN,aO,jG,eQ,kB,aw,aq,ao,tQ,ae,aa];refine ke he.is le fun Rm YG=>?_;refine dQ (xs:=m) (fun mp τ G'=>(∃ a3 a4 a5,τ=[some d,some e,some (.ref p),some (.int x.1),some (.int x.2),a3,a4,a5])/\gc G G'/\G' p=some (.fZ (bu (mU mp (pre.foldl (mU m) []) x)))) ⟨⟨_,_,_,rfl⟩,le,gp⟩ (fun pre τ G' h=>YG G' h.2.1) ?_ ?_
   ·rintro mp y mq τ G2 N3 e2 ⟨⟨b3,b4,b5,rfl⟩,OX,Lj⟩ IU;have hlen:=bN (Qc e1 e2 (pre.foldl (mU m) []) (Kv m pre)) hl;have hy:y.2.natAbs < oK:=fi (wa (by rw [e2]; simp)) hf;simp only [jV,dN,aO,jG,aq,ao,tQ,c7,bM,bG,aw,ae,aa,BX,vY,ay,dC,bq,kC,uB,eM];refine⟨LQ (vd.ref Lj),Ru (vd.ref Lj) ?_⟩;simp only [eM];refine⟨⟨hx,hy⟩,?_⟩;refine fK (α:=Int) Lj hlen ?_;refine IU _ _ ⟨⟨_,_,_,rfl⟩,OX.put hp,?_⟩;rw [aH]
    conv=>rhs; rw [mU,k7]
    rfl
   ·rintro τ G2 ⟨⟨b3,b4,b5,rfl⟩,OX,Lj⟩;refine nj _ _ ⟨⟨_,_,_,_,_,rfl⟩,OX,?_⟩;rw [Lj,k7]; rfl
  ·rintro τ G' ⟨⟨a1,a2,a3,a4,a5,rfl⟩,le,gp⟩;exact hN _ _ ⟨⟨_,_,_,_,_,rfl⟩,le,gp⟩
 ·rintro _ G' ⟨⟨a1,a2,a3,a4,a5,rfl⟩,le,gp⟩;simp only [cR,dh,bC,ay,aw,ae,aa,bq];refine gU le hp gp ?_;refine⟨_,md l m,rfl,⟨rfl,xm l m⟩,aZ (pH l m) hl,fun p2 oQ=>?_⟩;exact nW (.new oQ) oQ aH q
noncomputable def gO:lR:=fun ds G Q _=>∃ (d:D) (l:Po) (n:Nat),ds=[d,.int n]/\Pl G d l/\(n<=1000/\∀ k,k < n->l.length ^ k * l.length<=SZ/\eV l ^ k < oK)/\eV l < oK/\gw G (.fZ (bu (dB l n))) Q
noncomputable def zR:gW :=
 (cH (bM (Je (dC (.int 0)) (dC (.int 1))) (aO 2))
 (cH (eQ (DR (aw 1)) (aO 3) (bM (bC iP (ay (dh (aw 2)) (ay (dh (aw 0)) bq))) (aO 2)))
 (cR (dh (aw 2)))))
theorem KY(ds:List D)(G:Gp)(Q:DK)(h:gO ds G Q fun _ _=>False):zR (fun _ _=>False) (ends Q) (bD 4 ds) G:=by
 obtain⟨d,l,n,rfl,hd,⟨hn,hk⟩,hb,q⟩:=h;unfold zR;simp only [ends,bD,ak,br,aj,aF,bg,az,aT,c7,bM,Je,dC,aO,aq,ao];refine⟨rfl,fun p0 RH=>?_⟩;refine fX (fun τ G'=>(∃ a p,τ=[some d,some (.int n),some (.ref p),a]/\G p=none/\G' p=some (.fZ (bu (dB l n))))/\gc G G') ?_ ?_
 ·intro N hN;simp only [eQ,tJ,aw,ae,aa,ql];refine⟨by lia,by lia,?_⟩;rw [fL];refine Tz (fun pre τ G'=>(∃ a p,τ=[some d,some (.int n),some (.ref p),a]/\G p=none/\G' p=some (.fZ (bu (dB l pre.length))))/\gc G G') ⟨⟨_,p0,rfl,RH,aH⟩,.new RH⟩ (fun _ _ _ _=>trivial) ?_ ?_
  ·rintro pre x post τ G' N2 e1 ⟨⟨a,p,rfl,hp,gp⟩,le⟩ nj;obtain⟨rfl,x5⟩:=FC e1;obtain⟨h1,h2⟩:=hk pre.length x5;simp only [aO,bM,bC,ay,dh,aw,aq,ao,ae,aa,bq];refine gU le hp gp (di ?_);refine⟨_,d,dB l pre.length,l,rfl,⟨rfl,uE _ _⟩,hd,aZ (jr _ (rC l _)) h1,⟨fi (nP l _) h2,hb⟩,fun p2 oQ=>?_⟩;refine nj _ _ ⟨⟨_,p2,rfl,oQ,?_⟩,.new oQ⟩;rw [aH,aG]; rfl
  ·rintro τ G' ⟨⟨a,p,rfl,hp,gp⟩,le⟩;rw [show (gS 0 n).length=n by simp [gS]] at gp;exact hN _ _ ⟨⟨_,p,rfl,hp,gp⟩,le⟩
 ·rintro _ G' ⟨⟨a,p,rfl,hp,gp⟩,le⟩;simp only [cR,dh,aw,ae,aa];exact nW le hp gp q
end Y
end K2
end
section
namespace K2
open PySem (Str)
open Enc (enc)
namespace JB
open K2.P K2.J
noncomputable def zT:gW :=
 (cH (ja (jj (bG (H0 false) (aw 1) (dC (.int 0)))) (cR (dh (oJ (ay (iM (ay (iM (ay (aw 0) (ay (dC (.int 0)) (ay (dC (.int 0)) bq)))) (ay (iM (ay (aw 0) (ay (dC (.int 1)) (ay (dC (.int 1)) bq)))) bq))) (ay (iM (ay (iM (ay (aw 0) (ay (dC (.int 1)) (ay (dC (.int 0)) bq)))) (ay (iM (ay (aw 0) (ay (dC (.int 0)) (ay (dC (.int 1)) bq)))) bq))) bq))))) fA)
 (cR (dh (oJ (ay (iM (ay (iM (ay (aw 0) (ay (dC (.int 0)) (ay (dC (.int 0)) bq)))) (ay (iM (ay (aw 0) (ay (dC (.int 1)) (ay (dC (.int 0)) bq)))) bq))) (ay (iM (ay (iM (ay (aw 0) (ay (dC (.int 0)) (ay (dC (.int 1)) bq)))) (ay (iM (ay (aw 0) (ay (dC (.int 1)) (ay (dC (.int 1)) bq)))) bq))) bq))))))
noncomputable def wI(w:Bool):Int:=if w=true then 1 else 0
noncomputable def qk:lR:=fun ds G Q _=>∃ (n:Int) (w:Bool),ds=[.int n,.int (wI w)]/\Q (enc (js n w)) G
theorem K0(ds:List D)(G:Gp)(Q:DK)(h:qk ds G Q fun _ _=>False):zT (fun _ _=>False) (ends Q) (bD 2 ds) G:=by
 obtain⟨n,w,rfl,q⟩:=h;unfold zT;simp only [cH,ja,bD,ak,br,aj,aF,az,aT,cR,dh,oJ,ay,iM,aw,aa,dC,bq,ends,fA,eB,bG,ae];refine⟨_,_,.int _,.int _,?_⟩;simp only [ar,kD,if_false,cP];cases w with
 | false =>
  simp only [wI,ar,if_false,beq_self_eq_true,if_true];refine⟨by decide,by decide,by decide,by decide,by decide,by decide,by decide,fun p hp=>?_⟩;exact pQ (xs:=js n false) (.new hp) hp aH q
 | true =>
  simp only [wI,if_true,show ((1:Int) == 0)=false from rfl,ar,if_false];refine⟨by decide,by decide,by decide,by decide,by decide,by decide,by decide,fun p hp=>?_⟩;exact pQ (xs:=js n true) (.new hp) hp aH q
noncomputable def vo:gW :=
 (cR (dh (V3 (jj (bG (H0 false) (aw 1) (dC (.int 0)))) (aw 0) (Oe FD (aw 0)))))
noncomputable def pw(h:Int)(w:Bool):Int:=if w=true then -h else h
noncomputable def lZ:lR:=fun ds G Q _=>∃ (h:Int) (w:Bool),ds=[.int h,.int (wI w)]/\Q (.int (pw h w)) G
theorem ED(ds:List D)(G:Gp)(Q:DK)(h:lZ ds G Q fun _ _=>False):vo (fun _ _=>False) (ends Q) (bD 2 ds) G:=by
 obtain⟨n,w,rfl,q⟩:=h;unfold vo;simp only [cR,dh,V3,bD,ak,br,aj,aF,az,aT,aw,aa,ends,Oe,pG,eB,bG,ae,dC];refine⟨_,_,.int _,.int _,?_⟩;simp only [ar,kD,if_false,cP];cases w with
 | false =>
  simp only [wI,ar,if_false,beq_self_eq_true,if_true];exact di q
 | true =>
  simp only [wI,if_true,show ((1:Int) == 0)=false from rfl,ar,if_false];exact di q
theorem Vp:∀ (x y:List Int),rH (fun a b=>decide (a < b)) x y=lexLt x y
 | [],[]=>rfl
 | [],_ :: _=>rfl
 | _ :: _,[]=>rfl
 | a :: x,b :: y=>by rw [uK,Vp x y]; rfl
theorem lt3(p q:T3):lexLt p.l q.l=bo.lt p q:=(Vp _ _).symm
noncomputable def w7:gW :=
 (cR (dh (zx QQ (ay (zx t4 (ay (iR 1 [0] (pN (aw 0)) (aO 0) (some (jj (bG Ws (aw 0) (bG oP (aw 1) (aw 0))))) (iM (ay (aw 0) (ay (bG oP (aw 1) (aw 0)) bq)))) bq)) bq))))
noncomputable def jO:lR:=fun ds G Q _=>∃ (l:List (T3×T3)),ds=[.ji (bu l)]/\((l.map (·.1)).Nodup/\l.length < 64)/\Q (oq (mH (JV l))) G
theorem Hi(ds:List D)(G:Gp)(Q:DK)(h:jO ds G Q fun _ _=>False):w7 (fun _ _=>False) (ends Q) (bD 1 ds) G:=by
 obtain⟨l,rfl,⟨nd,hl⟩,q⟩:=h;unfold w7;simp only [cR,dh,zx,ay,iR,pN,aw,bD,ak,br,aj,aF,az,aT,aa,bq,ends];show _/\_;have ek:((bu l).map fun p=>p.1)=l.map fun p=>enc p.1:=by unfold bu; rw [bt]; rfl
 refine⟨Lf (by unfold bu; rw [aB,aB]; lia),?_⟩;rw [ek];refine lM (xs:=l) (f:=fun p=>enc p.1) (fun pre acc τ G'=>G=G'/\(∃ a,τ=[a,some (.ji (bu l))])/\acc=(pre.filter fun p=>bo.lt p.1 p.2).map enc) ⟨rfl,⟨_,rfl⟩,rfl⟩ (fun _ _ _ _ _=>trivial) ?_ ?_
 ·rintro pre x post acc τ G' N e ⟨rfl,⟨a,rfl⟩,rfl⟩ hN;have hx:cI l x.1=some x.2:=xP nd (by rw [e]; simp);simp only [aO,ao,iM,ay,aw,aa,bG,ae,bq,aj,aF,v3,tw,hx,sk,eB];refine⟨lJ _ _,?_⟩;show ∃ xs ys,_;refine⟨x.1.l,x.2.l,rfl,rfl,?_⟩;simp only [lt3,cP];split
  ·rename_i x5;refine⟨lJ _ _,by decide,hN _ _ _ ⟨rfl,⟨_,rfl⟩,?_⟩⟩;simp only [dI,bF,x5,if_true,uh,bw]; rfl
  ·rename_i x5;refine hN _ _ _ ⟨rfl,⟨_,rfl⟩,?_⟩;simp only [dI,bF,x5,if_false,uh,cN,ar]
 ·rintro acc τ G' ⟨rfl,⟨a,rfl⟩,rfl⟩ p hp;refine yE (IsL.ref aH) (fi (dw _ _) hl) fun p2 oQ=>?_;unfold QQ;simp only [tm (IsL.ref aH)];rw [Mu] at q;exact tM ((gc.new hp).trans (.new oQ)) q
theorem Kl{G G2:Gp}{d:D}{ds:List D}{R:List D->(Gp->Prop)->Gp->Prop}(h:itemsOf d G=some ds)(l:gc G G2)(k:∀ ok:Gp->Prop,(∀ G',gc G G'->ok G')->R ds ok G2):Qm d G2 R:=by
 cases d with
 | tup xs=>cases h; exact k _ fun _ _=>trivial
 | dR xs=>cases h; exact k _ fun _ _=>trivial
 | ref a =>
  unfold itemsOf at h;dsimp only at h;split at h
  ·rename_i xs ha;cases h;rw [IM (l _ _ ha)];exact k _ fun G' le=>le _ _ ha
  ·cases h
 | _=>cases h
noncomputable def vw:gW :=
 (cH (bM mM (aO 1))
 (cH (eQ (ni (aw 0)) (jV (dN (aO 2) (dN (aO 3) jG))) (cH (bM (aw 3) (kC (aw 1) (aw 2)))
 (bM (aw 2) (kC (aw 1) (aw 3)))))
 (cR (dh (aw 1)))))
noncomputable def jc:lR:=fun ds G Q _=>∃ (d:D) (P:Pr T3),ds=[d]/\itemsOf d G=some (P.map enc)/\P.length<=200/\gw G (.fZ (bu (Gy P))) Q
theorem NV(P:Pr T3)(p:T3×T3):Gy (P++[p])=ez (ez (Gy P) p.1 p.2) p.2 p.1:=by unfold Gy; rw [k7]; rfl
theorem EH(ds:List D)(G:Gp)(Q:DK)(h:jc ds G Q fun _ _=>False):vw (fun _ _=>False) (ends Q) (bD 4 ds) G:=by
 obtain⟨d,P,rfl,hi,hl,q⟩:=h;unfold vw;simp only [ends,bD,ak,br,aj,aF,bg,az,aT,c7,bM,mM,gw,aO,aq,ao];intro p hp;refine fX (fun τ G'=>(∃ a b,τ=[some d,some (.ref p),a,b])/\gc G G'/\G' p=some (.fZ (bu (Gy P)))) ?_ ?_
 ·intro N hN;simp only [eQ,gq,aw,aa];refine Kl hi (.new hp) fun ok cD=>?_;refine dQ (xs:=P) (fun pre τ G'=>(∃ a b,τ=[some d,some (.ref p),a,b])/\gc G G'/\G' p=some (.fZ (bu (Gy pre)))) ⟨⟨_,_,rfl⟩,.new hp,aH⟩ (fun pre τ G' h=>cD G' h.2.1) ?_ ?_
  ·rintro pre x post τ G' N2 e ⟨⟨a,b,rfl⟩,le,gp⟩ nj;have hlen:=IZ pre;have Au:pre.length < P.length:=by rw [e]; simp
   have e0:(enc x:D)=.tup [enc x.1,enc x.2]:=rfl;simp only [jV,e0,dN,aO,jG,aq,ao,c7,bM,aw,ae,aa,kC];refine K2.P.fK (k:=x.1) (v:=x.2) gp (by lia) ?_;have NB:=pZ (Gy pre) x.1 x.2;refine K2.P.fK (k:=x.2) (v:=x.1) aH (by lia) ?_;refine nj _ _ ⟨⟨_,_,rfl⟩,(le.put hp).put hp,?_⟩;rw [aH,NV]
  ·rintro τ G' ⟨⟨a,b,rfl⟩,le,gp⟩;exact hN _ _ ⟨⟨_,_,rfl⟩,le,gp⟩
 ·rintro _ G' ⟨⟨a,b,rfl⟩,le,gp⟩;simp only [cR,dh,aw,ae,aa];exact NQ le hp gp (q p hp)
noncomputable def OT(l:List (T2×T2)):Pr T3:=l.map fun p=>(⟨p.1.a,p.1.b,1⟩,⟨p.2.a,p.2.b,0⟩)
theorem TC(P:Pr T3):((Gy P).map (·.1)).Nodup:=by
 have:∀ (P:Pr T3) (l:List (T3×T3)),(l.map (·.1)).Nodup->((P.foldl (fun l p=>ez (ez l p.1 p.2) p.2 p.1) l).map (·.1)).Nodup:=by
  intro P;induction P with
  | nil=>intro l h; exact h
  | cons p P ih=>intro l h; exact ih _ (nZ (nZ h))
 exact this P [] cF
noncomputable def qY:gW :=
 (cH (bM (iR 2 [] (Bv (bC lz (ay (aw 0) bq))) (jV (dN (aO 0) (dN (aO 1) jG))) none (iM (ay (bG jy (aw 0) (iM (ay (dC (.int 1)) bq))) (ay (bG jy (aw 1) (iM (ay (dC (.int 0)) bq))) bq)))) (aO 1))
 (cR (dh (bC jO (ay (dh (bC jc (ay (aw 1) bq))) bq)))))
noncomputable def jZ:lR:=fun ds G Q _=>∃ rows:Rows,ds=[enc rows]/\rows.flatten.length<=24/\Q (oq (mH (JV (Gy (OT (lH (pairsOf rows))))))) G
theorem zD(ds:List D)(G:Gp)(Q:DK)(h:jZ ds G Q fun _ _=>False):qY (fun _ _=>False) (ends Q) (bD 2 ds) G:=by
 obtain⟨rows,rfl,hl,q⟩:=h;have l1:=z0 (pairsOf rows);have l2:=pairs_len rows;unfold qY;simp only [ends,bD,ak,br,aj,aF,bg,az,aT,c7,bM,iR,Bv,bC,ay,aw,aa,bq,aO,cR,dh,aq,ao,ae];refine⟨rows,rfl,by lia,?_⟩;generalize hn:lH (pairsOf rows)=l at q l1;have hk:(((bu l).all fun p=>jU p.1)=true):=by
  unfold bu; rw [lP,ic]; intro p _; rfl
 refine⟨hk,?_⟩;have em:((bu l).map fun p=>D.tup [p.1,p.2])=l.map fun p=>D.tup [enc p.1,enc p.2]:=by unfold bu; rw [bt]; rfl
 rw [em];refine⟨Lf (by rw [aB]; lia),?_⟩;refine lM (xs:=l) (f:=fun p=>D.tup [enc p.1,enc p.2]) (fun pre acc τ G'=>G=G'/\(∃ a b,τ=[a,b])/\acc=(OT pre).map enc) ⟨rfl,⟨_,_,rfl⟩,rfl⟩ (fun _ _ _ _ _=>trivial) ?_ ?_
 ·rintro pre x post acc τ G' N e ⟨rfl,⟨a,b,rfl⟩,rfl⟩ hN;simp only [jV,dN,aO,jG,iM,ay,bG,aw,TH,ao,aq,aa,dC,bq,aj,aF,ae,C9,az,aT];refine⟨by decide,by simp,by decide,by decide,by simp,by decide,by decide,hN _ _ _ ⟨rfl,⟨_,_,rfl⟩,?_⟩⟩;unfold OT;rw [bw,bw]; rfl
 ·rintro acc τ G' ⟨rfl,⟨a,b,rfl⟩,rfl⟩ p hp;have lt:(OT l).length<=24:=by unfold OT; rw [aB]; lia
  refine⟨.ref p,OT l,rfl,nU (IsL.ref aH),by lia,fun p2 oQ=>?_⟩;refine gU ((gc.new hp).trans (.new oQ)) ((gc.new hp).free oQ) aH ?_;have lf:=IZ (OT l);exact⟨Gy (OT l),rfl,⟨TC _,by lia⟩,di q⟩
end JB
end K2
end
section
namespace K2
open PySem (Str)
open Enc (enc)
namespace JB
open K2.P K2.J
open K2.Y (Po L ND NZ eV vO iL hX dB dZ iP gO kb Pl)
theorem Qy(l:List (T3×T3))(k:T3):((bu l).filter fun p=>!ig p.1 (enc k))=bu (BO l k):=by
 unfold bu BO;rw [List.filter_map];congr 1;refine List.filter_congr fun p _=>?_;show (!ig (enc p.1) (enc k))=_;rw [Enc.eqv]; simp
theorem Ig{G:Gp}{a:Nat}{l:List (T3×T3)}{k v:T3}{Q:DK}(h:G a=some (.fZ (bu l)))(e:cI l k=some v)(q:Q (enc v) (eL G a (.fZ (bu (BO l k))))):DB (.ref a) [enc k] G Q:=by
 refine⟨bu l,enc v,h,⟨rfl,?_,by rw [tw,e]; rfl⟩,by rw [Qy]; exact q⟩;unfold bu; rw [lP,ic]; intro p _; rfl
theorem Te{α:Type} [DecidableEq α]{f:α->α}(h:Iv f){x y e:α}(he:f e=e):jn f x y e=e:=by
 have h1:=h x;have h2:=h y;unfold jn
 grind
theorem tH{f:T3->T3}:∀ {ps:Pr T3},Ok f ps->∀ {e:T3},f e=e->gT f ps e=e:=by
 intro ps;induction ps generalizing f with
 | nil=>intro o e h; exact h
 | cons p ps ih=>intro o e h; exact ih o.tl (Te o.iv h)
theorem sub_len'{α:Type} [DecidableEq α]:∀ (xs ys:List α),xs.Nodup->(∀ x∈xs,x∈ys)->xs.length<=ys.length
 | [],_,_,_=>cE _
 | x :: xs,ys,hn,h=>by
  rw [aN] at hn;have:=sub_len' xs (ys.erase x) hn.2 fun y hy=>(O5 (show y≠x from fun z=>hn.1 (by rw [<-z]; exact hy))).mpr (h y (aK _ hy));have hx:=h x (by simp);rw [Ju hx] at this;have:=LB hx;rw [aj]; lia
theorem Jb{l:List (T3×T3)}{f:T3->T3}(h:Jo l f){E:List T3}(hE:∀ e,f e≠e->e∈E):l.length<=E.length:=by
 have:=sub_len' (l.map fun p:T3×T3=>p.1) E h.nd fun e he=>by
  obtain⟨p,hp,rfl⟩:=List.mem_map.mp he;exact hE _ (h.mem hp).2
 simpa using this
theorem Jc(l:List (T3×T3))(k:T3):(BO l k).length<=l.length:=dw _ _
theorem Et(f:T3->T3)(ps:Pr T3)(x:T3×T3):cls f (ps++[x])=cls f ps+cl (gT f ps) x.1 x.2:=by rw [nX]; rfl
theorem DN(f:T3->T3)(ps:Pr T3)(x:T3×T3):gT f (ps++[x])=jn (gT f ps) x.1 x.2:=by rw [nT]; rfl
noncomputable def pE:gW :=
 (cH (bM (bC jc (ay (aw 0) bq)) (aO 2))
 (cH (bM (dC (.int 0)) (aO 3))
 (cH (eQ (ni (aw 1)) (jV (dN (aO 4) (dN (aO 5) jG))) (cH (bM (BX Ph DB (aw 2) (ay (aw 4) bq)) (aO 6))
 (cH (bM (BX Ph DB (aw 2) (ay (aw 5) bq)) (aO 7))
 (ja (jj (bG (H0 false) (aw 6) (aw 5))) (bM (bG jy (aw 3) (dC (.int 1))) (aO 3)) (cH (bM (aw 7) (kC (aw 2) (aw 6)))
 (bM (aw 6) (kC (aw 2) (aw 7))))))))
 (cR (dh (iM (ay (bC jO (ay (dh (aw 2)) bq)) (ay (aw 3) bq))))))))
noncomputable def ju:lR:=fun ds G Q _=>∃ (P ps:Pr T3),ds=[oq (mH P),enc ps]/\((es P).Nodup/\P.length<=24/\Ok (pt P) ps)/\∀ P':Pr T3,(es P').Nodup->pt P'=gT (pt P) ps->Q (.tup [oq (mH P'),.int (cls (pt P) ps)]) G
theorem yL(ds:List D)(G:Gp)(Q:DK)(h:ju ds G Q fun _ _=>False):pE (fun _ _=>False) (ends Q) (bD 8 ds) G:=by
 obtain⟨P,ps,rfl,⟨nd,hl,ok⟩,q⟩:=h;unfold pE;simp only [↓c7,bM,bC,ay,aw,bD,↓ak,↓Mu,↓br,↓aj,↓aF,bg,↓az,↓aT,↓aa,bq,aO,dC,ends,↓aq,↓ao];refine⟨.tup (P.map enc),P,rfl,rfl,by lia,fun p hp=>?_⟩;simp only [↓dh,↓bD,↓ends,↓eB,↓bG,↓Oe,↓aw,↓zx,↓BX,↓ay,↓bq,↓cR,↓V1,↓rj,↓bM,↓aO,↓dC,↓fA,↓iM,↓oJ,↓mM,↓BY,↓Zm,↓QE,↓tT,↓En,↓QD,↓El,↓KI,↓pX,↓jC,↓gq,↓tJ,↓bC,↓iR,↓eM,↓C9,↓xj,↓xi,↓pF,↓jx,↓lF,↓JP,↓pG,↓HX,↓Pz,↓PD,↓PF,↓kc,↓xg,↓HU,↓HV,↓HW,↓Ey,↓Ow,↓KL,↓pL,↓vC,↓DC,↓vQ,↓vX,↓vY,↓Pg,↓Pf,↓true_and,↓and_true,↓IK,↓IJ,↓jR,↓cP,↓ql,↓DQ,↓Qk,↓Nl,↓ak,↓br,↓az,↓aT,↓aa,↓ae,↓ao,↓aq,↓aj,↓aF,↓bg,↓if_true,↓if_false,↓bQ,↓fF,↓ar,↓c7,↓Mb,↓kC,↓kB,↓pN,↓Mn,↓uB,↓Je,↓jV,↓dN,↓jG];refine fX (fun τ G'=>∃ (l:List (T3×T3)) (a1 a2 a3 a4:Option D),τ=[some (.tup (P.map enc)),some (enc ps),some (.ref p),some (.int (cls (pt P) ps)),a1,a2,a3,a4]/\gc G G'/\G' p=some (.fZ (bu l))/\Jo l (gT (pt P) ps)) ?_ ?_
 ·intro N hN;simp only [eQ,↓gq,aw,↓ae,↓aa];refine i4 ?_;refine dQ (xs:=ps) (fun pre τ G'=>∃ (l:List (T3×T3)) (a1 a2 a3 a4:Option D),τ=[some (.tup (P.map enc)),some (enc ps),some (.ref p),some (.int (cls (pt P) pre)),a1,a2,a3,a4]/\gc G G'/\G' p=some (.fZ (bu l))/\Jo l (gT (pt P) pre)) ⟨Gy P,_,_,_,_,rfl,.new hp,aH,I0 nd⟩ (fun _ _ _ _=>trivial) ?_ ?_
  ·rintro pre x post τ G' N2 e ⟨l,a1,a2,a3,a4,rfl,le,gp,fa⟩ nj;have Vd:Ok (pt P) (pre++x :: post):=by rw [<-e]; exact ok
   have Rm:=Vd.left;obtain⟨n1,n2,n3⟩:=Rm.hd;obtain⟨f1,f2,f3,f4⟩:=fa.join Rm.iv n1 n2 n3;have ll:l.length<=(es P).length:=Jb fa fun e he=>(uD nd).mp fun z=>he (tH Vd.pre z);rw [GG] at ll;have e0:(enc x:D)=.tup [enc x.1,enc x.2]:=rfl;rw [e0];simp only [jV,dN,jG,aO,ao,aq];simp only [↓c7,bM,BX,aw,↓ae,↓aa,↓vY,↓gp,ay,bq,aO,↓aq,↓ao,↓true_and];refine Ig gp f1 ?_;simp only [↓aH,↓true_and];refine Ig aH f2 ?_;simp only [ja,↓eB,bG,aw,↓ae,↓aa,bM,dC,↓eM,aO,↓aq,↓ao,↓c7,kC];refine⟨_,_,Enc.sn _ _ _ (by decide),Enc.sn _ _ _ (by decide),?_⟩;simp only [↓cP,↓ar,↓Enc.eqv,↓if_false];by_cases c:gT (pt P) pre x.1=x.2
   ·simp only [↓c,↓decide_true,↓if_true];refine nj _ _ ?_;have ec:((cls (pt P) pre+1:Nat):Int)=(cls (pt P) pre:Int)+1:=Int.natCast_add _ _;rw [Et,DN,cl,if_pos c,ec];exact⟨_,_,_,_,_,rfl,(le.put hp).put hp,aH,f3 c⟩
   ·simp only [↓c,↓decide_false,↓ar,↓if_false];have d1:=Jc l x.1;have d2:=Jc (BO l x.1) x.2;refine K2.P.fK (k:=gT (pt P) pre x.1) (v:=gT (pt P) pre x.2) aH (by lia) ?_;have d3:=pZ (BO (BO l x.1) x.2) (gT (pt P) pre x.1) (gT (pt P) pre x.2);refine K2.P.fK (k:=gT (pt P) pre x.2) (v:=gT (pt P) pre x.1) aH (by lia) ?_;refine nj _ _ ?_;rw [Et,DN,cl,if_neg c,oN];exact⟨_,_,_,_,_,rfl,(((le.put hp).put hp).put hp).put hp,aH,f4 c⟩
  ·rintro τ G' ⟨l,a1,a2,a3,a4,rfl,le,gp,fa⟩;exact hN _ _ ⟨l,_,_,_,_,rfl,le,gp,fa⟩
 ·rintro _ G' ⟨l,a1,a2,a3,a4,rfl,le,gp,fa⟩;have iv:Iv (gT (pt P) ps):=Nf ok;have ll:l.length<=(es P).length:=Jb fa fun e he=>(uD nd).mp fun z=>he (tH ok z);rw [GG] at ll;obtain⟨h1,h2⟩:=Ih fa iv;simp only [cR,dh,iM,ay,bC,aw,↓ae,↓aa,bq,↓aj,↓aF];refine gU le hp gp ?_;refine⟨l,rfl,⟨fa.nd,by lia⟩,by decide,di (q _ h1 h2)⟩
end JB
end K2
end
section
namespace K2
open PySem (Str)
open Enc (enc)
namespace JB
open K2.P K2.J
open K2.Y (Po L ND NZ eV vO iL hX dB dZ iP gO kb Pl)
noncomputable def Wd(ns:List Int)(k:PK):Prop:=∃ P,k=mH P/\(es P).Nodup/\∀ e,pt P e≠e↔∃ n∈ns,e∈jL n
structure QY(S:Su)(ns:List Int):Prop where
 Lg:K1 S
 pl:∀ p∈S,Wd ns p.1
noncomputable def B7(ns:List Int):List T3:=ns.flatMap jL
theorem EC(ns:List Int):(B7 ns).length=4 * ns.length:=by
 induction ns with
 | nil=>rfl
 | cons n ns ih=>unfold B7 at *; rw [eT,aG,ih,aj]; show 4+_=_; lia
theorem SM{ns:List Int}{P:Pr T3}(nd:(es P).Nodup)(h:∀ e,pt P e≠e↔∃ n∈ns,e∈jL n):P.length<=2 * ns.length:=by
 have:=sub_len' (es P) (B7 ns) nd fun e he=>by
  obtain⟨n,h1,h2⟩:=(h e).mp ((uD nd).mpr he);exact List.mem_flatMap.mpr ⟨n,h1,h2⟩
 rw [GG,EC] at this; lia
theorem UY{ns:List Int}{P:Pr T3}(nd:(es P).Nodup)(hn:ns.Nodup)(h:∀ e,pt P e≠e↔∃ n∈ns,e∈jL n):Dm (pt P) ns:=⟨Mr nd,hn,fun n YM e he=>(h e).mpr ⟨n,YM,he⟩⟩
theorem Td{f:T3->T3}:∀ {ps:Pr T3},Ok f ps->∀ {e:T3},e∈es ps->gT f ps e=e:=by
 intro ps;induction ps generalizing f with
 | nil=>intro o e h; cases h
 | cons p ps ih =>
  intro o e h;rw [es,aY,aY] at h;rcases h with rfl | rfl | h
  ·exact tH o.tl Yh
  ·exact tH o.tl Yg
  ·exact ih o.tl h
theorem PO{n:Int}{ns:List Int}{f:T3->T3}(d:Dm f (n :: ns))(h:∀ e,f e≠e↔∃ m∈n :: ns,e∈jL m)(w:Bool):∀ e,gT f (js n w) e≠e↔∃ m∈ns,e∈jL m:=by
 have ok:=d.ok w;have nn:=(List.nodup_cons.mp d.nd).1;intro e;constructor
 ·intro z;have h1:f e≠e:=fun y=>z (tH ok y);obtain⟨m,hm,he⟩:=(h e).mp h1;rcases List.mem_cons.mp hm with rfl | hm
  ·exact absurd (Td ok ((jA m w).mem_iff.mpr he)) z
  ·exact⟨m,hm,he⟩
 ·rintro⟨m,hm,he⟩ z;rcases IE ok z with z | z
  ·have h1:=qz ((jA n w).mem_iff.mp z);have h2:=qz he;exact nn (by rw [<-h1,h2]; exact hm)
  ·exact(h e).mpr ⟨m,aK _ hm,he⟩ z
theorem RR{α:Type} [DecidableEq α](f:α->α)(x y:α):cl f x y<=1:=by unfold cl; split <;> decide
theorem Oo(f:T3->T3)(n:Int)(w:Bool):cls f (js n w)<=2:=by
 cases w <;> (show _+(_+0)<=2; have:=RR f; have a:=fun f x y=>RR (α:=T3) f x y; have h1:=a f; have h2:=a; grind)
theorem RW:ND LP:=by unfold ND LP; decide
theorem OJ:eV LP=2:=rfl
theorem jX{n:Nat}(h:n<=2 ^ 30):n < oK:=fi h (by unfold oK; exact Nat.pow_lt_pow_right (by decide) (by decide))
theorem C5{c:Nat}(h:c<=3):c<=1000/\∀ k,k < c->LP.length ^ k * LP.length<=SZ/\eV LP ^ k < oK:=by
 refine⟨by lia,fun k hk=>?_⟩;have:k=0\/k=1\/k=2:=by lia
 rcases this with rfl | rfl | rfl
 ·exact⟨by decide,jX (by decide)⟩
 ·exact⟨by decide,jX (by decide)⟩
 ·exact⟨by decide,jX (by decide)⟩
theorem FG{c:Nat}(h:c<=3):eV (dB LP c)<=8:=aZ (Y.nP LP c) (show 2 ^ c<=2 ^ 3 from jq (by decide) h)
theorem PN{c:Nat}(h:c<=2):(dB LP c).length<=4:=aZ (Y.rC LP c) (show 2 ^ c<=2 ^ 2 from jq (by decide) h)
theorem JA{l:Po}{G:Gp}{Q:Bool->Gp->Prop}(h:Q (!l.isEmpty) G):o9 (.ji (bu l)) G Q:=by
 unfold o9 EV;dsimp only;have k:((bu l).all fun p=>ef p.1)=true:=by unfold bu; rw [lP,ic]; intro p _; rfl
 rw [if_pos k];have:(bu l).isEmpty=l.isEmpty:=by cases l <;> rfl
 rw [this]; exact h
theorem MU{G:Gp}{a:Nat}{A:Su}{k:PK}{Q:DK}(h:G a=some (.qP (g6 A)))(q:Q (.ji (bu ((cI A k).getD []))) G):DD (.ref a) [oq k,.ji []] G Q:=by
 refine⟨_,k,h,rfl,?_⟩;rw [Ag];cases e:cI A k with
 | none=>rw [e] at q; exact q
 | some l=>rw [e] at q; exact q
theorem zN{G:Gp}{a:Nat}{A:Su}{k:PK}{l:Po}{Q:Gp->Prop}(h:G a=some (.qP (g6 A)))(hz:A.length < SZ)(q:Q (eL G a (.qP (g6 (ez A k l))))):Fx (.ref a) (oq k) (.ji (bu l)) G Q:=by
 refine⟨_,k,h,rfl,by unfold g6; rw [aB]; exact hz,?_⟩;rw [Mp]; exact q
theorem Gm{G G1:Gp}{p:Nat}{A:Su}{Q:DK}(l:gc G G1)(hp:G p=none)(h1:G1 p=some (.qP (g6 A)))(q:Q (.ny (g6 A)) G):EL G1 (.ref p) Q :=
 ⟨fun a=>(G a).isNone,.ny (g6 A),.qP h1 (by simp [hp]) (.same _) rfl,by rw [tS l]; exact q⟩
noncomputable def term(h n:Int)(rest:List (Int×Int))(g:Fn)(f:T3->T3)(l:Po)(w:Bool):Int:=L (fun j=>Br (gT f (js n w)) rest (gK (cls f (js n w)) (sh (pw h w) (sh j g)))) l
theorem JC(h n:Int)(rest:List (Int×Int))(g:Fn)(f:T3->T3)(l:Po):term h n rest g f l false+term h n rest g f l true=L (fun j=>Br f ((n,h) :: rest) (sh j g)) l:=by
 unfold term;rw [<-Y.RV]; rfl
noncomputable def wO(h n:Int)(rest:List (Int×Int))(g:Fn)(f:T3->T3)(l:Po):List Bool->Int
 | []=>0
 | w :: ws=>term h n rest g f l w+wO h n rest g f l ws
theorem Fq(h n:Int)(rest:List (Int×Int))(g:Fn)(f:T3->T3)(l:Po)(ws:List Bool)(w:Bool):wO h n rest g f l (ws++[w])=wO h n rest g f l ws+term h n rest g f l w:=by
 induction ws with
 | nil=>simp [wO]
 | cons v ws ih=>rw [az,wO,wO,ih]; lia
structure Lp(n h:Int)(rest:List (Int×Int))(pre:Su)(f:T3->T3)(l:Po)(ws:List Bool)(A:Su):Prop where
 ok:QY A (rest.map (·.1))
 len:A.length<=2 * pre.length+ws.length
 eV:gC A<=8 * gC pre+ws.length * (4 * eV l)
 val:∀ g,mG rest g A=mG ((n,h) :: rest) g pre+wO h n rest g f l ws
theorem Lp.step{n h:Int}{rest:List (Int×Int)}{pre:Su}{f:T3->T3}{l:Po}{ws:List Bool}{A:Su}(a:Lp n h rest pre f l ws A){P':Pr T3}{w:Bool}(nd:(es P').Nodup)(e:pt P'=gT f (js n w))(hp:∀ e,gT f (js n w) e≠e↔∃ m∈rest.map (·.1),e∈jL m) :
  Lp n h rest pre f l (ws++[w]) (qV A (mH P') l (cls f (js n w)) (pw h w)):=by
 refine⟨⟨L0 a.ok.Lg _ _ _ _,fun p uj=>?_⟩,?_,?_,fun g=>?_⟩
 ·unfold qV ez at uj;have here:Wd (rest.map (·.1)) (mH P'):=⟨P',rfl,nd,fun e'=>by rw [e]; exact hp e'⟩;split at uj
  ·obtain⟨q,hq,rfl⟩:=List.mem_map.mp uj;have:=a.ok.pl q hq;split <;> exact this
  ·rcases List.mem_append.mp uj with uj | uj
   ·exact a.ok.pl p uj
   ·rw [cC] at uj; subst uj; exact here
 ·have h1:=a.len;have h2:(qV A (mH P') l (cls f (js n w)) (pw h w)).length<=A.length+1:=by unfold qV ez; split <;> simp
  rw [aG,dq]; lia
 ·have h1:=a.eV;have h2:=LZ a.ok.Lg (mH P') l (Oo f n w) (pw h w);rw [aG,dq,Nat.add_mul,Nat.one_mul]; lia
 ·rw [LY a.ok.Lg,a.val,Fq,GL,e];unfold term;lia
end JB
end K2
end
section
namespace K2
open PySem (Str)
open Enc (enc)
namespace JB
open K2.P K2.J
open K2.Y (Po L ND NZ eV vO iL hX dB dZ iP gO kb Pl)
theorem Lp.zero{n h:Int}{rest:List (Int×Int)}{f:T3->T3}{l:Po}:Lp n h rest [] f l [] [] :=
 ⟨⟨⟨cF,fun p hp=>by cases hp⟩,fun p hp=>by cases hp⟩,aE _,cE _,fun g=>rfl⟩
theorem Lp.next{n h:Int}{rest:List (Int×Int)}{pre:Su}{x:PK×Po}{l':Po}{f':T3->T3}{A:Su}(a:Lp n h rest pre (pt (dec x.1)) x.2 [false,true] A):Lp n h rest (pre++[x]) f' l' [] A:=by
 refine⟨a.ok,?_,?_,fun g=>?_⟩
 ·have:=a.len;rw [aG,dq]; simp at this ⊢; lia
 ·have:=a.eV;rw [xJ];simp only [aj,aF,gC] at this ⊢; lia
 ·rw [a.val,HC];show _+(term h n rest g _ x.2 false+(term h n rest g _ x.2 true+0))=_+(L _ x.2+0)+0;have:=JC h n rest g (pt (dec x.1)) x.2;lia
theorem ML{S pre post:Su}{x:PK×Po}(e:S=pre++x :: post):gC pre+eV x.2<=gC S:=by
 rw [e,xJ,gC]; lia
theorem An(S:Su)(p:PK×Po):iQ (S++[p])=if p.2.isEmpty=true then iQ S else iQ S++[p]:=by
 unfold iQ;rw [dI];by_cases h:p.2.isEmpty=true
 ·rw [if_pos h,qU (by simp [h])]; simp
 ·rw [if_neg h,K6 (by simp [h])]; simp
theorem M9{S pre post:Su}{x:PK×Po}(nd:(S.map (·.1)).Nodup)(e:S=pre++x :: post):x.1∉(iQ pre).map (·.1):=by
 intro z;obtain⟨q,hq,e2⟩:=List.mem_map.mp z;have RG:=(List.mem_filter.mp hq).1;rw [e,bw,ak,eS] at nd;exact nd.2.2 _ (bI RG) _ cc e2
noncomputable def sS:gW :=
 (cH (bM Oj (aO 3))
 (cH (GS 3 (eQ (tK (aw 0)) (jV (dN (aO 4) (dN (aO 5) jG))) (eQ (ni (iM (ay (dC (.int 0)) (ay (dC (.int 1)) bq)))) (aO 6) (cH (bM (bC ju (ay (aw 4) (ay (bC qk (ay (aw 1) (ay (aw 6) bq))) bq))) (aO 7))
 (cH (bM (bC dZ (ay (dh (bC iP (ay (dh (aw 5)) (ay (dh (bC gO (ay (dh (Em [(2,-1),(-2,-1)])) (ay (dh (bG oP (aw 7) (dC (.int 1)))) bq)))) bq)))) (ay (dh (bC lZ (ay (aw 2) (ay (aw 6) bq)))) (ay (dh (dC (.int 1))) bq)))) (aO 8))
 (bM (dh (bC kb (ay (dh (BX tyP DD (aw 3) (ay (dh (bG oP (aw 7) (dC (.int 0)))) (ay (dh mM) bq)))) (ay (dh (aw 8)) bq)))) (DW (aw 3) (bG oP (aw 7) (dC (.int 0))))))))))
 (cH (bM Oj (aO 9))
 (cH (GS 3 (eQ (tK (aw 3)) (jV (dN (aO 4) (dN (aO 5) jG))) (ja (jj (aw 5)) (bM (dh (aw 5)) (DW (aw 9) (aw 4))) fA)))
 (cR (dh (aw 9)))))))
noncomputable def kN:lR:=fun ds G Q _=>∃ (S:Su) (n h:Int) (rest:List (Int×Int)),ds=[.ny (g6 S),.int n,.int h]/\(QY S (n :: rest.map (·.1))/\(n :: rest.map (·.1)).Nodup/\rest.length<=11/\S.length<=1048576/\gC S<=1048576) /\
 ∀ S':Su,QY S' (rest.map (·.1))->S'.length<=gC S'->gC S'<=8 * gC S->(∀ g,mG rest g S'=mG ((n,h) :: rest) g S)->Q (.ny (g6 S')) G
theorem Cb(ds:List D)(G:Gp)(Q:DK)(h:kN ds G Q fun _ _=>False):sS (fun _ _=>False) (ends Q) (bD 10 ds) G:=by
 obtain⟨S,n,h,rest,rfl,⟨so,nn,hr,hSl,hSn⟩,q⟩:=h;unfold sS;simp only [↓c7,bM,Oj,gw,aO,ends,bD,↓ak,↓br,↓aj,↓aF,bg,↓az,↓aT,↓aq,↓ao];intro p hp;refine fX (fun τ G'=>∃ (A:Su) (a1 a2 a3 a4 a5 a6:Option D),G=G'/\τ=[some (.ny (g6 S)),some (.int n),some (.int h),some (.ny (g6 A)),a1,a2,a3,a4,a5,a6]/\Lp n h rest S (fun e=>e) [] [] A) ?_ ?_
 ·intro N hN;simp only [GS];simp only [eQ,tK,aw,↓aa];show oz _ _ _ ((g6 S).map _) _ _ _ _;have em:((g6 S).map fun p=>D.tup [oq p.1,p.2])=S.map fun p=>D.tup [oq p.1,.ji (bu p.2)]:=by unfold g6; rw [bt]; rfl
  rw [em];refine dQ (xs:=S) (f:=fun p=>D.tup [oq p.1,.ji (bu p.2)]) (fun pre τ G'=>∃ (A:Su) (a1 a2 a3 a4 a5 a6:Option D),gc G G'/\G' p=some (.qP (g6 A))/\τ=[some (.ny (g6 S)),some (.int n),some (.int h),some (.ref p),a1,a2,a3,a4,a5,a6]/\Lp n h rest pre (fun e=>e) [] [] A)
   ⟨[],_,_,_,_,_,_,.new hp,aH,rfl,.zero⟩ (fun _ _ _ _=>trivial) ?_ ?_
  ·rintro pre x post τ G' N2 e ⟨A,a1,a2,a3,a4,a5,a6,le,gp,rfl,af⟩ nj;obtain⟨P,ek,nd,pl⟩:=so.pl x (by rw [e]; simp);have dm:=UY nd nn pl;have pll:=SM nd pl;have hx:=so.Lg.2 x (by rw [e]; simp);have hnx:=ML e;have hlx:=xH hx.2;have Km:pre.length < S.length:=by rw [e]; simp
   have ed:dec x.1=P:=by rw [ek,GL]
   simp only [jV,dN,jG,aO,ao,aq];simp only [eQ,↓gq,iM,ay,dC,bq,↓aj,↓aF,↓IJ];refine⟨by decide,?_⟩;refine dQ (xs:=[false,true]) (f:=fun w=>D.int (wI w)) (fun ws τ G'=>∃ (A:Su) (a3 a4 a5 a6:Option D),gc G G'/\G' p=some (.qP (g6 A))/\τ=[some (.ny (g6 S)),some (.int n),some (.int h),some (.ref p),some (oq x.1),some (.ji (bu x.2)),a3,a4,a5,a6]/\Lp n h rest pre (pt P) x.2 ws A)
    ⟨A,_,_,_,_,le,gp,rfl,⟨af.ok,af.len,by have:=af.eV; simp only [aF,Nat.zero_mul] at this ⊢; exact this,af.val⟩⟩ (fun _ _ _ _=>trivial) ?_ ?_
   ·rintro ws w wt τ G2 N3 ew ⟨B,b3,b4,b5,b6,OX,Lj,rfl,bf⟩ IU;have UJ:ws.length<=1:=by
     have:=congrArg dU ew;simp at this; lia
    have hc:=Oo (pt P) n w;have bl:=bf.len;have bn:=bf.eV;have bn2:gC B<=8388608:=by
     have:ws.length * (4 * eV x.2)<=1 * (4 * eV x.2):=jr _ UJ;lia
    simp only [aO,↓c7,bM,bC,ay,aw,↓aq,ek,↓ao,↓ae,↓aa,bq,dh,bG,dC,BX,mM];refine⟨n,w,rfl,?_⟩;refine⟨P,js n w,rfl,⟨nd,by simp only [aj,aB] at pll; lia,dm.ok w⟩,fun P' nd' ep=>?_⟩;have p0:Lp n h rest pre (pt P) x.2 (ws++[w]) (qV B (mH P') x.2 (cls (pt P) (js n w)) (pw h w)):=bf.step nd' ep (PO dm pl w);simp only [↓kc,TX,Uq];generalize ec:cls (pt P) (js n w)=c at hc p0;have hx1:=hx.1;have l1:(dB LP c).length<=4:=PN hc;have l2:x.2.length * (dB LP c).length<=1048576 * 4:=Nat.mul_le_mul (by lia) l1;have l3:=Y.xl x.2 (dB LP c);have l4:eV x.2 * eV (dB LP c)<=1048576 * 8:=Nat.mul_le_mul (by lia) (FG (by lia));have l5:=Y.rF x.2 (dB LP c);have l6:(PJ x.2 c (pw h w)).length<=(iL x.2 (dB LP c)).length:=aZ (Y.qo _) (by rw [aB]; exact aE _);have l7:=xH (bf.ok.Lg.get (mH P')).2;have l8:=Ir B (mH P');refine di ?_;unfold Em;intro p5 f5;refine gU (.new f5) f5 aH (di ?_);refine⟨_,LP,c,rfl,⟨rfl,RW⟩,C5 (by lia),by rw [OJ]; exact jX (by decide),fun p6 f6=>?_⟩;refine gU (.new f6) f6 aH ?_;refine⟨_,_,x.2,dB LP c,rfl,⟨rfl,hx1⟩,⟨rfl,Y.uE _ _⟩,aZ l2 (by decide),⟨jX (by lia),jX (aZ (FG (by lia)) (by decide))⟩,fun p7 f7=>?_⟩;refine gU (.new f7) f7 aH ?_;refine⟨h,w,rfl,di (di ?_)⟩;refine⟨_,iL x.2 (dB LP c),pw h w,1,rfl,⟨rfl,Y.uC _ _⟩,aZ (aZ l3 l2) (by decide),⟨jX (aZ (aZ l5 l4) (by decide)),jX (by decide)⟩,fun p8 f8=>?_⟩;have h8:p≠p8:=by rintro rfl; rw [Lj] at f8; cases f8
    refine⟨by unfold tyP; simp only [dP h8,Lj],di ?_⟩;intro p9 f9;refine gU (.new f9) f9 aH ?_;refine MU (by rw [dP h8]; exact Lj) (di ?_);refine gU (.new f8) f8 aH ?_;refine⟨_,_,(cI B (mH P')).getD [],PJ x.2 c (pw h w),rfl,⟨rfl,(bf.ok.Lg.get _).1⟩,⟨rfl,Y.zW (Y.uC _ _) _ _⟩,?_,fun p10 WO=>?_⟩
    ·show _<=16777216;lia
    refine gU (.new WO) WO aH ?_;unfold DW;simp only [aw,↓ae,↓aa,bG,dC,↓kc,Uq];refine zN Lj (show _ < 16777216 by lia) ?_;rw [<-ek];exact IU _ _ ⟨_,_,_,_,_,OX.put hp,aH,rfl,p0⟩
   ·rintro τ G2 ⟨B,b3,b4,b5,b6,OX,Lj,rfl,bf⟩;refine nj _ _ ⟨B,_,_,_,_,_,_,OX,Lj,rfl,?_⟩;rw [<-ed] at bf;exact bf.next
  ·rintro τ G' ⟨A,a1,a2,a3,a4,a5,a6,le,gp,rfl,af⟩;simp only [↓ae,↓aa,↓aq,↓ao];refine Gm le hp gp ?_;exact hN _ _ ⟨A,_,_,_,_,_,_,rfl,rfl,af⟩
 ·rintro _ G' ⟨A,a1,a2,a3,a4,a5,a6,rfl,rfl,af⟩;simp only [↓c7,bM,Oj,gw,aO,↓aq,↓ao];intro p2 oQ;have al:=af.len;have an:=af.eV;simp only [aF,Nat.zero_mul,oN] at al an;refine fX (fun τ G'=>∃ (a1 a2 a3 a4 a5:Option D),τ=[some (.ny (g6 S)),some (.int n),some (.int h),some (.ny (g6 A)),a1,a2,a3,a4,a5,some (.ref p2)]/\gc G G'/\G' p2=some (.qP (g6 (iQ A)))) ?_ ?_
  ·intro N hN;simp only [GS];simp only [eQ,tK,aw,↓ae,↓aa];show oz _ _ _ ((g6 A).map _) _ _ _ _;have em:((g6 A).map fun p=>D.tup [oq p.1,p.2])=A.map fun p=>D.tup [oq p.1,.ji (bu p.2)]:=by unfold g6; rw [bt]; rfl
   rw [em];refine dQ (xs:=A) (f:=fun p=>D.tup [oq p.1,.ji (bu p.2)]) (fun pre τ G'=>∃ (a1 a2 a3 a4 a5:Option D),τ=[some (.ny (g6 S)),some (.int n),some (.int h),some (.ny (g6 A)),a1,a2,a3,a4,a5,some (.ref p2)]/\gc G G'/\G' p2=some (.qP (g6 (iQ pre))))
    ⟨_,_,_,_,_,rfl,.new oQ,aH⟩ (fun _ _ _ _=>trivial) ?_ ?_
   ·rintro pre x post τ G' N2 e ⟨b1,b2,b3,b4,b5,rfl,le,gp⟩ nj;simp only [jV,dN,jG,aO,ao,aq];simp only [ja,↓eB,aw,↓ae,↓aa,bM,dh,fA];refine JA ?_;have Km:pre.length < A.length:=by rw [e]; simp
    have hkl:(iQ pre).length<=pre.length:=dw _ _;by_cases c:x.2.isEmpty=true
    ·simp only [c,bQ,ar,if_false,fA];refine nj _ _ ⟨_,_,_,_,_,rfl,le,?_⟩;rw [An,if_pos c]; exact gp
    ·have c':x.2.isEmpty=false:=by simpa using c
     simp only [c',fF,if_true];refine di ?_;unfold DW;simp only [aw,↓ae,↓aa];refine zN gp (show _ < 16777216 by lia) ?_;refine nj _ _ ⟨_,_,_,_,_,rfl,le.put oQ,?_⟩;rw [aH,An,if_neg c,Y.kl (M9 af.ok.Lg.1 e)]
   ·rintro τ G' ⟨b1,b2,b3,b4,b5,rfl,le,gp⟩;simp only [↓ae,↓aa,↓aq,↓ao];exact di (hN _ _ ⟨_,_,_,_,_,rfl,le,gp⟩)
  ·rintro _ G' ⟨b1,b2,b3,b4,b5,rfl,le,gp⟩;simp only [cR,dh,aw,↓ae,↓aa];refine Gm le oQ gp ?_;refine q (iQ A) ⟨DL af.ok.Lg,fun p uj=>af.ok.pl p (List.mem_filter.mp uj).1⟩ ?_ ?_ fun g=>?_
   ·have:iQ (iQ A)=iQ A:=by unfold iQ; rw [List.filter_filter]; simp
    have h2:=Na (DL af.ok.Lg);rw [this] at h2; exact h2
   ·exact aZ (M8 A) an
   ·rw [M7,af.val];show _+0=_;lia
end JB
end K2
end
section
namespace K2
open PySem (Str)
open Enc (enc)
namespace JB
open K2.P K2.J
open K2.Y (Po L ND NZ eV vO iL hX dB dZ iP gO kb Pl)
variable {rows:Rows}
noncomputable def eO(s:T2):T3:=⟨s.a,s.b,1⟩
noncomputable def eI(s:T2):T3:=⟨s.a,s.b,0⟩
noncomputable def Le(ps:List (T3×T3)):Pr T3:=ps.map fun p=>(eO p.1.s,eI p.2.s)
noncomputable def HF(rows:Rows):Pr T3:=Le (pairsOf rows)
noncomputable def fr(rows:Rows):T3->T3:=pt (HF rows)
noncomputable def lo(rows:Rows):Nat:=(rows.filter fun r=>r.isEmpty).length
noncomputable def nh(rows:Rows):List (Int×Int):=(names rows).map fun n=>(n,handOf rows n)
theorem Ec:∀ (P:Pr T3),(es P).Perm (P.map (·.1)++P.map (·.2))
 | []=>.refl _
 | p :: P=>by
  rw [es,ak,ak,az];refine AZ _ ?_;exact((Ec P).cons p.2).trans List.perm_middle.symm
theorem Q9{ps:List (T3×T3)}(h1:(ps.map fun p=>p.1.s).Nodup)(h2:(ps.map fun p=>p.2.s).Nodup):(es (Le ps)).Nodup:=by
 refine(Ec _).nodup_iff.mpr (List.nodup_append.mpr ⟨?_,?_,?_⟩)
 ·have:(Le ps).map (·.1)=(ps.map fun p=>p.1.s).map eO:=by unfold Le; rw [bt,bt]; rfl
  rw [this];refine qr h1 fun i _ j _ e=>?_;injection e with e1 e2
  cases i; cases j; simp only at e1 e2; rw [e1,e2]
 ·have:(Le ps).map (·.2)=(ps.map fun p=>p.2.s).map eI:=by unfold Le; rw [bt,bt]; rfl
  rw [this];refine qr h2 fun i _ j _ e=>?_;injection e with e1 e2
  cases i; cases j; simp only at e1 e2; rw [e1,e2]
 ·intro a ha b hb e;obtain⟨p,hp,rfl⟩:=List.mem_map.mp ha;obtain⟨q,hq,rfl⟩:=List.mem_map.mp hb;obtain⟨p',_,rfl⟩:=List.mem_map.mp hp;obtain⟨q',_,rfl⟩:=List.mem_map.mp hq;injection e with _ _ e3
  cases e3
theorem Fp(d:Dr rows):(es (HF rows)).Nodup:=Q9 (NR d) (Sr d)
theorem Se(d:Dr rows):OT (lH (pairsOf rows))=HF rows:=by
 rw [MR d];unfold OT HF Le;rw [bt]; rfl
theorem Sf(d:Dr rows)(e:T3):e∈es (HF rows)↔∃ p∈rows.flatten,e=eO p.s\/e=eI p.s:=by
 rw [kA];constructor
 ·rintro⟨q,hq,z⟩;obtain⟨pq,hpq,rfl⟩:=List.mem_map.mp hq;have h1:pq.1∈rows.flatten:=by rw [<-mY rows]; exact bI hpq
  have h2:pq.2∈rows.flatten:=(mX rows).mem_iff.mp (bI hpq);rcases z with z | z
  ·exact⟨_,h1,.inl z⟩
  ·exact⟨_,h2,.inr z⟩
 ·rintro⟨p,hp,z | z⟩
  ·obtain⟨q,hq,_⟩:=NK hp;exact⟨_,List.mem_map.mpr ⟨_,hq,rfl⟩,.inl z⟩
  ·obtain⟨q,hq,_⟩:=NJ hp;exact⟨_,List.mem_map.mpr ⟨_,hq,rfl⟩,.inr z⟩
theorem HE(d:Dr rows)(e:T3):e∈es (HF rows)↔∃ n∈names rows,e∈jL n:=by
 rw [Sf d];constructor
 ·rintro⟨p,hp,z⟩;have hn:p.a∈names rows:=by
   rw [lg];rcases d.way p hp with w | w
   ·exact⟨p,hp,w,rfl⟩
   ·exact⟨_,d.FW p hp,by simp [w],rfl⟩
  refine⟨p.a,hn,?_⟩;rcases d.way p hp with w | w <;> rcases z with rfl | rfl <;> simp [jL,eO,eI,T3.s,w]
 ·rintro⟨n,hn,he⟩;obtain⟨p,hp,w,rfl⟩:=lg.mp hn;have hm:=d.FW p hp;unfold jL at he;simp only [aY,dS,or_false] at he;have e0:p.s=⟨p.a,0⟩:=by show (⟨p.a,p.b⟩:T2)=_; rw [w]
  have e1:T3.s ⟨p.a,1 - p.b,p.c⟩=⟨p.a,1⟩:=by show (⟨p.a,1 - p.b⟩:T2)=_; rw [w]; rfl
  rcases he with rfl | rfl | rfl | rfl
  ·exact⟨p,hp,.inr (by rw [e0]; rfl)⟩
  ·exact⟨_,hm,.inl (by rw [e1]; rfl)⟩
  ·exact⟨_,hm,.inr (by rw [e1]; rfl)⟩
  ·exact⟨p,hp,.inl (by rw [e0]; rfl)⟩
theorem xM(d:Dr rows):(names rows).Nodup:=by
 unfold names;refine JE ?_;have h:=d.nd;have:∀ {L:List T3},(L.map T3.s).Nodup->((L.filter fun p=>p.b == 0).map (·.a)).Nodup:=by
  intro L;induction L with
  | nil=>intro _; exact cF
  | cons p L ih =>
   intro h;rw [ak,aN] at h;rw [bF];split
   ·rename_i hp;rw [ak,aN];refine⟨fun z=>h.1 ?_,ih h.2⟩;obtain⟨q,hq,e⟩:=List.mem_map.mp z;have RG:=List.mem_filter.mp hq;refine List.mem_map.mpr ⟨q,RG.1,?_⟩;have b1:p.b=0:=by simpa using hp
    have b2:q.b=0:=by simpa using RG.2
    show (⟨q.a,q.b⟩:T2)=⟨p.a,p.b⟩;rw [e,b1,b2]
   ·exact ih h.2
 exact this h
theorem VU(d:Dr rows):Dm (fr rows) (names rows) :=
 ⟨Mr (Fp d),xM d,fun n hn e he=>(uD (Fp d)).mpr ((HE d e).mpr ⟨n,hn,he⟩)⟩
theorem xN(d:Dr rows):2 * (names rows).length<=rows.flatten.length:=by
 have h:=sub_len' ((names rows).flatMap fun n=>[(⟨n,0⟩:T2),⟨n,1⟩]) (rows.flatten.map T3.s) ?_ ?_
 ·have:((names rows).flatMap fun n=>[(⟨n,0⟩:T2),⟨n,1⟩]).length=2 * (names rows).length:=by
   generalize names rows=l;induction l with
   | nil=>rfl
   | cons n l ih=>rw [eT,aG,ih]; simp only [aj,aF]; lia
  rw [this,aB] at h; exact h
 ·have:∀ {l:List Int},l.Nodup->(l.flatMap fun n=>[(⟨n,0⟩:T2),⟨n,1⟩]).Nodup:=by
   intro l;induction l with
   | nil=>intro _; exact cF
   | cons n l ih =>
    intro h;rw [aN] at h;rw [eT,eS];refine⟨by simp,ih h.2,fun a ha b hb e=>?_⟩;obtain⟨m,hm,hb⟩:=List.mem_flatMap.mp hb;have ea:a.a=n:=by simp only [aY,dS,or_false] at ha; rcases ha with rfl | rfl <;> rfl
    have eb:b.a=m:=by simp only [aY,dS,or_false] at hb; rcases hb with rfl | rfl <;> rfl
    rw [e,eb] at ea;exact h.1 (ea ▸ hm)
  exact this (xM d)
 ·intro s hs;obtain⟨n,hn,hs⟩:=List.mem_flatMap.mp hs;obtain⟨p,hp,w,rfl⟩:=lg.mp hn;simp only [aY,dS,or_false] at hs;rcases hs with rfl | rfl
  ·exact List.mem_map.mpr ⟨p,hp,by show (⟨p.a,p.b⟩:T2)=_; rw [w]⟩
  ·exact List.mem_map.mpr ⟨_,d.FW p hp,by show (⟨p.a,1 - p.b⟩:T2)=_; rw [w]; rfl⟩
theorem RK(d:Dr rows){n:Int}(h:n∈names rows):∃ p∈rows.flatten,p.a=n:=by
 obtain⟨p,hp,_,e⟩:=lg.mp h;exact⟨p,hp,e⟩
theorem Mh(d:Dr rows):∀ r∈rows,r.length<=24:=fun r hr=>by
 have h1:=d.D7;obtain⟨a,b,e⟩:=List.append_of_mem hr;rw [e,jJ,fJ,aG,aG] at h1;lia
noncomputable def zZ(rows:Rows)(ns:List Int):List (Int×Int):=ns.map fun n=>(n,handOf rows n)
theorem Iu(rows:Rows)(ns:List Int):(zZ rows ns).map (·.1)=ns:=by
 unfold zZ;rw [bt];exact k6 ns
theorem zip_map(f:Int->Int):∀ l:List Int,l.zip (l.map f)=l.map fun n=>(n,f n)
 | []=>rfl
 | n :: l=>by rw [ak,oE,zip_map f l,ak]
theorem XA{k:Nat}(h:k<=5):8 * 8 ^ k<=1048576:=by
 have:8 ^ k<=8 ^ 5:=jq (by decide) h;lia
noncomputable def zS:gW :=
 (cH (bM (iR 1 [0] (ni (aw 1)) (aO 0) none (bC fW (ay (aw 1) (ay (aw 0) bq)))) (aO 2))
 (cH (bM (zx zB (ay (iR 1 [] (ni (aw 0)) (aO 0) (some (tT (jj (aw 0)))) (aw 0)) bq)) (aO 3))
 (cH (bM (dh (Oi (bC jZ (ay (aw 0) bq)) (dh (bC gO (ay (dh (Em [(2,-1),(-2,-1)])) (ay (dh (aw 3)) bq)))))) (aO 4))
 (cH (eQ (Nw (aw 1) (aw 2)) (jV (dN (aO 5) (dN (aO 6) jG))) (bM (dh (bC kN (ay (aw 4) (ay (aw 5) (ay (aw 6) bq))))) (aO 4)))
 (cR (dh (aw 4)))))))
noncomputable def qj:lR:=fun ds G Q _=>∃ (rows:Rows) (ns:List Int),ds=[enc rows,enc ns]/\(Dr rows/\ns.Perm (names rows)/\ns.length<=6) /\
 ∀ S':Su,QY S' []->gC S'<=2097152->(∀ g,mG [] g S'=Br (fr rows) (zZ rows ns) (gK (lo rows) g))->Q (.ny (g6 S')) G
theorem KZ(ds:List D)(G:Gp)(Q:DK)(h:qj ds G Q fun _ _=>False):zS (fun _ _=>False) (ends Q) (bD 7 ds) G:=by
 obtain⟨rows,ns,rfl,⟨d,hp,hl⟩,q⟩:=h;have D7:=d.D7;have str:=d.str;have nn:ns.Nodup:=hp.nodup_iff.mpr (xM d);have Z9:lo rows<=3:=aZ (dw _ _) str;unfold zS;simp only [↓c7,bM,iR,↓gq,aw,bD,↓ak,↓br,↓aj,↓aF,bg,↓az,↓aT,↓ae,↓aa,aO,zx,ay,↓aq,↓ao,bq,dh,ends];refine i4 ⟨Lf (by rw [aB]; lia),?_⟩;refine lM (xs:=ns) (fun pre acc τ G'=>G=G'/\(∃ a,τ=[a,some (enc rows)])/\acc=(pre.map (handOf rows)).map D.int) ⟨rfl,⟨_,rfl⟩,rfl⟩ (fun _ _ _ _ _=>trivial) ?_ ?_
 ·rintro pre n post acc τ G' N e ⟨rfl,⟨a,rfl⟩,rfl⟩ hN;have hn:n∈names rows:=hp.mem_iff.mp (by rw [e]; simp);simp only [aO,bC,ay,aw,↓ao,wg,↓ae,↓aa,bq];refine⟨rows,n,rfl,⟨by lia,RK d hn⟩,?_⟩;refine hN _ _ _ ⟨rfl,⟨_,rfl⟩,?_⟩;rw [bw,bw]; rfl
 rintro acc τ G' ⟨rfl,⟨a,rfl⟩,rfl⟩ p1 f1;refine i4 ⟨Lf (by rw [aB]; lia),?_⟩;refine lM (xs:=rows) (fun pre acc τ G'=>eL G p1 (.lst ((ns.map (handOf rows)).map D.int))=G'/\(∃ a,τ=[a])/\acc=(pre.filter fun r=>r.isEmpty).map enc) ⟨rfl,⟨_,rfl⟩,rfl⟩ (fun _ _ _ _ _=>trivial) ?_ ?_
 ·rintro pre r post acc τ G' N e ⟨rfl,⟨a,rfl⟩,rfl⟩ hN;simp only [aO,tT,↓eB,aw,↓ao,↓aa];show o9 (.dR (r.map enc)) _ _;unfold o9 EV;simp only [];by_cases c:r.isEmpty=true
  ·have c2:(r.map (enc:T3->D)).isEmpty=true:=by cases r with
    | nil=>rfl
    | cons _ _=>cases c
   simp only [c2,bQ,fF,if_true];refine hN _ _ _ ⟨rfl,⟨_,rfl⟩,?_⟩;simp only [dI,bF,c,if_true,uh,bw,ak,br]
  ·have c2:(r.map (enc:T3->D)).isEmpty=false:=by cases r with
    | nil=>exact absurd rfl c
    | cons _ _=>rfl
   simp only [c2,bQ,fF,if_false,ar];refine hN _ _ _ ⟨rfl,⟨_,rfl⟩,?_⟩;have c':r.isEmpty=false:=by simpa using c
   simp only [dI,bF,c',if_false,ar,uh,cN]
 rintro acc τ G' ⟨rfl,⟨a,rfl⟩,rfl⟩ p2 f2;have p12:p1≠p2:=by rintro rfl; rw [aH] at f2; cases f2
 simp only [Ez aH,aB];simp only [Oi,bC,ay,aw,↓aa,bq,dh,↓ae];have elo:(rows.filter fun r=>r.isEmpty).length=lo rows:=rfl;rw [elo];refine⟨rows,rfl,by lia,?_⟩;rw [Se d];have nd:=Fp d;obtain⟨n0,e0⟩:=Ih (I0 nd) (Mr nd);generalize hP0:JV (Gy (HF rows))=P0 at n0 e0;unfold Em;intro p5 f5;refine gU (.new f5) f5 aH (di ?_);refine⟨_,LP,lo rows,rfl,⟨rfl,RW⟩,C5 Z9,by rw [OJ]; exact jX (by decide),fun p6 f6=>?_⟩;refine gU (.new f6) f6 aH ?_;refine⟨mH P0,rfl,fun p7 f7=>?_⟩;have g1:gc G (eL (eL G p1 (.lst ((ns.map (handOf rows)).map D.int))) p2 (.lst (((rows.filter fun r=>r.isEmpty)).map enc))):=(gc.new f1).trans (.new f2);refine Gm (A:=[(mH P0,dB LP (lo rows))]) (.new f7) f7 aH ?_;generalize hG2:eL (eL G p1 (.lst ((ns.map (handOf rows)).map D.int))) p2 (.lst (((rows.filter fun r=>r.isEmpty)).map enc))=G2 at g1;have gh:G2 p1=some (.lst ((ns.map (handOf rows)).map D.int)):=by rw [<-hG2,dP p12,aH]
 refine fX (fun τ G'=>∃ (S:Su) (a b:Option D),G'=G2/\τ=[some (enc rows),some (enc ns),some (.ref p1),some (.int (lo rows)),some (.ny (g6 S)),a,b]/\QY S []/\gC S<=2097152/\∀ g,mG [] g S=Br (fr rows) (zZ rows ns) (gK (lo rows) g)) ?_ ?_
 ·intro N hN;simp only [eQ,Nw,aw,↓ae,↓aa];have hz:nI (ns.map enc) ((ns.map (handOf rows)).map D.int)=(zZ rows ns).map enc:=by
   have:nI (ns.map enc) ((ns.map (handOf rows)).map enc)=(ns.zip (ns.map (handOf rows))).map enc:=wL _ _;refine this.trans ?_;rw [zip_map]; rfl
  refine Ki (IsL.enc ns) (IsL.ref gh) fun ok cD=>?_;rw [hz];have hnl:(zZ rows ns).length=ns.length:=by unfold zZ; rw [aB]
  have start:∀ g,mG (zZ rows ns) g [(mH P0,dB LP (lo rows))]=Br (fr rows) (zZ rows ns) (gK (lo rows) g):=fun g=>by
   show L _ _+0=_;rw [sf,hB,GL,e0];have:=congrFun (Gb (fr rows) (zZ rows ns) g (lo rows) 0) 0;simp only [hB] at this;rw [HN] at this;exact this
  have so0:QY [(mH P0,dB LP (lo rows))] ((zZ rows ns).map (·.1)):=by
   refine⟨⟨by simp,fun p uj=>?_⟩,fun p uj=>?_⟩
   ·rw [cC] at uj; subst uj; exact⟨Y.uE _ _,Y.JT _ _⟩
   ·rw [cC] at uj; subst uj;refine⟨P0,rfl,n0,fun e=>?_⟩;rw [e0,uD nd,HE d,Iu];exact⟨fun ⟨n,h1,h2⟩=>⟨n,hp.mem_iff.mpr h1,h2⟩,fun ⟨n,h1,h2⟩=>⟨n,hp.mem_iff.mp h1,h2⟩⟩
  refine dQ (xs:=zZ rows ns) (fun pre τ G'=>∃ (S:Su) (a b:Option D),G'=G2/\τ=[some (enc rows),some (enc ns),some (.ref p1),some (.int (lo rows)),some (.ny (g6 S)),a,b]/\QY S (((zZ rows ns).drop pre.length).map (·.1))/\(S.length<=8 * 8 ^ pre.length/\gC S<=8 * 8 ^ pre.length)/\∀ g,mG ((zZ rows ns).drop pre.length) g S=Br (fr rows) (zZ rows ns) (gK (lo rows) g))
   ⟨_,_,_,rfl,rfl,so0,⟨(by decide:1<=8 * 8 ^ 0),aZ (Nat.le_of_eq (oN _)) (FG Z9)⟩,start⟩ (fun pre τ G' h=>cD G' (by obtain⟨_,_,_,rfl,_⟩:=h; exact .refl _)) ?_ ?_
  ·rintro pre x post τ G' N2 e ⟨S,a,b,rfl,rfl,so,⟨sl,sn⟩,sv⟩ nj;have dr:(zZ rows ns).drop pre.length=x :: post:=by rw [e,List.drop_left]
   have Zk:(zZ rows ns).drop (pre++[x]).length=post:=by
    rw [e,show pre++x :: post=(pre++[x])++post by simp,List.drop_left]
   have Km:pre.length+1+post.length<=6:=by
    have:=congrArg dU e;rw [aG,aj,hnl] at this; lia
   have YC:(x.1 :: post.map (·.1)).Nodup:=by
    have h1:=Iu rows ns;rw [e,bw,ak] at h1;have h2:=nn;rw [<-h1] at h2;exact(List.nodup_append.mp h2).2.1
   rw [dr] at so sv;have p8:=XA (k:=pre.length) (by lia);have e3:(enc x:D)=.tup [.int x.1,.int x.2]:=rfl;rw [e3];simp only [jV,dN,jG,aO,ao,aq];simp only [bM,dh,bC,ay,aw,↓ae,↓aa,bq,aO,↓aq,↓ao];refine⟨S,x.1,x.2,post,rfl,⟨so,YC,by lia,by lia,by lia⟩,fun S' so' l1 l2 v=>?_⟩;refine di (nj _ _ ?_);rw [Zk];have e8:8 * 8 ^ (pre++[x]).length=8 * (8 * 8 ^ pre.length):=by
    rw [aG,dq,O3]; lia
   rw [e8];exact⟨S',_,_,rfl,rfl,so',⟨by lia,by lia⟩,fun g=>by rw [v]; exact sv g⟩
  ·rintro τ G' ⟨S,a,b,rfl,rfl,so,⟨sl,sn⟩,sv⟩;have dr:(zZ rows ns).drop (zZ rows ns).length=[]:=List.drop_length;rw [dr] at so sv;have:8 ^ (zZ rows ns).length<=8 ^ 6:=jq (by decide) (by lia);exact hN _ _ ⟨S,_,_,rfl,rfl,so,by lia,sv⟩
 ·rintro _ G' ⟨S,a,b,rfl,rfl,so,hn,hv⟩;simp only [cR,dh,aw,↓ae,↓aa];exact tM g1 (q S so hn hv)
structure BP(T:Po)(f:Fn->Int):Prop where
 nd:ND T
 nz:NZ T
 eV:eV T<=2097152
 val:∀ g,L g T=f g
theorem BP.len{T:Po}{f:Fn->Int}(b:BP T f):T.length<=2097152:=aZ (xH b.nz) b.eV
noncomputable def brk(rows:Rows)(g:Fn):Int:=Br (fr rows) (nh rows) (gK (lo rows) g)
theorem Sq{S:Su}(so:QY S []):∀ p∈S,p.1=[]:=fun p hp=>by
 obtain⟨P,e,nd,h⟩:=so.pl p hp;have:P=[]:=SG nd fun e=>gk fun z=>by
  obtain⟨n,hn,_⟩:=(h e).mp z;cases hn
 rw [e,this]; rfl
theorem Pk{S:Su}(so:QY S [])(g:Fn):mG [] g S=L g ((cI S []).getD []):=by
 have h:=Sq so;have nd:=so.Lg.1;cases S with
 | nil=>rfl
 | cons p S =>
  have e1:=h p (by simp);have e2:S=[]:=by
   cases S with
   | nil=>rfl
   | cons q S =>
    have e3:=h q (by simp);rw [ak,ak,aN] at nd;exact absurd (by rw [e1,e3]; exact cc) nd.1
  subst e2;have e4:cI [p] ([]:PK)=some p.2:=by unfold cI; rw [cx (by simpa using e1)]; rfl
  rw [e4];show L _ p.2+0=L g p.2;rw [hB];congr 1;funext j;show sh j g 0=g j;unfold sh;rw [uw]
noncomputable def xb:gW :=
 (cR (dh (BX tyP DD (bC qj (ay (aw 0) (ay (bC ff (ay (aw 0) bq)) bq))) (ay (dh (iM bq)) (ay (dh mM) bq)))))
noncomputable def hW:lR:=fun ds G Q _=>∃ rows:Rows,ds=[enc rows]/\(Dr rows/\rows.flatten.length<=12)/\∀ T:Po,BP T (brk rows)->Q (.ji (bu T)) G
theorem Hk(ds:List D)(G:Gp)(Q:DK)(h:hW ds G Q fun _ _=>False):xb (fun _ _=>False) (ends Q) (bD 1 ds) G:=by
 obtain⟨rows,rfl,⟨d,hl⟩,q⟩:=h;have nl:=xN d;unfold xb;simp only [cR,dh,BX,bC,ay,aw,bD,↓ak,↓br,↓aj,↓aF,↓az,↓aT,↓aa,bq,iM,mM,ends];refine⟨rows,rfl,(show rows.flatten.length < 64 by lia),?_⟩;refine⟨rows,names rows,rfl,⟨d,.refl _,by lia⟩,fun S so hn hv=>?_⟩;refine⟨trivial,by decide,di ?_⟩;intro p hp;refine gU (.new hp) hp aH ?_;refine⟨[],rfl,?_⟩;have bp:BP ((cI S []).getD []) (brk rows):=⟨(so.Lg.get []).1,(so.Lg.get []).2,aZ (Ir S []) hn,fun g=>by rw [<-Pk so,hv]; rfl⟩;have e:(ot (g6 S) []).getD (.ji [])=.ji (bu ((cI S []).getD [])):=by
  rw [Ag];cases cI S [] <;> rfl
 rw [e];exact di (q _ bp)
end JB
end K2
end
section
namespace K2
namespace JB
open K2.P K2.J
section
variable {α:Type}
noncomputable def yZ:List α->List (α×α)
 | a :: b :: l=>(a,b) :: yZ (b :: l)
 | _=>[]
noncomputable def Eo:List α->List (α×α)
 | []=>[]
 | a :: l=>yZ (a :: l++[a])
theorem ua(a b:α)(l:List α):yZ (a :: b :: l)=(a,b) :: yZ (b :: l):=rfl
theorem t9:∀ (xs:List α) (m:α) (ys:List α),yZ (xs++m :: ys)=yZ (xs++[m])++yZ (m :: ys)
 | [],m,ys=>rfl
 | [a],m,ys=>rfl
 | a :: b :: xs,m,ys=>by
  rw [az,az,ua,az,az,ua,az];congr 1;exact t9 (b :: xs) m ys
theorem HA:∀ (l:List α) (c:α),l.zip (l.drop 1++[c])=yZ (l++[c])
 | [],_=>rfl
 | [a],c=>rfl
 | a :: b :: l,c=>by
  rw [az,az,ua];show (a,b) :: (b :: l).zip (l++[c])=_;congr 1;exact HA (b :: l) c
theorem B0(A B:List α):(Eo (A++B)).Perm (Eo (B++A)):=by
 cases A with
 | nil=>rw [aT,cN]
 | cons a A =>
  cases B with
  | nil=>rw [aT,cN]
  | cons b B =>
   show (yZ (a :: A++b :: B++[a])).Perm (yZ (b :: B++a :: A++[b]));have e1:yZ (a :: A++b :: B++[a])=yZ (a :: A++[b])++yZ (b :: B++[a]):=by
    rw [cf]; exact t9 (a :: A) b (B++[a])
   have e2:yZ (b :: B++a :: A++[b])=yZ (b :: B++[a])++yZ (a :: A++[b]):=by
    rw [cf]; exact t9 (b :: B) a (A++[b])
   rw [e1,e2];exact iS
end
theorem O9(r:List T3):r.zip (ik r)=Eo r:=by
 cases r with
 | nil=>rfl
 | cons a l=>exact HA (a :: l) a
theorem xD(rows:Rows):pairsOf rows=rows.flatMap Eo:=by
 unfold pairsOf;congr 1;funext r;exact O9 r
theorem mi{α β:Type}(f:α->List β):∀ {rows:List α} {i:Nat} {r r':α},rows[i]?=some r->((rows.set i r').flatMap f).Perm (f r'++(rows.eraseIdx i).flatMap f)
 | [],_,_,_,h=>by simp at h
 | a :: rows,0,r,r',h=>by rw [ao,eT,K7]
 | a :: rows,i+1,r,r',h=>by
  rw [aq,eT,K8,eT];refine((mi f (rows:=rows) (i:=i) (r:=r) (by simpa using h)).append_left _).trans ?_;rw [<-cf,<-cf];exact List.perm_append_comm.append_right _
theorem yk{α β:Type}(f:α->List β){rows:List α}{i:Nat}{r:α}(h:rows[i]?=some r):(rows.flatMap f).Perm (f r++(rows.eraseIdx i).flatMap f):=by
 have:=mi f (r':=r) h;have e:rows.set i r=rows:=by
  obtain⟨hi,e⟩:=List.getElem?_eq_some_iff.mp h;rw [<-e]; exact OP hi
 rw [e] at this; exact this
theorem QG(A B:List T3)(q:T3):(A++B=[]/\Eo (A++q :: B)=[(q,q)])\/∃ (a b:T3) (l:List (T3×T3)),A++B≠[]/\(Eo (A++q :: B)).Perm ((q,b) :: (a,q) :: l)/\(Eo (A++B)).Perm ((a,b) :: l):=by
 have h1:=B0 A (q :: B);have h2:=B0 A B;cases hc:B++A with
 | nil =>
  left;obtain⟨e1,e2⟩:=List.append_eq_nil_iff.mp hc;subst e1 e2;exact⟨rfl,rfl⟩
 | cons c0 c =>
  right;have ne:A++B≠[]:=by
   intro z;obtain⟨e1,e2⟩:=List.append_eq_nil_iff.mp z;subst e1 e2;cases hc
  rw [az,hc] at h1;rw [hc] at h2;obtain⟨c',a,e⟩:∃ c' a,c0 :: c=c'++[a]:=by
   have:=List.dropLast_concat_getLast (show c0 :: c≠[] from List.cons_ne_nil _ _);exact⟨_,_,this.symm⟩
  have s1:Eo (q :: c0 :: c)=(q,c0) :: (yZ (c0 :: c)++[(a,q)]):=by
   show yZ (q :: c0 :: c++[q])=_;rw [az,az,ua,<-az,e];congr 1;rw [cf];exact t9 c' a [q]
  have s2:Eo (c0 :: c)=yZ (c0 :: c)++[(a,c0)]:=by
   show yZ (c0 :: c++[c0])=_;rw [e,cf];exact t9 c' a [c0]
  refine⟨a,c0,yZ (c0 :: c),ne,?_,?_⟩
  ·refine h1.trans ?_;rw [s1];exact(iS).cons _
  ·refine h2.trans ?_;rw [s2];exact iS
theorem SH{a b x y:T3}{R:Pr T3}(nd:(es ((y,b) :: (a,x) :: R)).Nodup):jn (pt ((y,b) :: (a,x) :: R)) x y=pt ((a,b) :: R)/\cl (pt ((y,b) :: (a,x) :: R)) x y=0:=by
 have n:=nd;simp only [es,aN,aY,not_or] at n;obtain⟨⟨yb,ya,yx,yR⟩,⟨ba,bx,bR⟩,⟨ax,aR⟩,xR,rR⟩:=n;have fx:pt ((y,b) :: (a,x) :: R) x=a:=(i8 nd (p:=(a,x)) (by simp)).2;have fy:pt ((y,b) :: (a,x) :: R) y=b:=(i8 nd (p:=(y,b)) (by simp)).1;have WA:(es ((a,b) :: R)).Nodup:=by
  simp only [es,aN,aY,not_or];exact⟨⟨fun z=>ba z.symm,aR⟩,bR,rR⟩
 refine⟨?_,by unfold cl; rw [fx,if_neg (fun z=>ya z.symm)]⟩;symm;refine Mq WA (fun p hp=>?_) fun e he=>?_
 ·have off:∀ e,e∈es R->e≠x/\e≠y/\e≠a/\e≠b:=fun e he=>⟨fun z=>xR (z ▸ he),fun z=>yR (z ▸ he),fun z=>aR (z ▸ he),fun z=>bR (z ▸ he)⟩;rcases List.mem_cons.mp hp with rfl | hp
  ·unfold jn;rw [fx,fy];refine⟨?_,?_⟩
   ·show (if a=x\/a=y then a else if a=a then b else _)=b;rw [if_neg (by rintro(z | z); exact ax z; exact ya z.symm),if_pos rfl]
   ·show (if b=x\/b=y then b else if b=a then b else if b=b then a else _)=a;rw [if_neg (by rintro(z | z); exact bx z; exact yb z.symm),if_neg (fun z=>ba z),if_pos rfl]
  ·have m1:p.1∈es R:=kA.mpr ⟨p,hp,.inl rfl⟩;have m2:p.2∈es R:=kA.mpr ⟨p,hp,.inr rfl⟩;obtain⟨o1,o2,o3,o4⟩:=off _ m1;obtain⟨u1,u2,u3,u4⟩:=off _ m2;have:=i8 nd (p:=p) (by simp [hp]);unfold jn;rw [fx,fy,if_neg (by rintro(z | z); exact o1 z; exact o2 z),if_neg o3,if_neg o4,if_neg (by rintro(z | z); exact u1 z; exact u2 z),if_neg u3,if_neg u4];exact this
 ·simp only [es,aY,not_or] at he;unfold jn;rw [fx,fy];split
  ·rfl
  ·rename_i hz;rw [if_neg he.1,if_neg he.2.1];refine me ?_;simp only [es,aY,not_or];rw [not_or] at hz;exact⟨hz.2,he.2.1,he.1,hz.1,he.2.2⟩
theorem PH{x y:T3}{R:Pr T3}(nd:(es ((y,x) :: R)).Nodup):jn (pt ((y,x) :: R)) x y=pt R/\cl (pt ((y,x) :: R)) x y=1:=by
 have n:=nd;simp only [es,aN,aY,not_or] at n;obtain⟨⟨yx,yR⟩,xR,rR⟩:=n;have fx:pt ((y,x) :: R) x=y:=(i8 nd (p:=(y,x)) (by simp)).2;have fy:pt ((y,x) :: R) y=x:=(i8 nd (p:=(y,x)) (by simp)).1;refine⟨?_,by unfold cl; rw [fx,if_pos rfl]⟩;funext e;unfold jn;rw [fx,fy];split
 ·rename_i hz;rw [me (by rcases hz with rfl | rfl; exact xR; exact yR)]
 ·rename_i hz;rw [not_or] at hz;rw [if_neg hz.2,if_neg hz.1,pt,if_neg hz.2,if_neg hz.1]
noncomputable def We(rows:Rows):Prop:=(rows.flatten.map T3.s).Nodup
theorem MS{rows:Rows}(h:We rows):(es (HF rows)).Nodup:=by
 refine Q9 ?_ ?_
 ·have:=congrArg (List.map T3.s) (mY rows);rw [bt] at this;have h2:((pairsOf rows).map fun p=>p.1.s)=rows.flatten.map T3.s:=this;rw [h2]; exact h
 ·have:=(mX rows).map T3.s;rw [bt] at this;exact this.nodup_iff.mpr h
theorem NU{rows:Rows}{i:Nat}{r r':List T3}(h:rows[i]?=some r):(rows.set i r').flatten.Perm (r'++(rows.eraseIdx i).flatten):=by
 have:=mi (fun r:List T3=>r) (r':=r') h;simpa [List.flatMap_id'] using this
theorem Qu{rows:Rows}{i:Nat}{r:List T3}(h:rows[i]?=some r):rows.flatten.Perm (r++(rows.eraseIdx i).flatten):=by
 have:=yk (fun r:List T3=>r) h;simpa [List.flatMap_id'] using this
theorem S7{rows:Rows}{i:Nat}{r r':List T3}(h:rows[i]?=some r):lo (rows.set i r')+(if r.isEmpty=true then 1 else 0)=lo rows+(if r'.isEmpty=true then 1 else 0):=by
 unfold lo;induction rows generalizing i with
 | nil=>simp at h
 | cons a rows ih =>
  cases i with
  | zero =>
   simp only [aa,ur] at h;subst h;rw [ao,bF,bF];split <;> split <;> simp <;> lia
  | succ i =>
   have:=ih (i:=i) (by simpa using h);rw [aq,bF,bF];split
   ·rw [aj,aj]; lia
   ·exact this
theorem Nq{rows:Rows}{i k:Nat}{r:List T3}{q:T3}(h:rows[i]?=some r)(nd:We (rows.set i (r.take k++q :: r.drop k))) :
  fr rows=jn (fr (rows.set i (r.take k++q :: r.drop k))) (eI q.s) (eO q.s)/\lo rows=lo (rows.set i (r.take k++q :: r.drop k))+cl (fr (rows.set i (r.take k++q :: r.drop k))) (eI q.s) (eO q.s):=by
 have n1:=MS nd;have p1:=mi Eo (r':=r.take k++q :: r.drop k) h;rw [<-xD] at p1;have p2:=yk Eo h;rw [<-xD] at p2;have l1:=S7 (r':=r.take k++q :: r.drop k) h;have ne:(r.take k++q :: r.drop k).isEmpty=false:=by cases hr:r.take k <;> rfl
 rw [ne] at l1;simp only [ar,if_false,oN] at l1;have rr:r.take k++r.drop k=r:=ue k r;rcases QG (r.take k) (r.drop k) q with ⟨e1,e2⟩ | ⟨a,b,l,e1,e2,e3⟩
 ·rw [rr] at e1;have t1:(HF (rows.set i (r.take k++q :: r.drop k))).Perm ((eO q.s,eI q.s) :: Le ((rows.eraseIdx i).flatMap Eo)):=by
   have:=p1.map fun p:T3×T3=>(eO p.1.s,eI p.2.s);rw [e2] at this;exact this
  have t2:(HF rows).Perm (Le ((rows.eraseIdx i).flatMap Eo)):=by
   have:=p2.map fun p:T3×T3=>(eO p.1.s,eI p.2.s);rw [e1] at this;exact this
  have n2:(es ((eO q.s,eI q.s) :: Le ((rows.eraseIdx i).flatMap Eo))).Nodup:=(j6 t1).nodup_iff.mp n1;have n3:(es (HF rows)).Nodup:=by
   refine(j6 t2).nodup_iff.mpr ?_;rw [es,aN,aN] at n2;exact n2.2.2
  obtain⟨a1,a2⟩:=PH n2;unfold fr;rw [v5 t1 n1,a1,a2,v5 t2 n3];refine⟨rfl,?_⟩;rw [e1] at l1;simp only [List.isEmpty_nil,if_true] at l1;rw [e1];exact l1.symm
 ·rw [rr] at e1 e3;have t1:(HF (rows.set i (r.take k++q :: r.drop k))).Perm ((eO q.s,eI b.s) :: (eO a.s,eI q.s) :: Le (l++(rows.eraseIdx i).flatMap Eo)):=by
   have:=(p1.trans (e2.append_right _)).map fun p:T3×T3=>(eO p.1.s,eI p.2.s);exact this
  have t2:(HF rows).Perm ((eO a.s,eI b.s) :: Le (l++(rows.eraseIdx i).flatMap Eo)):=by
   have:=(p2.trans (e3.append_right _)).map fun p:T3×T3=>(eO p.1.s,eI p.2.s);exact this
  have n2:=(j6 t1).nodup_iff.mp n1;have n3:(es (HF rows)).Nodup:=by
   refine(j6 t2).nodup_iff.mpr ?_;simp only [es,aN,aY,not_or] at n2 ⊢;exact⟨⟨fun z=>n2.2.1.1 z.symm,n2.2.2.1.2⟩,n2.2.1.2.2,n2.2.2.2.2⟩
  obtain⟨a1,a2⟩:=SH n2;unfold fr;rw [v5 t1 n1,a1,a2,v5 t2 n3];refine⟨rfl,?_⟩;have:r.isEmpty=false:=by cases r with
   | nil=>exact absurd rfl e1
   | cons _ _=>rfl
  rw [this] at l1;simp only [ar,if_false,oN] at l1 ⊢;exact l1.symm
theorem Qt{rows:Rows}(nd:We rows){p q:T3}(h:(p,q)∈pairsOf rows):fr rows (eO p.s)=eI q.s/\fr rows (eI q.s)=eO p.s:=i8 (MS nd) (p:=(eO p.s,eI q.s)) (List.mem_map.mpr ⟨(p,q),h,rfl⟩)
theorem QF(A B:List T3)(p q:T3):(p,q)∈Eo (A++p :: q :: B):=by
 refine(B0 A (p :: q :: B)).mem_iff.mpr ?_;show (p,q)∈yZ (p :: q :: (B++A)++[p]);exact cc
end JB
end K2
end
section
namespace K2
open PySem (Str)
open Enc (enc)
namespace T
noncomputable abbrev Tb:=List (List Int)
structure HL(G G':Gp)(p0:Nat)(as:List Nat)(rs:List (List D)):Prop where
 le:gc G G'
 fp:G p0=none
 gp:G' p0=some (.lst (as.map D.ref))
 np:p0∉as
 nd:as.Nodup
 fr:∀ a∈as,G a=none
 len:as.length=rs.length
 at':∀ (i a:Nat) (r:List D),as[i]?=some a->rs[i]?=some r->G' a=some (.lst r)
theorem HL.ext{G G' G'':Gp}{p0:Nat}{as:List Nat}{rs:List (List D)}(h:HL G G' p0 as rs)(l:gc G' G''):HL G G'' p0 as rs :=
 ⟨h.le.trans l,h.fp,l _ _ h.gp,h.np,h.nd,h.fr,h.len,fun i a r h1 h2=>l _ _ (h.at' i a r h1 h2)⟩
theorem HL.row{G G':Gp}{p0:Nat}{as:List Nat}{rs:List (List D)}(h:HL G G' p0 as rs){i:Nat}{r:List D}(hr:rs[i]?=some r):∃ a,as[i]?=some a/\G' a=some (.lst r)/\u7 (as.map D.ref) (i:Int)=some (.ref a):=by
 have hi:i < as.length:=by rw [h.len]; exact(List.getElem?_eq_some_iff.mp hr).1
 refine⟨as[i],au hi,h.at' i _ r (au hi) hr,?_⟩;rw [t6 _ (by lia) (by rw [aB]; lia)];simp
theorem MO{as:List Nat}(hn:as.Nodup){i j a:Nat}(h1:as[i]?=some a)(h2:as[j]?=some a):i=j:=by
 have g1:=List.getElem?_eq_some_iff.mp h1;have g2:=List.getElem?_eq_some_iff.mp h2;have pw:=List.pairwise_iff_getElem.mp hn;rcases Nat.lt_trichotomy i j with lt | eq | gt
 ·exact absurd (g1.2.trans g2.2.symm) (pw i j g1.1 g2.1 lt)
 ·exact eq
 ·exact absurd (g2.2.trans g1.2.symm) (pw j i g2.1 g1.1 gt)
theorem MN{as:List Nat}(h:∀ i k a:Nat,i < k->as[i]?=some a->as[k]?=some a->False):as.Nodup:=by
 refine List.pairwise_iff_getElem.mpr fun i k hi hk hik z=>?_;exact h i k as[i] hik (au hi) (by rw [au hk,z])
theorem HL.Mi{G G':Gp}{p0:Nat}{as:List Nat}{rs:List (List D)}(h:HL G G' p0 as rs){j a:Nat}{r':List D}(hj:j < as.length)(ga:G' a=some (.lst r'))(na:a∉as)(fa:G a=none)(np:a≠p0):HL G (eL G' p0 (.lst ((as.set j a).map D.ref))) p0 (as.set j a) (rs.set j r'):=by
 have Uk:∀ b,b∈as.set j a->b=a\/b∈as:=fun b hb=>by
  rcases Hu hb with z | z
  ·exact .inr z
  ·exact .inl z
 refine⟨h.le.put h.fp,h.fp,aH,fun z=>?_,?_,fun b hb=>?_,by rw [du,du]; exact h.len,fun i b r hb hr=>?_⟩
 ·rcases Uk _ z with z | z
  ·exact np z.symm
  ·exact h.np z
 ·refine MN fun i k b hik h1 h2=>?_;by_cases e1:j=i
  ·subst e1;rw [cT hj] at h1;rw [eE (by lia)] at h2;cases h1;exact na (eD h2)
  ·rw [eE e1] at h1;by_cases e2:j=k
   ·subst e2;rw [cT hj] at h2;cases h2;exact na (eD h1)
   ·rw [eE e2] at h2;have:=MO h.nd h1 h2;lia
 ·rcases Uk b hb with z | z
  ·rw [z]; exact fa
  ·exact h.fr b z
 ·have hb0:b≠p0:=by
   rintro rfl;rcases Uk b (eD hb) with z | z
   ·exact np z.symm
   ·exact h.np z
  rw [dP hb0];by_cases e:j=i
  ·subst e;rw [cT hj] at hb;rw [cT (by rw [<-h.len]; exact hj)] at hr;cases hb; cases hr;exact ga
  ·rw [eE e] at hb hr;exact h.at' i b r hb hr
theorem HL.fz{G G':Gp}{p0:Nat}{as:List Nat}{rs:List (List D)}(h:HL G G' p0 as rs){Q:DK}(q:Q (.dR (rs.map D.dR)) G):EL G' (.ref p0) Q:=by
 refine NO h.le h.fp h.gp (ss:=rs.map D.dR) ?_ q;have:∀ (as:List Nat) (rs:List (List D)),as.length=rs.length->(∀ a∈as,G a=none)->(∀ (i a:Nat) (r:List D),as[i]?=some a->rs[i]?=some r->G' a=some (.lst r))->Jn G' (fun a=>(G a).isNone) (as.map D.ref) (rs.map D.dR):=by
  intro as;induction as with
  | nil=>intro rs hl _ _; cases rs with
   | nil=>exact .nil
   | cons _ _=>cases hl
  | cons a as ih =>
   intro rs hl hf Kt;cases rs with
   | nil=>cases hl
   | cons r rs =>
    refine .cons (.ref (Kt 0 a r rfl rfl) (by simp [hf a (by simp)]) (Jn.same _)) ?_;exact ih rs (by simpa using hl) (fun b hb=>hf b (aK _ hb)) fun i b s h1 h2=>Kt (i+1) b s h1 h2
 exact this as rs h.len h.fr h.at'
end T
end K2
end
section
namespace K2
open PySem (Str)
open Enc (enc)
namespace P
variable {rows:Rows}
noncomputable def UP(rows:Rows):List T3:=Sv (Rb rows)
end P
end K2
end
section
namespace K2
open PySem (Str)
open Enc (enc)
namespace P
variable {rows:Rows}
noncomputable def Si(rows:Rows)(s:T2):Nat:=(((rows.zipIdx 0).find? fun p=>decide (s∈sI p.1 (p.2:Int))).map (·.2)).getD 0
end P
end K2
end
section
namespace K2
open PySem (Str)
open Enc (enc)
namespace Y
noncomputable def pD:gW :=
 (cH (ja (jj (bG Ws (aw 1) (zx zB (ay (aw 0) bq)))) (cR (dh (bG oP (aw 0) (aw 1)))) fA)
 (cR (dh (dC (.int 0)))))
noncomputable def fU(ns:List Int)(k:Int):Int:=ns.getD k.toNat 0
noncomputable def cq:lR:=fun ds G Q _=>∃ (ns:List Int) (k:Int),ds=[.dR (ns.map D.int),.int k]/\0<=k/\Q (.int (fU ns k)) G
theorem yK(ds:List D)(G:Gp)(Q:DK)(h:cq ds G Q fun _ _=>False):pD (fun _ _=>False) (ends Q) (bD 2 ds) G:=by
 obtain⟨ns,k,rfl,h0,q⟩:=h;unfold pD;simp only [cH,ja,bD,ak,br,aj,aF,az,aT,cR,dh,bG,aw,aa,ae,ends,xg,fA,dC,eB,zx,ay,bq,Ey,HX,cP];split
 ·rename_i h;have h1:k < (ns.map D.int).length:=by simpa using h
  rw [t6 _ h0 h1];simp only [rz];rw [aB] at h1;have e:fU ns k=ns[k.toNat]:=by unfold fU; rw [dG,au (by lia)]; rfl
  rw [<-e]; exact di q
 ·rename_i h;have h1:¬ k < (ns.map D.int).length:=by simpa using h
  rw [aB] at h1;have e:fU ns k=0:=by unfold fU; rw [dG,uf (by lia)]; rfl
  rw [<-e]; exact di q
noncomputable def sT:gW :=
 (cR (dh (Jf (Oh "int" (aw 0)) (Of (Oh "bool" (aw 0))))))
noncomputable def fe:lR:=fun ds G Q _=>∃ i:Int,ds=[.int i]/\Q (.bl true) G
theorem Cc(ds:List D)(G:Gp)(Q:DK)(h:fe ds G Q fun _ _=>False):sT (fun _ _=>False) (ends Q) (bD 1 ds) G:=by
 obtain⟨i,rfl,q⟩:=h;unfold sT;simp only [cR,dh,bD,ak,br,aj,aF,az,aT,ends,En,El,BY,aw,aa,DQ,cP];simpa using di q
noncomputable def vt:gW :=
 (cR (dh (bG qK (bG qK (bG xf (aw 0) (dC (.int 48271))) (aw 1)) (aw 2))))
noncomputable def pick(c p m:Int):Int:=c * 48271 % p % m
noncomputable def c8:lR:=fun ds G Q _=>∃ c p m:Int,ds=[.int c,.int p,.int m]/\(0 < p/\0 < m)/\Q (.int (pick c p m)) G
theorem EG(ds:List D)(G:Gp)(Q:DK)(h:c8 ds G Q fun _ _=>False):vt (fun _ _=>False) (ends Q) (bD 3 ds) G:=by
 obtain⟨c,p,m,rfl,⟨hp,hm⟩,q⟩:=h;unfold vt;simp only [cR,dh,bG,aw,bD,ak,br,aj,aF,az,aT,aa,dC,ae,ends,jx,lF];exact⟨.inr ⟨by decide,by decide⟩,hp,hm,di q⟩
theorem j3(c p:Int){m:Int}(h:0 < m):0<=pick c p m:=i5 _ (by lia)
theorem j4(c p:Int){m:Int}(h:0 < m):pick c p m < m:=gz _ h
noncomputable def vr:gW :=
 (cH (ja (tT (jj (Oh "dict" (aw 0)))) (cR (dh (dC (.bl false)))) fA)
 (cH (eQ (pN (aw 0)) (aO 1) (ja (QE (tT (jj (bC fe (ay (aw 1) bq)))) (QE (tT (jj (bC fe (ay (bG oP (aw 0) (aw 1)) bq)))) (jj (bG (H0 false) (bG oP (aw 0) (aw 1)) (dC (.int 0)))))) (cR (dh (dC (.bl false)))) fA))
 (cR (dh (dC (.bl true))))))
noncomputable def hV:lR:=fun ds G Q _=>∃ (d:D) (l:Po),ds=[d]/\Pl G d l/\NZ l/\Q (.bl true) G
theorem EF(ds:List D)(G:Gp)(Q:DK)(h:hV ds G Q fun _ _=>False):vr (fun _ _=>False) (ends Q) (bD 2 ds) G:=by
 obtain⟨d,l,rfl,hd,hz,q⟩:=h;unfold vr;refine fX (fun τ G'=>τ=[some d,none]/\G=G') ?_ ?_
 ·intro N hN;simp only [ja,tT,bD,ak,br,aj,aF,bg,az,aT,cR,dh,dC,ends,fA,eB,BY,aw,aa];refine Np (G:=G) hd.is.p ?_;simp only [beq_self_eq_true,cP,bQ,ar,if_false];exact hN _ _ ⟨rfl,rfl⟩
 rintro _ _ ⟨rfl,rfl⟩;refine fX (fun τ G'=>(∃ a,τ=[some d,a])/\G=G') ?_ ?_
 ·intro N hN;simp only [eQ,pN,aw,aa,ends];refine rL hd.is (.refl _) fun ok cD=>?_;refine dQ (xs:=l) (fun pre τ G'=>(∃ a,τ=[some d,a])/\G=G') ⟨⟨_,rfl⟩,rfl⟩ (fun pre τ G' h=>cD G' (by rw [<-h.2]; exact .refl _)) ?_ ?_
  ·rintro pre x post τ G' N2 e ⟨⟨a,rfl⟩,rfl⟩ nj;have hm:x∈l:=by rw [e]; simp
   have hx:=qa hd.nd hm;simp only [aO,ja,QE,tT,aq,ao,cR,dh,dC,fA,if_true,eB,bG,aw,aa,ae,bC,ay,bq];refine⟨_,rfl,?_⟩;simp only [cP,bQ,ar,if_false];refine C6 hd.is.p hx ⟨x.2,rfl,?_⟩;simp only [cP,bQ,ar,if_false];refine C6 hd.is.p hx ⟨_,_,.int _,.int _,?_⟩;simp only [ar,BM,hz x hm,decide_false,fF,if_false,cP];exact nj _ _ ⟨⟨_,rfl⟩,rfl⟩
  ·rintro τ G' ⟨⟨a,rfl⟩,rfl⟩;exact hN _ _ ⟨⟨_,rfl⟩,rfl⟩
 ·rintro _ _ ⟨⟨a,rfl⟩,rfl⟩;simp only [cR,dh,dC,ends];exact di q
noncomputable def sU:gW :=
 (cH (bM mM (aO 1))
 (cH (eQ (pN (aw 0)) (aO 2) (ja (jj (bG (H0 true) (bG oP (aw 0) (aw 2)) (dC (.int 0)))) (bM (bG oP (aw 0) (aw 2)) (kC (aw 1) (aw 2))) fA))
 (cR (dh (aw 1)))))
noncomputable def ip:lR:=cW
theorem Cd(ds:List D)(G:Gp)(Q:DK)(h:ip ds G Q fun _ _=>False):sU (fun _ _=>False) (ends Q) (bD 3 ds) G:=by
 obtain⟨d,l,rfl,hd,hl,q⟩:=h;unfold sU;simp only [ends,bD,ak,br,aj,aF,bg,az,aT,c7,bM,mM,aO,aq,ao];intro p hp;refine fX (fun τ G'=>(∃ a,τ=[some d,some (.ref p),a])/\gc G G'/\G' p=some (.fZ (bu (fg l)))) ?_ ?_
 ·intro N hN;simp only [eQ,pN,aw,aa];refine rL hd.is (.new hp) fun ok cD=>?_;refine dQ (xs:=l) (fun pre τ G'=>(∃ a,τ=[some d,some (.ref p),a])/\gc G G'/\G' p=some (.fZ (bu (fg pre)))) ⟨⟨_,rfl⟩,.new hp,aH⟩ (fun pre τ G' h=>cD G' h.2.1) ?_ ?_
  ·rintro pre x post τ G' N2 e ⟨⟨a,rfl⟩,le,gp⟩ nj;have hlen:(fg pre).length < SZ:=by
    have:=qo pre;have:=i0 e; lia
   have hm:x∈l:=by rw [e]; simp
   have hx:=qa hd.nd hm;simp only [aO,ja,aq,ao,bM,bG,aw,aa,ae,kC,fA,eB,dC];refine C6 hd.is.p hx ⟨_,_,.int _,.int _,?_⟩;simp only [BM,if_true,cP];by_cases hz:x.2=0
   ·simp only [hz,decide_true,bQ,ar,if_false];exact nj _ _ ⟨⟨_,rfl⟩,le,by rw [xB hz]; exact gp⟩
   ·simp only [hz,decide_false,fF,if_true];refine C6 hd.is.p hx ?_;refine fK (α:=Int) gp hlen ?_;exact nj _ _ ⟨⟨_,rfl⟩,le.put hp,by rw [aH,<-xA hd.nd e hz]⟩
  ·rintro τ G' ⟨⟨a,rfl⟩,le,gp⟩;exact hN _ _ ⟨⟨_,rfl⟩,le,gp⟩
 ·rintro _ G' ⟨⟨a,rfl⟩,le,gp⟩;simp only [cR,dh,aw,ae,aa];exact nW le hp gp q
end Y
end K2
end
section
namespace K2
open PySem (Str)
open Enc (enc)
namespace OZ
open K2.T
open K2.P (names handOf Si sI ff fW)
open K2.Y (fU pick j3 j4 cq fe c8 gP i0)
theorem kh{α:Type} [DecidableEq α] [Enc α](rs:List (List α)):(enc rs:D)=.dR ((rs.map fun r=>r.map enc).map D.dR):=by
 show D.dR _=_;rw [bt]; rfl
noncomputable def ma:gW :=
 (cR (dh (iR 1 [] (ni (aw 0)) (aO 0) none (zx vI (ay (aw 0) bq)))))
noncomputable def dJ:lR:=fun ds G Q _=>∃ rs:List (List D),ds=[.dR (rs.map D.dR)]/\rs.length<=1000/\∀ G' p0 as,HL G G' p0 as rs->Q (.ref p0) G'
theorem qg(ds:List D)(G:Gp)(Q:DK)(h:dJ ds G Q fun _ _=>False):ma (fun _ _=>False) (ends Q) (bD 1 ds) G:=by
 obtain⟨rs,rfl,hl,q⟩:=h;unfold ma;simp only [cR,dh,iR,bD,ak,br,aj,aF,az,aT,ends,gq,aw,aa,IK];refine⟨Lf (by rw [aB]; exact hl),?_⟩;refine lM (xs:=rs) (fun pre acc τ G'=>(∃ a,τ=[a])/\∃ as:List Nat,acc=as.map D.ref/\gc G G'/\as.Nodup/\(∀ a∈as,G a=none)/\as.length=pre.length/\(∀ (i a:Nat) (r:List D),as[i]?=some a->pre[i]?=some r->G' a=some (.lst r))) ?_ (fun _ _ _ _ _=>trivial) ?_ ?_
 ·exact⟨⟨_,rfl⟩,[],rfl,.refl G,cF,fun _ h=>by(cases h),rfl,fun i a r h=>by simp at h⟩
 ·rintro pre r post acc τ G' N e ⟨⟨a,rfl⟩,as,rfl,le,nd,fr,ln,Kt⟩ hN;simp only [aO,zx,ay,aw,ao,aa,bq];refine Ov (IsL.dR) fun p hp=>?_;have YL:p∉as:=fun z=>by
   obtain⟨i,hi⟩:=mD z;have h1:i < pre.length:=by rw [<-ln]; exact(List.getElem?_eq_some_iff.mp hi).1
   have:=Kt i p pre[i] hi (au h1);rw [hp] at this; cases this
  refine hN _ _ _ ⟨⟨_,rfl⟩,as++[p],by simp,le.trans (.new hp),?_,fun b hb=>?_,by rw [aG,aG,ln]; rfl,fun i b r2 h1 h2=>?_⟩
  ·rw [eS];exact⟨nd,by simp,fun x hx y hy=>by rw [cC] at hy; subst hy; intro z; exact YL (z ▸ hx)⟩
  ·rcases List.mem_append.mp hb with z | z
   ·exact fr b z
   ·rw [cC] at z; rw [z]; exact le.free hp
  ·by_cases hi:i < as.length
   ·rw [cO hi] at h1;rw [cO (by rw [<-ln]; exact hi)] at h2;have:=Kt i b r2 h1 h2;exact(gc.new hp) _ _ this
   ·rw [cz (by lia)] at h1;rw [cz (by lia)] at h2;have:i - as.length=0:=by
     have:=(List.getElem?_eq_some_iff.mp h1).1;simp at this; lia
    rw [this] at h1;rw [show i - pre.length=0 by lia] at h2;simp at h1 h2;subst h1 h2;exact aH
 ·rintro acc τ G' ⟨⟨a,rfl⟩,as,rfl,le,nd,fr,ln,Kt⟩ p hp;have YL:p∉as:=fun z=>by
   obtain⟨i,hi⟩:=mD z;have h1:i < rs.length:=by rw [<-ln]; exact(List.getElem?_eq_some_iff.mp hi).1
   have:=Kt i p rs[i] hi (au h1);rw [hp] at this; cases this
  refine di (q _ p as ⟨le.trans (.new hp),le.free hp,aH,YL,nd,fr,ln,fun i b r h1 h2=>?_⟩);exact(gc.new hp) _ _ (Kt i b r h1 h2)
noncomputable def l0:gW :=
 (cH (GR (jj (bG (PC false) (aw 1) (aw 0))) (bM (bG jy (bG qK (aw 1) (dC (.int 999))) (dC (.int 1))) (aO 1)))
 (cR (dh (aw 1))))
noncomputable def WN(n:Int):Int:=n % 999+1
noncomputable def fit(n:Int):Nat->Int
 | 0=>n
 | k+1=>WN (fit n k)
theorem ym{n:Int}(h1:1<=n)(h2:n<=999):∀ k:Nat,fit n k=(n - 1+k) % 999+1
 | 0=>by show n=_; lia
 | k+1=>by
  show WN (fit n k)=_;rw [ym h1 h2 k];unfold WN;lia
theorem NW{n:Int}{ns:List Int}(h1:1<=n)(h2:n<=999)(hl:ns.length<=500):∃ k,k<=ns.length/\fit n k∉ns:=by
 apply gk;intro VB;have zh:∀ k,k<=ns.length->fit n k∈ns:=fun k hk=>gk fun z=>VB ⟨k,hk,z⟩;have nd:((ij (ns.length+1)).map fun k=>fit n k).Nodup:=by
  refine List.pairwise_iff_getElem.mpr fun i j hi hj Ko=>?_;simp only [aB,zI] at hi hj;rw [rz,rz,oF,oF,ym h1 h2,ym h1 h2];lia
 have:=gP _ ns nd fun x hx=>by
  obtain⟨k,hk,rfl⟩:=List.mem_map.mp hx;exact zh k (by have:=List.mem_range.mp hk; lia)
 simp at this;lia
noncomputable def fO:lR:=fun ds G Q _=>∃ (d:D) (ns:List Int) (n:Int),ds=[d,.int n]/\IsL G d (ns.map D.int)/\(ns.length<=500/\1<=n/\n<=999)/\∀ m:Int,m∉ns->1<=m->m<=999->Q (.int m) G
theorem C7{G:Gp}{d:D}{ns:List Int}{i:Int}{Q:DK}(h:IsL G d (ns.map D.int))(k:Q (.bl (decide (i∈ns))) G):PC false (.int i) d G Q:=by
 have e:(ns.map D.int).any (fun x=>ig x (.int i))=decide (i∈ns):=QV ns i;rcases h with rfl | ⟨a,rfl,g⟩
 ·refine⟨.int i,ns.map D.int,.int _,Sn.rI ns,?_⟩;simp only [ar,if_false];rw [e]; exact k
 ·unfold PC;simp only [g];refine⟨.int i,ns.map D.int,.int _,Sn.rI ns,?_⟩;simp only [ar,if_false];rw [e]; exact k
theorem qf(ds:List D)(G:Gp)(Q:DK)(h:fO ds G Q fun _ _=>False):l0 (fun _ _=>False) (ends Q) (bD 2 ds) G:=by
 obtain⟨d,ns,n,rfl,hd,⟨hl,h1,h2⟩,q⟩:=h;unfold l0;refine fX (fun τ G'=>G=G'/\∃ m:Int,(m∉ns/\1<=m/\m<=999)/\τ=[some d,some (.int m)]) ?_ ?_
 ·intro N hN;obtain⟨k,hk,ou⟩:=NW h1 h2 hl;have main:∀ (j:Nat),j<=k->CF (jj (bG (PC false) (aw 1) (aw 0))) (bM (bG jy (bG qK (aw 1) (dC (.int 999))) (dC (.int 1))) (aO 1)) (j+1) (fun _ _=>False) { ends Q with nx:=N } [some d,some (.int (fit n (k - j)))] G:=by
   intro j;induction j with
   | zero =>
    intro _;show CF _ _ (0+1) _ _ _ _;rw [CF];simp only [bM,bG,aw,ae,aa,dC,aO,ends,aq,ao,lF,eM,eB];refine C7 hd ?_;simp only [Nat.sub_zero,ou,decide_false,cP,ar,if_false];have:=ym h1 h2 k;exact hN _ _ ⟨rfl,_,⟨ou,by lia,by lia⟩,rfl⟩
   | succ j ih =>
    intro hj;rw [CF];simp only [bM,bG,aw,ae,aa,dC,aO,ends,aq,ao,lF,eM,eB];refine C7 hd ?_;have hb:=ym h1 h2 (k - (j+1));by_cases hm:fit n (k - (j+1))∈ns
    ·simp only [hm,decide_true,cP,if_true];refine⟨by decide,?_⟩;have e:fit n (k - (j+1)) % 999+1=fit n (k - j):=by
      rw [show k - j=(k - (j+1))+1 by lia]; rfl
     rw [e];exact ih (by lia)
    ·simp only [hm,decide_false,cP,ar,if_false];exact hN _ _ ⟨rfl,_,⟨hm,by lia,by lia⟩,rfl⟩
  have:=main k (aE _);rw [Nat.sub_self] at this;exact⟨k+1,this⟩
 ·rintro _ _ ⟨rfl,m,⟨m1,m2,m3⟩,rfl⟩;simp only [cR,dh,aw,ae,aa,ends];exact di (q m m1 m2 m3)
noncomputable abbrev dT(t:Tb):List (List D):=t.map fun r=>r.map D.int
structure Lk(rows:Rows):Prop where
 dr:Dr rows
 sp:∀ n∈names rows,∀ w:Int,w=0\/w=1->(∃ p∈rows.zipIdx 0,(⟨n,w⟩:T2)∈sI p.1 (p.2:Int))/\Si rows ⟨n,w⟩ < rows.length
 hd:∀ n∈names rows,∃ p∈rows.flatten,p.a=n
end OZ
end K2
end
section
namespace K2
open PySem (Str)
open Enc (enc)
namespace OZ
open K2.T
open K2.P (names handOf Si sI ff fW)
open K2.Y (fU pick j3 j4 cq fe c8 gP i0)
structure Cr where
 n:Int
 i:Nat
 j:Nat
 h:Int
noncomputable def Cr.ps(c:Cr):List T3:=[⟨c.n,0,c.h⟩,⟨c.n,1,c.h⟩]
noncomputable def flat(cs:List Cr):List T3:=cs.flatMap Cr.ps
structure CR(S:Nat)(rows:Rows)(cs:List Cr):Prop where
 len:rows.length=S
 perm:rows.flatten.Perm (flat cs)
 nd:(cs.map Cr.n).Nodup
 hand:∀ c∈cs,c.h=1\/c.h=-1
 ix:∀ c∈cs,c.i < S/\c.j < S
 Uq:∀ c∈cs,∃ r,rows[c.i]?=some r/\(⟨c.n,0,c.h⟩:T3)∈r
 TX:∀ c∈cs,∃ r,rows[c.j]?=some r/\(⟨c.n,1,c.h⟩:T3)∈r
 D7:cs.length<=12
section
variable {S:Nat} {rows:Rows} {cs:List Cr}
theorem inj{c d:Cr}:∀ {cs:List Cr},(cs.map Cr.n).Nodup->c∈cs->d∈cs->c.n=d.n->c=d
 | e :: cs,h,hc,hd,hn=>by
  rw [ak,aN] at h;rcases List.mem_cons.mp hc with e1 | Aw
  ·rcases List.mem_cons.mp hd with e2 | hd2
   ·rw [e1,e2]
   ·exact absurd (by rw [<-e1,hn]; exact bI hd2) h.1
  ·rcases List.mem_cons.mp hd with e2 | hd2
   ·exact absurd (by rw [<-e2,<-hn]; exact bI Aw) h.1
   ·exact inj h.2 Aw hd2 hn
end
structure AL(G G':Gp)(as:List Nat)(rs:List (List D)):Prop where
 le:gc G G'
 nd:as.Nodup
 fr:∀ a∈as,G a=none
 len:as.length=rs.length
 at':∀ (i a:Nat) (r:List D),as[i]?=some a->rs[i]?=some r->G' a=some (.lst r)
theorem AL.nil(G:Gp):AL G G [] []:=⟨.refl G,cF,fun _ h=>by(cases h),rfl,fun i a r h=>by simp at h⟩
theorem AL.new{G G':Gp}{as:List Nat}{rs:List (List D)}(h:AL G G' as rs){p:Nat}(hp:G' p=none):p∉as:=fun z=>by
 obtain⟨i,hi⟩:=mD z;have h1:i < rs.length:=by rw [<-h.len]; exact(List.getElem?_eq_some_iff.mp hi).1
 have:=h.at' i p rs[i] hi (au h1);rw [hp] at this; cases this
theorem AL.push{G G':Gp}{as:List Nat}{rs:List (List D)}(h:AL G G' as rs){p:Nat}(hp:G' p=none)(r:List D):AL G (eL G' p (.lst r)) (as++[p]) (rs++[r]):=by
 refine⟨h.le.trans (.new hp),?_,fun b hb=>?_,by rw [aG,aG,h.len]; rfl,fun i b r2 h1 h2=>?_⟩
 ·rw [eS];exact⟨h.nd,by simp,fun x hx y hy=>by rw [cC] at hy; subst hy; intro z; exact h.new hp (z ▸ hx)⟩
 ·rcases List.mem_append.mp hb with z | z
  ·exact h.fr b z
  ·rw [cC] at z; rw [z]; exact h.le.free hp
 ·by_cases hi:i < as.length
  ·rw [cO hi] at h1;rw [cO (by rw [<-h.len]; exact hi)] at h2;exact(gc.new hp) _ _ (h.at' i b r2 h1 h2)
  ·have ln:=h.len;rw [cz (by lia)] at h1;rw [cz (by lia)] at h2;have:i - as.length=0:=by
    have:=(List.getElem?_eq_some_iff.mp h1).1;simp at this; lia
   rw [this] at h1;rw [show i - rs.length=0 by lia] at h2;simp at h1 h2;subst h1 h2;exact aH
theorem AL.top{G G':Gp}{as:List Nat}{rs:List (List D)}(h:AL G G' as rs){p:Nat}(hp:G' p=none):HL G (eL G' p (.lst (as.map D.ref))) p as rs :=
 ⟨h.le.trans (.new hp),h.le.free hp,aH,h.new hp,h.nd,h.fr,h.len,fun i b r h1 h2=>(gc.new hp) _ _ (h.at' i b r h1 h2)⟩
theorem BZ{i:Nat}{t:gW}{E:kX}{K:kI}{τ:gZ}{G:Gp}:GS i t E K τ G=t E { K with nx:=fun nH G1=>match nH[i]? with
 | some (some d)=>EL G1 d fun t G2=>K.nx (nH.set i (some t)) G2
 | _=>False } τ G:=rfl
end OZ
end K2
end
section
namespace K2
open PySem (Str)
open Enc (enc)
namespace T6
open K2.P
section
variable {α β:Type} [DecidableEq α] [DecidableEq β]
structure Tr(V:List α)(R:α->α->Prop)(A:List α):Prop where
 pw:A.Pairwise fun a b=>¬ R a b
 cov:∀ v∈V,∃ a∈A,R v a
 in':∀ a∈A,a∈V
structure Eqv(R:α->α->Prop):Prop where
 rf:∀ x,R x x
 sy:∀ {x y},R x y->R y x
 tr:∀ {x y z},R x y->R y z->R x z
variable {V:List α} {R:α->α->Prop}
noncomputable def it(f:α->α):Nat->α->α
 | 0,a=>a
 | n+1,a=>f (it f n a)
structure Pm(V:List α)(f:α->α):Prop where
 cl:∀ a∈V,f a∈V
 inj:∀ a∈V,∀ b∈V,f a=f b->a=b
variable {f:α->α}
noncomputable def gr(V:List α)(f:α->α):List (α×α):=V.map fun a=>(a,f a)
end
end T6
end K2
end
section
namespace K2
open PySem (Str)
open Enc (enc)
namespace T6
open K2.P
variable {rows:Rows}
noncomputable def flp(z:T3):T3:=⟨z.a,z.b,1 - z.c⟩
noncomputable def swp(off:List T2)(z:T3):T3:=if z.s∈off then flp z else z
noncomputable def phi(rows:Rows)(off:List T2)(a:T3):T3:=swp off (step rows a)
noncomputable def Zr(rows:Rows):List T2:=rows.flatten.map T3.s
noncomputable def Zi(rows:Rows):List T2:=(Rb rows).filter fun s=>decide (s.b=2)
noncomputable def pr(s:T2):T3×T3:=(X8 s,Xp s)
noncomputable def base(rows:Rows):List (T3×T3):=gr (UP rows) (phi rows (Zr rows))++(Zi rows).map pr
end T6
end K2
end
section
namespace K2
open PySem (Str)
open Enc (enc)
namespace ZC
open K2.P
structure HR(G G':Gp)(p0:Nat)(as:List Nat)(rs:Rows):Prop where
 le:gc G G'
 fp:G p0=none
 gp:G' p0=some (.lst (as.map D.ref))
 np:p0∉as
 nd:as.Nodup
 fr:∀ a∈as,G a=none
 len:as.length=rs.length
 at':∀ (i a:Nat) (r:List T3),as[i]?=some a->rs[i]?=some r->G' a=some (.lst (r.map enc))
structure MI(st:Int)(n:Nat)(name:Int)(L:List T3):Prop where
 off:∃ off:Int,0<=off/\off<=83 * n/\name=(st+off) % 999/\∀ p∈L,∃ o:Int,0 < o/\o<=off/\p.a=(st+o) % 999+1
 nd:(L.map T3.s).Nodup
 way:∀ p∈L,p.b=0\/p.b=1
 hand:∀ p∈L,p.c=1\/p.c=-1
 FW:∀ p∈L,(⟨p.a,1 - p.b,p.c⟩:T3)∈L
 len:L.length=2 * n
end ZC
end K2
end
section
namespace K2
open PySem (Str)
open Enc (enc)
namespace ZA
open K2.P K2.ZC
variable {rows:Rows}
theorem Nv{c:vJ}{a b:gW}{E:kX}{K:kI}{τ:gZ}{G:Gp}:ja c a b E K τ G=c E τ G fun k G1=>if k=true then a E K τ G1 else b E K τ G1:=rfl
end ZA
end K2
end
section
namespace K2
open PySem (Str)
open Enc (enc)
namespace ZA
open K2.P K2.ZC
variable {rows:Rows}
structure HI(n:Nat)(ps:List (Int×Int))(Qp:List Int):Prop where
 len:Qp.length=n
 UR:∀ x∈Qp,0<=x/\x < (n:Int)
 eq:∀ i j:Nat,i < n->j < n->(Qp.getD i 0=Qp.getD j 0↔Cn ps (i:Int) (j:Int))
end ZA
end K2
end
section
namespace K2
open PySem (Str)
open Enc (enc)
namespace T6
open K2.P
variable {rows:Rows}
end T6
end K2
end
section
namespace K2
open PySem (Str)
open Enc (enc)
namespace RX
open K2.P K2.T6
section
variable {α:Type} [DecidableEq α]
noncomputable def dd(l:List α):List α:=l.foldl (fun acc x=>if x∈acc then acc else acc++[x]) []
end
variable {rows:Rows}
end RX
end K2
end
section
namespace K2
open PySem (Str)
open Enc (enc)
noncomputable instance:Ce T2 where
 mn:=by
  intro x G xs Q hi Gk k;cases xs with
  | nil=>exact absurd rfl Gk
  | cons a r =>
   obtain⟨h1,h2⟩:=lL r a;have ei:itemsOf x G=some (((a :: r).map T2.l).map tI):=by rw [hi,bt]; rfl
   refine .inr ⟨(a :: r).map T2.l,_,ei,rfl,?_⟩;have:∀ (r:List T2) (a:T2),(r.map T2.l).foldl (fun m x=>if lexLt x m=true then x else m) a.l=(r.foldl (fun m x=>if bo.lt x m=true then x else m) a).l:=by
    intro r;induction r with
    | nil=>intro a; rfl
    | cons b r ih =>
     intro a;rw [ak,cM,cM];have e:(if lexLt b.l a.l=true then b.l else a.l)=(if bo.lt b a=true then b else a).l:=by
      have:bo.lt b a=lexLt b.l a.l:=rG _ _;rw [this];split <;> rfl
     rw [e]; exact ih _
   rw [this r a];exact k _ h1 h2
namespace RX
open K2.P K2.T6 K2.T
open K2.Y (i0)
variable {rows:Rows}
end RX
end K2
end
section
namespace K2
open PySem (Str)
open Enc (enc)
namespace RX
open K2.P K2.T
open K2.OZ (CR Cr AL dJ WN kh BZ)
open K2.Y (fU pick j3 j4 cq fe c8 gP i0)
theorem Nv{c:vJ}{a b:gW}{E:kX}{K:kI}{τ:gZ}{G:Gp}:ja c a b E K τ G=c E τ G fun k G1=>if k=true then a E K τ G1 else b E K τ G1:=rfl
theorem eq_int(i j:Int):ig (.int i) (.int j)=decide (i=j):=Enc.eqv i j
noncomputable def yX(L:List T3):List Int:=(L.filter fun p=>p.b == 0).map (·.a)
noncomputable def iq:lR:=So (fun rows:Rows=>rows.flatten.length<=500) fun rows=>yX rows.flatten
noncomputable def sV:gW :=
 (cH (bM (oJ bq) (aO 1))
 (cH (eQ (ni (aw 0)) (aO 2) (eQ (ni (aw 2)) (aO 3) (ja (jj (bG (H0 false) (bG oP (aw 3) (dC (.int 1))) (dC (.int 0)))) (rj (BX Ld tf (aw 1) (ay (bG oP (aw 3) (dC (.int 0))) bq))) fA)))
 (cR (dh (aw 1)))))
theorem v9(L:List T3):(yX L).length<=L.length:=by unfold yX; rw [aB]; exact dw _ _
theorem P7(a b:List T3):yX (a++b)=yX a++yX b:=by unfold yX; rw [dI,bw]
theorem uc(ds:List D)(G:Gp)(Q:DK)(h:iq ds G Q fun _ _=>False):sV (fun _ _=>False) (ends Q) (bD 4 ds) G:=by
 obtain⟨rows,rfl,hl,q⟩:=h;unfold sV;simp only [ends,bD,ak,br,aj,aF,bg,az,aT,c7,bM,oJ,bq,aO,aq,ao];refine⟨by decide,fun p hp=>?_⟩;refine fX (fun τ G'=>(∃ a b,τ=[some (enc rows),some (.ref p),a,b])/\gc G G'/\G' p=some (.lst ((yX rows.flatten).map enc))) ?_ ?_
 ·intro N hN;simp only [eQ,gq,aw,aa];refine i4 ?_;refine dQ (xs:=rows) (fun pre τ G'=>(∃ a b,τ=[some (enc rows),some (.ref p),a,b])/\gc G G'/\G' p=some (.lst ((yX pre.flatten).map enc))) ⟨⟨_,_,rfl⟩,.new hp,aH⟩ (fun _ _ _ _=>trivial) ?_ ?_
  ·rintro pre r post τ G' N2 e ⟨⟨a,b,rfl⟩,l,gp⟩ nj;have hlen:pre.flatten.length+r.length<=rows.flatten.length:=by
    rw [e]; simp only [jJ,fJ,aG]; lia
   simp only [aO,eQ,aq,ao,gq,aw,ae,aa];refine i4 ?_;refine dQ (xs:=r) (fun pp τ G'=>(∃ a b,τ=[some (enc rows),some (.ref p),a,b])/\gc G G'/\G' p=some (.lst ((yX (pre.flatten++pp)).map enc))) ⟨⟨_,_,rfl⟩,l,by rw [cN]; exact gp⟩ (fun _ _ _ _=>trivial) ?_ ?_
   ·rintro pp t pt τ G4 N3 e4 ⟨⟨a,b,rfl⟩,l4,Tv⟩ IU;have hpp:pp.length < r.length:=by have:=congrArg dU e4; simp at this; lia
    have hz:=v9 (pre.flatten++pp);rw [aG] at hz;simp only [aO,yu,aq,ao,Nv,rj,BX,aw,ae,aa,vX,ay,bG,dC,bq,pL,kc,Uq,fA,eB,TX];refine⟨_,_,.int _,.int _,?_⟩;rw [eq_int];have eu:yX (pre.flatten++(pp++[t]))=yX (pre.flatten++pp)++yX [t]:=by rw [<-cf,P7]
    by_cases hb:t.b=0
    ·simp only [ar,hb,decide_true,bQ,if_false,cP,Tv,true_and,if_true];refine⟨Sh (by rw [aB]; lia),IU _ _ ⟨⟨_,_,rfl⟩,l4.put hp,?_⟩⟩;rw [aH,eu,bw];have:yX [t]=[t.a]:=by simp [yX,hb]
     rw [this]; rfl
    ·simp only [ar,hb,decide_false,fF,if_false,cP];refine IU _ _ ⟨⟨_,_,rfl⟩,l4,?_⟩;have:yX [t]=[]:=by simp [yX,hb]
     rw [eu,this,cN]; exact Tv
   ·rintro τ G4 ⟨⟨a,b,rfl⟩,l4,Tv⟩;refine nj _ _ ⟨⟨_,_,rfl⟩,l4,?_⟩;have:(pre++[r]).flatten=pre.flatten++r:=by simp
    rw [this]; exact Tv
  ·rintro τ G' ⟨⟨a,b,rfl⟩,l,gp⟩;exact hN _ _ ⟨⟨_,_,rfl⟩,l,gp⟩
 ·rintro _ G' ⟨⟨a,b,rfl⟩,l,gp⟩;simp only [cR,dh,aw,ae,aa];exact pQ l hp gp q
theorem IL{G G2:Gp}{d:D}{ds:List D}{R:List D->(Gp->Prop)->Gp->Prop}(h:IsL G d ds)(l:gc G G2)(k:∀ ok:Gp->Prop,(∀ G',gc G G'->ok G')->R ds ok G2):Qm d G2 R:=by
 rcases h with rfl | ⟨a,rfl,e⟩
 ·exact k _ fun _ _=>trivial
 ·rw [IM (l _ _ e)];exact k _ fun G' le=>le _ _ e
end RX
end K2
end
section
namespace K2
open PySem (Str)
open Enc (enc)
namespace JB
open K2.T
open K2.P (names handOf ff fW lg we pairsOf)
open K2.Y (fU pick j3 j4 cq fe c8 i0)
open K2.OZ (AL kh BZ)
open K2.RX (IL yX v9)
noncomputable def dJ:lR:=OZ.dJ
noncomputable def ma:gW :=
 (cR (dh (iR 1 [] (ni (aw 0)) (aO 0) none (zx vI (ay (aw 0) bq)))))
theorem qg(ds:List D)(G:Gp)(Q:DK)(h:dJ ds G Q fun _ _=>False):ma (fun _ _=>False) (ends Q) (bD 1 ds) G:=OZ.qg ds G Q h
noncomputable def fO:lR:=OZ.fO
noncomputable def l0:gW :=
 (cH (GR (jj (bG (PC false) (aw 1) (aw 0))) (bM (bG jy (bG qK (aw 1) (dC (.int 999))) (dC (.int 1))) (aO 1)))
 (cR (dh (aw 1))))
theorem qf(ds:List D)(G:Gp)(Q:DK)(h:fO ds G Q fun _ _=>False):l0 (fun _ _=>False) (ends Q) (bD 2 ds) G:=OZ.qf ds G Q h
noncomputable def w9:gW :=
 (cH (bM (bC dJ (ay (aw 0) bq)) (aO 4))
 (cH (bM (bG qK (aw 2) (bG jy (zx zB (ay (bG oP (aw 4) (aw 1)) bq)) (dC (.int 1)))) (aO 2))
 (cH (bM (bG jy (bG jy (KI (bG oP (aw 4) (aw 1)) jC (rh (aw 2))) (aw 3)) (KI (bG oP (aw 4) (aw 1)) (rh (aw 2)) jC)) (kC (aw 4) (aw 1)))
 (cR (dh (aw 4))))))
noncomputable def i7:lR:=fun ds G Q _=>∃ (rs:List (List D)) (i:Nat) (pl:Int) (more:List D),ds=[.dR (rs.map D.dR),.int i,.int pl,.dR more]/\(i < rs.length/\rs.length<=1000/\(∀ r∈rs,r.length<=500)/\more.length<=100)/\∀ (r:List D) (k:Nat),rs[i]?=some r->k<=r.length->(k:Int)=pl % ((r.length:Int)+1)->Q (.dR ((rs.set i (r.take k++more++r.drop k)).map D.dR)) G
theorem Hj(ds:List D)(G:Gp)(Q:DK)(h:i7 ds G Q fun _ _=>False):w9 (fun _ _=>False) (ends Q) (bD 5 ds) G:=by
 obtain⟨rs,i,pl,more,rfl,⟨hi,hl,hr,hm⟩,q⟩:=h;unfold w9;simp only [ends,bD,ak,br,aj,aF,bg,az,aT,c7,bM,bC,ay,aw,aa,bq,aO,aq,ao,bG,ae,zx,dC,KI,jC,kC,cR,dh,pX];refine⟨rs,rfl,hl,fun G1 p0 as h1=>?_⟩;obtain⟨r,er⟩:∃ r,rs[i]?=some r:=⟨rs[i],au hi⟩;have hrl:=hr r (eD er);obtain⟨a,ea,ga,ia⟩:=h1.row (i:=i) (r:=r) er;refine FE (IsL.ref h1.gp) ia (QR (IsL.ref ga) ?_);simp only [eM,lF,jR];refine⟨by lia,?_⟩;have c1:0<=pl % ((r.length:Int)+1):=i5 _ (by lia);have c2:pl % ((r.length:Int)+1) < (r.length:Int)+1:=gz _ (by lia);generalize ec:pl % ((r.length:Int)+1)=c at c1 c2;obtain⟨k,rfl⟩:∃ k:Nat,c=(k:Int):=⟨c.toNat,by lia⟩;have hk:k<=r.length:=by lia
 refine FE (IsL.ref h1.gp) ia (Bb (IsL.ref ga) fun p1 f1=>?_);rw [Ol _ _ hk];have l1:=gc.new (o:=.lst (r.take k)) f1;refine Bc (IsL.ref aH) (IsL.dR) (by rw [eF]; exact Lf (by lia)) fun p2 f2=>?_;have l2:=gc.new (o:=.lst (r.take k++more)) f2;have WB:=l1.trans l2;refine FE (IsL.ref (WB _ _ h1.gp)) ia (Bb (IsL.ref (WB _ _ ga)) fun p3 f3=>?_);rw [Er _ _ hk];have l3:=gc.new (o:=.lst (r.drop k)) f3;refine Bc (IsL.ref (l3 _ _ aH)) (IsL.ref aH) (by simp only [aG,eF,cV]; exact Lf (by lia)) fun p4 f4=>?_;have l4:=gc.new (o:=.lst (r.take k++more++r.drop k)) f4;have h4:=h1.ext ((WB.trans l3).trans l4);have hn:∀ o,G1 p4≠some o:=fun o z=>by
  have:=(WB.trans l3) _ _ z;rw [f4] at this; cases this
 have n4:p4∉as:=fun z=>by
  obtain⟨j,hj⟩:=mD z;have hjl:j < rs.length:=by rw [<-h1.len]; exact(List.getElem?_eq_some_iff.mp hj).1
  exact hn _ (h1.at' j p4 _ hj (au hjl))
 have n0:p4≠p0:=fun z=>hn _ (by rw [z]; exact h1.gp);have hf4:G p4=none:=by
  cases e:G p4 with
  | none=>rfl
  | some o=>exact absurd (h1.le _ _ e) (hn o)
 have hj:i < as.length:=(List.getElem?_eq_some_iff.mp ea).1;have h5:=h4.Mi (r':=r.take k++more++r.drop k) hj aH n4 hf4 n0;unfold wW;simp only [h4.gp];have ei:II (as.map D.ref).length (i:Int)=some i:=by
  unfold II;rw [if_pos (by lia),if_pos (by rw [aB]; lia)]; simp
 simp only [ei];have es:(as.map D.ref).set i (.ref p4)=(as.set i p4).map D.ref:=by rw [List.map_set]
 rw [es];refine h5.fz ?_;exact q r k er hk ec.symm
theorem FF{α:Type} [DecidableEq α] [Enc α]{G:Gp}{Q:DK}{rows:List (List α)}{i:Nat}{pl:Int}{more:List α}(h:i < rows.length/\rows.length<=1000/\(∀ r∈rows,r.length<=500)/\more.length<=100)
  (q:∀ (r:List α) (k:Nat),rows[i]?=some r->k<=r.length->(k:Int)=pl % ((r.length:Int)+1)->Q (enc (rows.set i (r.take k++more++r.drop k))) G):i7 [enc rows,.int i,.int pl,enc more] G Q fun _ _=>False:=by
 refine⟨rows.map fun r=>r.map enc,i,pl,more.map enc,by rw [kh]; rfl,⟨by rw [aB]; exact h.1,by rw [aB]; exact h.2.1,fun r hr=>?_,by rw [aB]; exact h.2.2.2⟩,fun r k hr hk e=>?_⟩
 ·obtain⟨r',Vy,rfl⟩:=List.mem_map.mp hr;rw [aB]; exact h.2.2.1 r' Vy
 ·rw [bB] at hr;obtain⟨r',Vy,rfl⟩:=Option.map_eq_some_iff.mp hr;rw [aB] at hk e;have:=q r' k Vy hk e;rw [kh,List.map_set,bw,bw,List.map_take,List.map_drop] at this;exact this
theorem Dr.two{rows R:Rows}(d:Dr rows){m h:Int}(hm:∀ p∈rows.flatten,p.a≠m)(hh:h=1\/h=-1)(hp:R.flatten.Perm (⟨m,1,h⟩ :: ⟨m,0,h⟩ :: rows.flatten))(D7:rows.flatten.length<=22)(str:R.length<=3):Dr R:=by
 have mem:∀ p,p∈R.flatten↔p=⟨m,1,h⟩\/p=⟨m,0,h⟩\/p∈rows.flatten:=fun p=>by rw [hp.mem_iff,aY,aY]
 refine⟨?_,fun p h1=>?_,fun p h1=>?_,fun p h1=>?_,?_,str⟩
 ·refine(hp.map T3.s).nodup_iff.mpr ?_;rw [ak,ak,aN,aN];have out:∀ w:Int,(⟨m,w⟩:T2)∉rows.flatten.map T3.s:=fun w z=>by
   obtain⟨p,uj,e⟩:=List.mem_map.mp z;injection e with e1 _
   exact hm p uj e1
  refine⟨fun z=>?_,out 0,d.nd⟩;rcases List.mem_cons.mp z with z | z
  ·injection z with _ z2; cases z2
  ·exact out 1 z
 ·rcases (mem p).mp h1 with rfl | rfl | h1
  ·exact .inr rfl
  ·exact .inl rfl
  ·exact d.way p h1
 ·rcases (mem p).mp h1 with rfl | rfl | h1
  ·exact hh
  ·exact hh
  ·exact d.hand p h1
 ·rcases (mem p).mp h1 with rfl | rfl | h1
  ·exact(mem _).mpr (.inr (.inl rfl))
  ·exact(mem _).mpr (.inl rfl)
  ·exact(mem _).mpr (.inr (.inr (d.FW p h1)))
 ·rw [hp.length_eq,aj,aj]; lia
theorem Dr.nil{S:Nat}(h:S<=3):Dr (bg S []):=by
 have e:(bg S ([]:List T3)).flatten=[]:=by
  rw [List.flatten_eq_nil_iff]; intro l hl; exact(List.mem_replicate.mp hl).2
 refine⟨by rw [e]; exact cF,fun p hp=>?_,fun p hp=>?_,fun p hp=>?_,by rw [e]; simp,by simpa using h⟩ <;> rw [e] at hp <;> cases hp
theorem ng{rows:Rows}{i k:Nat}{r more:List T3}(hr:rows[i]?=some r):(rows.set i (r.take k++more++r.drop k)).flatten.Perm (more++rows.flatten):=by
 refine(NU hr).trans ?_;refine O6 ?_ ((Qu hr).symm.append_left _);rw [<-cf];refine List.Perm.append_right _ ?_
 conv=>rhs; rw [<-ue k r]
 rw [<-cf];exact List.perm_append_comm.append_right _
noncomputable def Zx(rows:Rows)(ns:List Int):Prop:=∀ p∈rows.flatten,p.a∈ns
noncomputable def pB:gW :=
 (cH (GS 3 (bM (iR 1 [] (DR (aw 1)) (aO 0) none (oJ bq)) (aO 3)))
 (cH (bM (oJ bq) (aO 4))
 (cH (eQ (ni (aw 0)) (aO 5) (cH (bM (bC fO (ay (aw 4) (ay (bG jy (dC (.int 1)) (bC c8 (ay (aw 5) (ay (dC (.int 10007)) (ay (aw 2) bq))))) bq))) (aO 6))
 (cH (rj (BX Ld tf (aw 4) (ay (aw 6) bq)))
 (cH (bM (bG JO (dC (.int 1)) (bG xf (dC (.int 2)) (bC c8 (ay (aw 5) (ay (dC (.int 10009)) (ay (dC (.int 2)) bq)))))) (aO 7))
 (eQ (DR (dC (.int 2))) (aO 8) (cH (bM (bG jy (dC (.int 10037)) (bG xf (dC (.int 24)) (aw 8))) (aO 9))
 (cH (bM (bC c8 (ay (aw 5) (ay (bG jy (dC (.int 10039)) (bG xf (dC (.int 28)) (aw 8))) (ay (dC (.int 10000)) bq)))) (aO 10))
 (bM (dh (bC i7 (ay (dh (aw 3)) (ay (dh (bC c8 (ay (aw 5) (ay (aw 9) (ay (aw 1) bq))))) (ay (dh (aw 10)) (ay (dh (oJ (ay (iM (ay (aw 6) (ay (aw 8) (ay (aw 7) bq)))) bq))) bq)))))) (aO 3)))))))))
 (cR (dh (aw 3))))))
noncomputable def jt:lR:=fun ds G Q _=>∃ (d:D) (cells:List Int) (S:Nat) (sp:Int),ds=[d,.int S,.int sp]/\IsL G d (cells.map D.int)/\(cells.length<=12/\(1<=S/\S<=3)/\1<=sp/\sp<=999) /\
 ∀ rows:Rows,Dr rows->rows.length=S->rows.flatten.length=2 * cells.length->Q (enc rows) G
theorem yJ(ds:List D)(G:Gp)(Q:DK)(h:jt ds G Q fun _ _=>False):pB (fun _ _=>False) (ends Q) (bD 11 ds) G:=by
 obtain⟨d,cells,S,sp,rfl,hd,⟨NH,⟨hS1,Y5⟩,ZS,ZR⟩,q⟩:=h;unfold pB;simp only [ends,bD,ak,br,aj,aF,bg,az,aT,lA,BZ,bM,iR,aO,aq,ao,ae,aa,oJ,bq,tJ,aw,ql,fL];have Vx:(-(2 ^ 62):Int)<=(S:Int)/\(S:Int) < 2 ^ 62:=by lia
 refine⟨Vx.1,Vx.2,Lf (by simp [gS]; lia),?_⟩;refine QI (fun pre acc τ G'=>(∃ a,τ=[a])/\∃ as:List Nat,acc=as.map D.ref/\AL G G' as (bg pre.length [])) ⟨⟨_,rfl⟩,[],rfl,.nil G⟩ (fun _ _ _ _ _=>trivial) ?_ ?_
 ·rintro pre x post acc τ G' N e ⟨⟨a,rfl⟩,as,rfl,al⟩ hN;simp only [aO,oJ,bq,aF,ao];refine⟨by decide,fun p hp=>hN _ _ _ ⟨⟨_,rfl⟩,as++[p],by simp,?_⟩⟩;rw [aG,dq,List.replicate_succ'];exact al.push hp []
 rintro acc τ G' ⟨⟨a,rfl⟩,as,rfl,al⟩ p3 f3;refine(al.top f3).fz ?_;have e3:D.dR ((bg (gS 0 S).length ([]:List D)).map D.dR)=enc (bg S ([]:List T3)):=by
  rw [kh]; simp [gS]
 rw [e3];clear al f3 p3 as G' a e3;refine⟨by decide,fun p6 f6=>?_⟩;simp only [eQ];simp only [gq,aw,aa];refine IL hd (.new f6) fun ok cD=>?_;refine dQ (xs:=cells) (f:=D.int) (fun pre τ G'=>gc G G'/\∃ (rows:Rows) (ns:List Int) (a1 a2 a3 a4 a5 a6:Option D),(Dr rows/\rows.length=S/\rows.flatten.length=2 * pre.length/\ns.length=pre.length/\Zx rows ns)/\G' p6=some (.lst (ns.map D.int)) /\
  τ=[some d,some (.int S),some (.int sp),some (enc rows),some (.ref p6),a1,a2,a3,a4,a5,a6]) ⟨.new f6,_,[],_,_,_,_,_,_,⟨Dr.nil Y5,by simp,by simp,rfl,fun p hp=>by simp at hp⟩,aH,rfl⟩ (fun _ _ _ h=>cD _ h.1) ?_ ?_
 ·rintro pre x post τ G' N2 e ⟨le,rows,ns,a1,a2,a3,a4,a5,a6,⟨dr,hlen,YX,VM,VC⟩,Za,rfl⟩ nj;have hlp:=i0 e;simp only [aO,aq,ao,lA,bM,bC,ay,aw,ae,aa,bG,dC,bq,rj,BX,vX,pL];refine⟨_,_,_,rfl,⟨by decide,by lia⟩,?_⟩;simp only [eM];have q1:=j3 x 10007 (m:=sp) (by lia);have q2:=j4 x 10007 (m:=sp) (by lia);refine⟨.ref p6,ns,_,rfl,IsL.ref Za,⟨by lia,by lia,by lia⟩,fun m m1 m2 m3=>?_⟩;simp only [Za,true_and];refine⟨Sh (by rw [aB]; lia),?_⟩;have OX:gc G (eL G' p6 (.lst (ns.map D.int++[.int m]))):=le.put f6;have g62:(eL G' p6 (.lst (ns.map D.int++[.int m]))) p6=some (.lst (ns.map D.int++[.int m])):=aH;generalize eL G' p6 (.lst (ns.map D.int++[.int m]))=G2 at OX g62;refine⟨_,_,_,rfl,by decide,?_⟩;simp only [jx,pF];have h1:=j3 x 10009 (m:=2) (by decide);have h2:=j4 x 10009 (m:=2) (by decide);refine⟨.inl ⟨by decide,by decide⟩,?_⟩;have hh:(1 - 2 * pick x 10009 2)=1\/(1 - 2 * pick x 10009 2)=-1:=by lia
  generalize (1 - 2 * pick x 10009 2)=hd at hh;simp only [eQ];simp only [tJ,dC,ql];refine⟨by decide,by decide,?_⟩;have er:gS 0 (Int.toNat 2)=([0,1]:List Int).map D.int:=rfl;rw [er];have rl:=Mh dr;have fw:=dr.D7;have YN:∀ p∈rows.flatten,p.a≠m:=fun p hp z=>m1 (z ▸ VC p hp);refine dQ (xs:=([0,1]:List Int)) (f:=D.int) (fun ze τ G3=>G2=G3/\∃ (R:Rows) (b1 b2 b3:Option D),((ze=[]/\R=rows)\/(∃ (i:Nat) (r:List T3) (k:Nat),ze=[0]/\i < S/\rows[i]?=some r/\R=rows.set i (r.take k++[⟨m,0,hd⟩]++r.drop k))\/(ze=[0,1]/\Dr R/\R.length=S/\R.flatten.Perm (⟨m,1,hd⟩ :: ⟨m,0,hd⟩ :: rows.flatten))) /\
   τ=[some d,some (.int S),some (.int sp),some (enc R),some (.ref p6),some (.int x),some (.int m),some (.int hd),b1,b2,b3]) ⟨rfl,rows,_,_,_,.inl ⟨rfl,rfl⟩,rfl⟩ (fun _ _ _ _=>trivial) ?_ ?_
  ·rintro ze w ZX τ G3 N3 e2 ⟨rfl,R,b1,b2,b3,J,rfl⟩ IU;have TM:(ze=[]/\w=0)\/(ze=[0]/\w=1):=by
    cases ze with
    | nil=>cases e2; exact .inl ⟨rfl,rfl⟩
    | cons u ze =>
     cases ze with
     | nil=>cases e2; exact .inr ⟨rfl,rfl⟩
     | cons v ze =>
      have:=congrArg dU e2;simp at this
   rcases TM with ⟨rfl,rfl⟩ | ⟨rfl,rfl⟩
   ·have eR:R=rows:=by
     rcases J with ⟨_,z⟩ | ⟨_,_,_,z,_⟩ | ⟨z,_⟩
     ·exact z
     ·cases z
     ·cases z
    subst eR;simp only [aO,aq,ao,lA,bM,bG,dC,aw,ae,aa,bC,ay,bq,dh,oJ,iM,aj,aF,jx,eM];refine⟨.inl ⟨by decide,by decide⟩,?_⟩;refine⟨.inl ⟨by decide,by decide⟩,?_⟩;refine⟨_,_,_,rfl,⟨by decide,by decide⟩,?_⟩;refine di ⟨_,_,_,rfl,⟨by decide,by lia⟩,di ?_⟩;have i1:=j3 x (10037+24 * 0) (m:=S) (by lia);have i2:=j4 x (10037+24 * 0) (m:=S) (by lia);generalize pick x (10037+24 * 0) S=oi at i1 i2;obtain⟨i,rfl⟩:∃ i:Nat,oi=(i:Int):=⟨oi.toNat,by lia⟩;refine di ⟨by decide,by decide,fun pa fa=>?_⟩;refine pQ (xs:=[(⟨m,0,hd⟩:T3)]) (.new fa) fa aH ?_;refine FF (rows:=R) (more:=[(⟨m,0,hd⟩:T3)]) ⟨by rw [hlen]; lia,by rw [hlen]; lia,fun r hr=>by have:=rl r hr; lia,by simp⟩ fun r k hr hk ek=>di ?_;exact IU _ _ ⟨rfl,_,_,_,_,.inr (.inl ⟨i,r,k,rfl,by lia,hr,rfl⟩),rfl⟩
   ·obtain⟨i,r,k,hi,hr,rfl⟩:∃ (i:Nat) (r:List T3) (k:Nat),i < S/\rows[i]?=some r/\R=rows.set i (r.take k++[⟨m,0,hd⟩]++r.drop k):=by
     rcases J with ⟨z,_⟩ | ⟨i,r,k,_,z⟩ | ⟨z,_⟩
     ·cases z
     ·exact⟨i,r,k,z⟩
     ·cases z
    simp only [aO,aq,ao,lA,bM,bG,dC,aw,ae,aa,bC,ay,bq,dh,oJ,iM,aj,aF,jx,eM];refine⟨.inl ⟨by decide,by decide⟩,?_⟩;refine⟨.inl ⟨by decide,by decide⟩,?_⟩;refine⟨_,_,_,rfl,⟨by decide,by decide⟩,?_⟩;refine di ⟨_,_,_,rfl,⟨by decide,by lia⟩,di ?_⟩;have i1:=j3 x (10037+24 * 1) (m:=S) (by lia);have i2:=j4 x (10037+24 * 1) (m:=S) (by lia);generalize pick x (10037+24 * 1) S=oj at i1 i2;obtain⟨j,rfl⟩:∃ i:Nat,oj=(i:Int):=⟨oj.toNat,by lia⟩;refine di ⟨by decide,by decide,fun pa fa=>?_⟩;refine pQ (xs:=[(⟨m,1,hd⟩:T3)]) (.new fa) fa aH ?_;refine FF (more:=[(⟨m,1,hd⟩:T3)]) ⟨by rw [du,hlen]; lia,by rw [du,hlen]; lia,fun r2 hr2=>?_,by simp⟩ fun r' k' Vy WI ek'=>di ?_
    ·rcases Hu hr2 with z | z
     ·have:=rl r2 z; lia
     ·have:=rl r (eD hr);rw [z,aG,aG,dq,eF,cV]; lia
    have pf:=(ng (k:=k') (more:=[⟨m,1,hd⟩]) Vy).trans ((ng (k:=k) (more:=[⟨m,0,hd⟩]) hr).append_left _);have Zk:Dr ((rows.set i (r.take k++[⟨m,0,hd⟩]++r.drop k)).set j (r'.take k'++[⟨m,1,hd⟩]++r'.drop k')):=K2.JB.Dr.two dr YN hh pf (by lia) (by rw [du,du]; lia);exact IU _ _ ⟨rfl,_,_,_,_,.inr (.inr ⟨rfl,Zk,by rw [du,du]; exact hlen,pf⟩),rfl⟩
  ·rintro τ G3 ⟨rfl,R,b1,b2,b3,J,rfl⟩;obtain⟨drn,ln,pf⟩:Dr R/\R.length=S/\R.flatten.Perm (⟨m,1,hd⟩ :: ⟨m,0,hd⟩ :: rows.flatten):=by
    rcases J with ⟨z,_⟩ | ⟨_,_,_,z,_⟩ | ⟨_,z⟩
    ·cases z
    ·cases z
    ·exact z
   refine nj _ _ ⟨OX,R,ns++[m],_,_,_,_,_,_,⟨drn,ln,by rw [pf.length_eq,aj,aj,aG,dq]; lia,by rw [aG,aG,VM]; rfl,fun p hp=>?_⟩,?_,rfl⟩
   ·rcases List.mem_cons.mp (pf.mem_iff.mp hp) with rfl | hp
    ·simp
    ·rcases List.mem_cons.mp hp with rfl | hp
     ·simp
     ·exact mC _ (VC p hp)
   ·rw [g62,bw]; rfl
 ·rintro τ G' ⟨le,rows,ns,a1,a2,a3,a4,a5,a6,⟨dr,hlen,YX,VM,VC⟩,Za,rfl⟩;simp only [cR,dh,aw,ae,aa];exact tM le (q rows dr hlen YX)
end JB
end K2
end
section
namespace K2
open PySem (Str)
open Enc (enc)
namespace K33
open K2.Y
noncomputable def kO:gW :=
 (cH (bM mM (aO 3))
 (cH (eQ (pN (aw 0)) (aO 4) (bM (bG zV (bG oP (aw 0) (aw 4)) (aw 2)) (kC (aw 3) (bG jy (aw 4) (aw 1)))))
 (cR (dh (bC ip (ay (dh (aw 3)) bq))))))
noncomputable def fN:lR:=dZ
theorem oe(ds:List D)(G:Gp)(Q:DK)(h:fN ds G Q fun _ _=>False):kO (fun _ _=>False) (ends Q) (bD 5 ds) G:=by
 obtain⟨d,l,b,f,rfl,hd,hl,⟨hb,hf⟩,q⟩:=h;unfold kO;simp only [ends,bD,ak,br,aj,aF,bg,az,aT,c7,bM,mM,aO,aq,ao];intro p hp;refine fX (fun τ G'=>(∃ u,τ=[some d,some (.int b),some (.int f),some (.ref p),u])/\gc G G'/\G' p=some (.fZ (bu (CN b f l)))) ?_ ?_
 ·intro N hN;simp only [eQ,pN,aw,aa];refine rL hd.is (.new hp) fun ok cD=>?_;refine dQ (xs:=l) (fun pre τ G'=>(∃ u,τ=[some d,some (.int b),some (.int f),some (.ref p),u])/\gc G G'/\G' p=some (.fZ (bu (CN b f pre)))) ⟨⟨_,rfl⟩,.new hp,aH⟩ (fun pre τ G' h=>cD G' h.2.1) ?_ ?_
  ·rintro pre x post τ G' N2 e ⟨⟨u,rfl⟩,le,gp⟩ nj;have hlen:(CN b f pre).length < SZ:=by
    have:=i0 e;unfold CN; rw [aB]; lia
   have hm:x∈l:=by rw [e]; simp
   have hx:x.2.natAbs < oK:=fi (wa hm) hb;simp only [aO,bM,bG,aw,aq,ao,aa,ae,kC,eM];refine C6 hd.is.p (qa hd.nd hm) ?_;refine⟨⟨hx,hf⟩,?_⟩;refine fK (α:=Int) gp hlen ?_;exact nj _ _ ⟨⟨_,rfl⟩,le.put hp,by rw [aH,<-wU b f hd.nd e]⟩
  ·rintro τ G' ⟨⟨u,rfl⟩,le,gp⟩;exact hN _ _ ⟨⟨_,rfl⟩,le,gp⟩
 ·rintro _ G' ⟨⟨u,rfl⟩,le,gp⟩;simp only [cR,dh,bC,ay,aw,ae,aa,bq];refine gU le hp gp ?_;refine⟨_,CN b f l,rfl,⟨rfl,wV hd.nd b f⟩,by unfold CN; rw [aB]; exact hl,fun p2 oQ=>?_⟩;exact nW (.new oQ) oQ aH q
end K33
end K2
end
section
namespace K2
open PySem (Str)
open Enc (enc)
namespace JB
open K2.P K2.J
open K2.Y (Po L ND NZ eV hX dZ ip hV cq c8 fU pick j3 j4 Pl N4)
open K2.OZ (kh)
open K2.RX (yX v9 iq)
variable {rows:Rows}
noncomputable def wr(rows:Rows):Int:=((names rows).map (handOf rows)).sum
noncomputable def zQ:gW :=
 (cR (dh (zx TN (ay (iR 1 [0] (ni (bC ff (ay (aw 0) bq))) (aO 0) none (bC fW (ay (aw 1) (ay (aw 0) bq)))) bq))))
noncomputable def qi:lR:=fun ds G Q _=>∃ rows:Rows,ds=[enc rows]/\Dr rows/\Q (.int (wr rows)) G
theorem KW(ds:List D)(G:Gp)(Q:DK)(h:qi ds G Q fun _ _=>False):zQ (fun _ _=>False) (ends Q) (bD 1 ds) G:=by
 obtain⟨rows,rfl,d,q⟩:=h;have D7:=d.D7;have nl:=xN d;unfold zQ;simp only [cR,dh,zx,ay,iR,bD,ak,br,aj,aF,az,aT,bq,ends,gq,bC,aw,aa];refine⟨rows,rfl,(show rows.flatten.length < 64 by lia),i4 ⟨Lf (by rw [aB]; show (names rows).length<=1000; lia),?_⟩⟩;refine lM (xs:=names rows) (fun pre acc τ G'=>G=G'/\(∃ a,τ=[a,some (enc rows)])/\acc=(pre.map (handOf rows)).map D.int) ⟨rfl,⟨_,rfl⟩,rfl⟩ (fun _ _ _ _ _=>trivial) ?_ ?_
 ·rintro pre n post acc τ G' N e ⟨rfl,⟨a,rfl⟩,rfl⟩ hN;have hn:n∈names rows:=by rw [e]; simp
  simp only [aO,bC,ay,aw,wg,ao,ae,aa,bq];refine⟨rows,n,rfl,⟨by lia,RK d hn⟩,?_⟩;refine hN _ _ _ ⟨rfl,⟨_,rfl⟩,?_⟩;rw [bw,bw]; rfl
 ·rintro acc τ G' ⟨rfl,⟨a,rfl⟩,rfl⟩ p hp;refine⟨(names rows).map (handOf rows),LO (IsL.ref aH),nU (IsL.ref aH),⟨by rw [aB]; lia,fun n hn=>?_⟩,tM (.new hp) q⟩;obtain⟨m,hm,rfl⟩:=List.mem_map.mp hn;obtain⟨p,uj,_,e⟩:=lg.mp hm;have:=d.hand p uj;rw [<-we d uj,e] at this;lia
noncomputable def sgn(t:Int):Int:=1 - 2 * (t % 2)
noncomputable def lvl(rows:Rows)(g:Fn):Int:=sgn (wr rows) * brk rows (sh (-3 * wr rows) g)
theorem S2{T:Po}{b f:Int}(h:f.natAbs<=1):eV (hX T b f)<=eV T:=by
 unfold hX;refine aZ (Y.qp _) ?_;induction T with
 | nil=>exact aE _
 | cons p m ih =>
  rw [ak,eV,eV];have:(p.2 * f).natAbs<=p.2.natAbs:=by
   rw [Int.natAbs_mul];exact aZ (wJ _ h) (by lia)
  show (p.2 * f).natAbs+_<=_;lia
theorem BP.moved{T:Po}{f:Fn->Int}(b:BP T f)(by' c:Int)(hc:c=1\/c=-1):BP (hX T by' c) (fun g=>c * f (sh by' g)) :=
 ⟨Y.zW b.nd _ _,Y.xC _,aZ (S2 (by lia)) b.eV,fun g=>by rw [Y.EJ,<-b.val]; rfl⟩
theorem BP.eq{T U:Po}{f k:Fn->Int}(b:BP T f)(c:BP U k)(h:∀ g,f g=k g):rT T U=true:=N4 b.nd c.nd b.nz c.nz fun g=>by rw [b.val,c.val,h]
theorem BP.big{T:Po}{f:Fn->Int}(b:BP T f):Y.eV T < oK:=jX (aZ b.eV (by decide))
theorem BP.sz{T:Po}{f:Fn->Int}(b:BP T f):T.length<=SZ:=aZ b.len (by decide)
theorem Ma(t:Int):sgn t=1\/sgn t=-1:=by unfold sgn; lia
noncomputable def vq:gW :=
 (cH (bM (bC qi (ay (aw 0) bq)) (aO 1))
 (cH (bM (V3 (jj (bG (H0 false) (bG qK (aw 1) (dC (.int 2))) (dC (.int 0)))) (dC (.int 1)) (Oe FD (dC (.int 1)))) (aO 2))
 (cR (dh (bC dZ (ay (dh (bC hW (ay (aw 0) bq))) (ay (dh (bG xf (Oe FD (dC (.int 3))) (aw 1))) (ay (dh (aw 2)) bq))))))))
noncomputable def ka:lR:=fun ds G Q _=>∃ rows:Rows,ds=[enc rows]/\(Dr rows/\rows.flatten.length<=12)/\∀ T:Po,BP T (lvl rows)->Q (.ji (bu T)) G
theorem EE(ds:List D)(G:Gp)(Q:DK)(h:ka ds G Q fun _ _=>False):vq (fun _ _=>False) (ends Q) (bD 3 ds) G:=by
 obtain⟨rows,rfl,⟨d,hl⟩,q⟩:=h;unfold vq;simp only [↓c7,bM,bC,ay,aw,bD,↓ak,↓br,↓aj,↓aF,bg,↓az,↓aT,↓aa,bq,aO,V3,↓eB,bG,↓aq,↓ao,↓ae,dC,cR,dh,Oe,↓pG,ends];refine⟨rows,rfl,d,?_⟩;refine⟨by decide,?_⟩;refine⟨_,_,.int _,.int _,?_⟩;simp only [↓cP,↓ar,kD,↓if_false,↓jx];have fin:∀ s:Int,s=sgn (wr rows)->hW [enc rows] G (fun x G1=>EL G1 x fun x1 G2=>MulOk (-3) (wr rows)/\EL G2 (.int (-3 * wr rows)) fun x2 G3=>EL G3 (.int s) fun x3 G4=>dZ [x1,x2,x3] G4 (fun x G5=>EL G5 x Q) fun _ _=>False) fun _ _=>False:=fun s hs=>by
  subst hs;refine⟨rows,rfl,⟨d,hl⟩,fun T b=>di ⟨.inl ⟨by decide,by decide⟩,di (di ?_)⟩⟩;have so:=Ma (wr rows);refine⟨_,T,_,_,rfl,⟨rfl,b.nd⟩,b.sz,⟨b.big,jX (by lia)⟩,fun p hp=>?_⟩;exact gU (.new hp) hp aH (q _ (b.moved _ _ so))
 by_cases c:wr rows % 2=0
 ·simp only [c,beq_self_eq_true,if_true];exact fin 1 (by unfold sgn; rw [c]; rfl)
 ·have c':(wr rows % 2 == 0)=false:=by simpa using c
  simp only [c',ar,if_false];exact fin (-1) (by unfold sgn; lia)
noncomputable def hs(L:List T3):Int:=((L.filter fun p=>p.b == 0).map (·.c)).sum
theorem Pp(a b:List Int):(a++b).sum=a.sum+b.sum:=by
 induction a with
 | nil=>simp
 | cons x a ih=>rw [az,g8,g8,ih]; lia
theorem Bx(a b:List T3):hs (a++b)=hs a+hs b:=by unfold hs; rw [dI,bw,Pp]
theorem CL{a b:List Int}(h:a.Perm b):a.sum=b.sum:=by
 induction h with
 | nil=>rfl
 | cons x _ ih=>rw [g8,g8,ih]
 | swap x y l=>rw [g8,g8,g8,g8]; lia
 | trans _ _ a b=>exact a.trans b
theorem LL(d:Dr rows):wr rows=hs rows.flatten:=by
 unfold wr hs names;rw [CL ((pe _).map (handOf rows)),bt];congr 1;refine c4 fun p hp=>?_;exact we d (List.mem_filter.mp hp).1
theorem Qn{a b:List T3}(h:a.Perm b):hs a=hs b:=by unfold hs; exact CL ((h.filter _).map _)
noncomputable def fN:lR:=dZ
noncomputable def kO:gW :=
 (cH (bM mM (aO 3))
 (cH (eQ (pN (aw 0)) (aO 4) (bM (bG zV (bG oP (aw 0) (aw 4)) (aw 2)) (kC (aw 3) (bG jy (aw 4) (aw 1)))))
 (cR (dh (bC ip (ay (dh (aw 3)) bq))))))
theorem oe(ds:List D)(G:Gp)(Q:DK)(h:fN ds G Q fun _ _=>False):kO (fun _ _=>False) (ends Q) (bD 5 ds) G:=K33.oe ds G Q h
noncomputable def qZ:gW :=
 (cH (bM (dC (.int 0)) (aO 2))
 (cH (eQ (ni (aw 1)) (aO 3) (eQ (ni (aw 3)) (aO 4) (ja (jj (bG (H0 false) (bG oP (aw 4) (dC (.int 1))) (dC (.int 0)))) (bM (bG jy (aw 2) (bG oP (aw 4) (dC (.int 2)))) (aO 2)) fA)))
 (cR (dh (bC fN (ay (aw 0) (ay (bG xf (Oe FD (dC (.int 3))) (aw 2)) (ay (bG JO (dC (.int 1)) (bG xf (dC (.int 2)) (bG qK (aw 2) (dC (.int 2))))) bq))))))))
noncomputable def j0:lR:=fun ds G Q _=>∃ (T:Po) (rows:Rows) (f:Fn->Int),ds=[.ji (bu T),enc rows]/\(BP T f/\Dr rows)/\∀ U:Po,BP U (fun g=>sgn (wr rows) * f (sh (-3 * wr rows) g))->gw G (.fZ (bu U)) Q
theorem zE(ds:List D)(G:Gp)(Q:DK)(h:j0 ds G Q fun _ _=>False):qZ (fun _ _=>False) (ends Q) (bD 5 ds) G:=by
 obtain⟨T,rows,f,rfl,⟨b,d⟩,q⟩:=h;unfold qZ;simp only [↓c7,bM,dC,aO,ends,bD,↓ak,↓br,↓aj,↓aF,bg,↓az,↓aT,↓aq,↓ao];refine fX (fun τ G'=>G=G'/\∃ a1 a2,τ=[some (.ji (bu T)),some (enc rows),some (.int (hs rows.flatten)),a1,a2]) ?_ ?_
 ·intro N hN;simp only [eQ,↓gq,aw,↓ae,↓aa];refine i4 ?_;refine dQ (xs:=rows) (fun pre τ G'=>G=G'/\∃ a1 a2,τ=[some (.ji (bu T)),some (enc rows),some (.int (hs pre.flatten)),a1,a2]) ⟨rfl,_,_,rfl⟩ (fun _ _ _ _=>trivial) ?_ ?_
  ·rintro pre r post τ G' N2 e ⟨rfl,a1,a2,rfl⟩ nj;simp only [aO,eQ,↓gq,aw,↓aq,↓ao,↓ae,↓aa];refine i4 ?_;refine dQ (xs:=r) (fun pr τ G'=>G=G'/\∃ a2,τ=[some (.ji (bu T)),some (enc rows),some (.int (hs pre.flatten+hs pr)),some (enc r),a2]) ⟨rfl,_,by rw [show hs []=0 from rfl,hB]⟩ (fun _ _ _ _=>trivial) ?_ ?_
   ·rintro pr x po τ G' N3 e2 ⟨rfl,a2,rfl⟩ IU;rw [yu];simp only [aO,ao,aq];simp only [ja,↓eB,bG,aw,↓ae,↓aa,dC,↓kc,TX,bM,aO,↓aq,↓ao,fA];refine⟨_,_,.int _,.int _,?_⟩;simp only [↓cP,↓ar,kD,↓if_false];by_cases c:x.b=0
    ·have c':(x.b == 0)=true:=by simpa using c
     simp only [c',if_true,at2,eM];have:hs (pr++[x])=hs pr+x.c:=by
      rw [Bx];have:hs [x]=x.c:=by unfold hs; simp [c']
      rw [this]
     rw [Int.add_assoc,<-this];exact IU _ _ ⟨rfl,_,rfl⟩
    ·have c':(x.b == 0)=false:=by simpa using c
     simp only [c',ar,if_false];have:hs (pr++[x])=hs pr:=by
      rw [Bx];have:hs [x]=0:=by unfold hs; simp [c']
      rw [this,hB]
     rw [<-this];exact IU _ _ ⟨rfl,_,rfl⟩
   ·rintro τ G' ⟨rfl,a2,rfl⟩;have:hs pre.flatten+hs r=hs (pre++[r]).flatten:=by
     rw [jJ,Bx];simp only [fJ,List.flatten_nil,cN]
    rw [this];exact nj _ _ ⟨rfl,_,_,rfl⟩
  ·rintro τ G' ⟨rfl,a1,a2,rfl⟩;exact hN _ _ ⟨rfl,_,_,rfl⟩
 ·rintro _ _ ⟨rfl,a1,a2,rfl⟩;rw [<-LL d];simp only [cR,dh,bC,ay,aw,↓aa,bG,Oe,dC,↓pG,↓ae,↓jx,↓lF,↓pF,bq];refine⟨.inl ⟨by decide,by decide⟩,by decide,.inl ⟨by decide,by decide⟩,?_⟩;have so:=Ma (wr rows);refine⟨_,T,-3 * wr rows,sgn (wr rows),rfl,⟨rfl,b.nd⟩,b.sz,⟨b.big,jX (by lia)⟩,fun p hp=>?_⟩;exact di (q _ (b.moved _ _ so) p hp)
noncomputable def Wy(L:List T3):List (Int×Int):=(L.filter fun p=>p.b == 0).map fun p=>(p.a,p.c)
theorem Iw(d:Dr rows):(nh rows).Perm (Wy rows.flatten):=by
 unfold nh names;refine((pe _).map _).trans ?_;rw [bt];unfold Wy;have:((rows.flatten.filter fun p=>p.b == 0).map ((fun n=>(n,handOf rows n))∘fun p:T3=>p.a))=(rows.flatten.filter fun p=>p.b == 0).map fun p=>(p.a,p.c):=by
  refine c4 fun p hp=>?_;show (p.a,handOf rows p.a)=_;rw [we d (List.mem_filter.mp hp).1]
 rw [this]
theorem MQ{a b:List T3}(h:a.Perm b):(Wy a).Perm (Wy b):=(h.filter _).map _
theorem MP(rows:Rows):(nh rows).map (·.1)=names rows:=by
 unfold nh;rw [bt];exact k6 _
theorem Dm.sub{f:T3->T3}{ns ms:List Int}(d:Dm f ns)(h:ms.Nodup)(hs:∀ m∈ms,m∈ns):Dm f ms:=⟨d.iv,h,fun n hn=>d.dm n (hs n hn)⟩
theorem Qb{L M:List T3}(h:(M.map T3.s).Nodup){N:List T3}(p:M.Perm (N++L)):(L.map T3.s).Nodup:=by
 have:=(p.map T3.s).nodup_iff.mp h;rw [bw] at this;exact(List.nodup_append.mp this).2.1
theorem Pu{rows:Rows}{i k:Nat}{r:List T3}{p q:T3}(hk:k<=r.length):(rows.set i (r.take k++q :: r.drop k)).set i ((r.take k++q :: r.drop k).take k++p :: (r.take k++q :: r.drop k).drop k)=rows.set i (r.take k++[p,q]++r.drop k):=by
 have l:(r.take k).length=k:=by rw [eF]; lia
 rw [List.set_set,List.take_append_of_le_length (by lia),LA (by lia),List.drop_append_of_le_length (by lia),List.drop_of_length_le (by lia),aT,cf];rfl
theorem Yj{rows:Rows}{i k:Nat}{r:List T3}{p q:T3}(hr:rows[i]?=some r)(hk:k<=r.length)(nd:We (rows.set i (r.take k++[p,q]++r.drop k))) :
  fr rows=gT (fr (rows.set i (r.take k++[p,q]++r.drop k))) [(eI p.s,eO p.s),(eI q.s,eO q.s)]/\lo rows=lo (rows.set i (r.take k++[p,q]++r.drop k))+cls (fr (rows.set i (r.take k++[p,q]++r.drop k))) [(eI p.s,eO p.s),(eI q.s,eO q.s)] /\
  fr (rows.set i (r.take k++[p,q]++r.drop k)) (eO p.s)=eI q.s:=by
 have hi:i < rows.length:=(List.getElem?_eq_some_iff.mp hr).1;have f2:=ng (k:=k) (more:=[p,q]) hr;have n1:We (rows.set i (r.take k++q :: r.drop k)):=by
  have f1:=ng (k:=k) (more:=[q]) hr;rw [cf] at f1;refine(f1.map T3.s).nodup_iff.mpr ?_;exact Qb nd (N:=[p]) f2
 have h1:(rows.set i (r.take k++q :: r.drop k))[i]?=some (r.take k++q :: r.drop k):=cT hi;have e2:=Pu (rows:=rows) (i:=i) (p:=p) (q:=q) hk;obtain⟨a1,a2⟩:=Nq (k:=k) (q:=p) h1 (by rw [e2]; exact nd);rw [e2] at a1 a2;obtain⟨b1,b2⟩:=Nq (k:=k) (q:=q) hr n1;refine⟨?_,?_,?_⟩
 ·rw [b1,a1]; rfl
 ·rw [b2,a2,a1,cls,cls,cls];simp only;lia
 ·refine(Qt nd ?_).1;rw [xD];refine List.mem_flatMap.mpr ⟨r.take k++[p,q]++r.drop k,eD (cT hi),?_⟩;rw [cf];exact QF _ _ _ _
theorem Qi(c m:Nat)(b:Int)(g:Fn):gK c (sh b (gK m g))=gK (m+c) (sh b g):=by
 rw [jz,<-Bq,<-jz,Nat.add_comm]
theorem Om{rows:Rows}(d:Dr rows){i k:Nat}{r:List T3}{n w h:Int}(hr:rows[i]?=some r)(hk:k<=r.length)(hw:w=0\/w=1)(hh:h=1\/h=-1)(d2:Dr (rows.set i (r.take k++[⟨n,w,h⟩,⟨n,1 - w,h⟩]++r.drop k))) :
  (∀ g,brk (rows.set i (r.take k++[⟨n,w,h⟩,⟨n,1 - w,h⟩]++r.drop k)) g=-brk rows (sh (3 * h) g))/\wr (rows.set i (r.take k++[⟨n,w,h⟩,⟨n,1 - w,h⟩]++r.drop k))=wr rows+h:=by
 have f2:=ng (k:=k) (more:=[⟨n,w,h⟩,⟨n,1 - w,h⟩]) hr;obtain⟨a1,a2,a3⟩:=Yj hr hk d2.nd;generalize rows.set i (r.take k++[⟨n,w,h⟩,⟨n,1 - w,h⟩]++r.drop k)=R at d2 f2 a1 a2 a3;have pn:(nh R).Perm ((n,h) :: nh rows):=by
  refine(Iw d2).trans ((MQ f2).trans ?_);refine O6 ?_ ((Iw d).symm.cons _);rcases hw with rfl | rfl
  ·exact .refl _
  ·exact .refl _
 have dm:=VU d2;have hn:n∈names R:=by
  have:=(pn.map (·.1)).mem_iff (a:=n);rw [MP] at this;exact this.mpr (by simp)
 have dn:Dm (fr R) [n]:=Dm.sub dm (by simp) (by intro m hm; rw [cC] at hm; rw [hm]; exact hn);refine⟨fun g=>?_,?_⟩
 ·unfold brk;rw [Q7 pn (by rw [MP]; exact dm),QH dn hh hw a3];have z1:fr rows=gT (fr R) [EX n w,EX n (1 - w)]:=a1;have z2:lo rows=lo R+cls (fr R) [EX n w,EX n (1 - w)]:=a2;rw [<-z1,Qi,<-z2]
 ·rw [LL d2,LL d,Qn f2,Bx];rcases hw with rfl | rfl
  ·show (h+0)+_=_;lia
  ·show (h+0)+_=_;lia
noncomputable abbrev Sl:lR:=zL
noncomputable def Ml:gW :=
 (cH (bM (bG jy (dC (.int 1)) (bG qK (bC cq (ay (aw 0) (ay (dC (.int 0)) bq))) (dC (.int 3)))) (aO 1))
 (cH (bM (dC (.int 12)) (aO 2))
 (cH (ja (jj (bG (C8 false) (bG qK (bG HZ (bC cq (ay (aw 0) (ay (dC (.int 0)) bq))) (dC (.int 3))) (dC (.int 2))) (dC (.int 1)))) (bM (dC (.int 999)) (aO 2)) fA)
 (cH (bM (dh (bC jt (ay (KI (aw 0) (rh (dC (.int 5))) (rh (bG jy (dC (.int 5)) (bG qK (bC cq (ay (aw 0) (ay (dC (.int 1)) bq))) (dC (.int 5)))))) (ay (aw 1) (ay (aw 2) bq))))) (aO 3))
 (cH (bM (bC fO (ay (bC iq (ay (aw 3) bq)) (ay (bG jy (dC (.int 1)) (bC c8 (ay (bC cq (ay (aw 0) (ay (dC (.int 2)) bq))) (ay (dC (.int 10007)) (ay (aw 2) bq))))) bq))) (aO 4))
 (cH (bM (bG JO (dC (.int 1)) (bG xf (dC (.int 2)) (bG qK (bC cq (ay (aw 0) (ay (dC (.int 2)) bq))) (dC (.int 2))))) (aO 5))
 (cH (bM (bG qK (bG HZ (bC cq (ay (aw 0) (ay (dC (.int 2)) bq))) (dC (.int 2))) (dC (.int 2))) (aO 6))
 (cH (bM (bG qK (bC cq (ay (aw 0) (ay (dC (.int 3)) bq))) (aw 1)) (aO 7))
 (cH (bM (oJ (ay (iM (ay (aw 4) (ay (aw 6) (ay (aw 5) bq)))) (ay (iM (ay (aw 4) (ay (bG JO (dC (.int 1)) (aw 6)) (ay (aw 5) bq)))) bq))) (aO 8))
 (cH (bM (dh (bC i7 (ay (dh (aw 3)) (ay (dh (aw 7)) (ay (dh (bC c8 (ay (bC cq (ay (aw 0) (ay (dC (.int 4)) bq))) (ay (dC (.int 10039)) (ay (dC (.int 10000)) bq))))) (ay (dh (aw 8)) bq)))))) (aO 9))
 (cH (bM (dh (bC hW (ay (dh (bC dJ (ay (aw 3) bq))) bq))) (aO 10))
 (cH (bM (dh (bC hW (ay (dh (bC dJ (ay (aw 9) bq))) bq))) (aO 11))
 (cH (ja (QE (tT (jj (bC hV (ay (aw 10) bq)))) (tT (jj (bC hV (ay (aw 11) bq))))) (cR (dh (dC (.bl false)))) fA)
 (cH (ja (jj (bG (C8 true) (aw 11) (bC fN (ay (aw 10) (ay (bG xf (dC (.int 3)) (aw 5)) (ay (Oe FD (dC (.int 1))) bq)))))) (cR (dh (dC (.bl false)))) fA)
 (cH (bM (dh (bC ka (ay (dh (bC dJ (ay (aw 3) bq))) bq))) (aO 12))
 (cH (ja (QE (tT (jj (bC hV (ay (aw 12) bq)))) (jj (bG (C8 true) (aw 12) (bC j0 (ay (aw 10) (ay (aw 3) bq)))))) (cR (dh (dC (.bl false)))) fA)
 (cR (dh (bG (C8 false) (bC ka (ay (dh (aw 9)) bq)) (aw 12))))))))))))))))))))
theorem T4(ds:List D)(G:Gp)(Q:DK)(h:Sl ds G Q fun _ _=>False):Ml (fun _ _=>False) (ends Q) (bD 13 ds) G:=by
 obtain⟨ns,rfl,hl,hG,q⟩:=h;unfold Ml;simp only [↓c7,bM,bG,dC,bC,ay,aw,bD,↓ak,↓br,↓aj,↓aF,bg,↓az,↓aT,↓aa,bq,aO,ends,↓aq,↓ao];refine⟨ns,0,rfl,by decide,by decide,?_⟩;have s1:0<=fU ns 0 % 3:=i5 _ (by decide);have s2:fU ns 0 % 3 < 3:=gz _ (by decide);generalize fU ns 0 % 3=s0 at s1 s2;obtain⟨S,hS⟩:∃ S:Nat,1+s0=(S:Int):=⟨(1+s0).toNat,by lia⟩;have hS1:1<=S:=by lia
 have Y5:S<=3:=by lia
 simp only [↓eM,hS];refine fX (fun τ G'=>G=G'/\∃ sp:Int,(1<=sp/\sp<=999)/\τ=[some (.dR (ns.map D.int)),some (.int S),some (.int sp),none,none,none,none,none,none,none,none,none,none]) ?_ ?_
 ·intro N hN;simp only [ja,↓eB,bG,bC,ay,aw,↓aa,dC,bq,bM,aO,↓aq,↓ao,fA];refine⟨ns,0,rfl,by decide,by decide,by decide,by decide,Mo ?_⟩;simp only [↓cP,↓ar,↓if_false];split
  ·exact hN _ _ ⟨rfl,999,by decide,rfl⟩
  ·exact hN _ _ ⟨rfl,12,by decide,rfl⟩
 rintro _ _ ⟨rfl,sp,⟨ZS,ZR⟩,rfl⟩;simp only [↓c7,bM,dh,bC,ay,KI,aw,↓aa,↓pX,dC,↓jR,bG,bq,↓HV,↓ae,aO,↓aq,↓ao,oJ,iM,↓aj,↓aF];refine⟨ns,1,rfl,by decide,by decide,?_⟩;have d1:0<=fU ns 1 % 5:=i5 _ (by decide);have d2:fU ns 1 % 5 < 5:=gz _ (by decide);generalize fU ns 1 % 5=j at d1 d2;simp only [↓eM,↓jR];rw [tU];intro pS fS;have NH:(cut ns (some 5) (some (5+j))).length<=4:=by
  unfold cut iW;simp only;rw [if_neg (by lia),if_neg (by lia)];simp only [eF,cV]; lia
 generalize cut ns (some 5) (some (5+j))=cells at NH;refine⟨.ref pS,cells,S,sp,rfl,IsL.ref aH,⟨by lia,⟨hS1,Y5⟩,ZS,ZR⟩,fun rows d hlen YX=>tM (.new fS) ?_⟩;refine⟨rows,rfl,by lia,?_⟩;refine⟨ns,2,rfl,by decide,?_⟩;refine⟨_,_,_,rfl,⟨by decide,by lia⟩,?_⟩;simp only [↓eM];have q1:=j3 (fU ns 2) 10007 (m:=sp) (by lia);have q2:=j4 (fU ns 2) 10007 (m:=sp) (by lia);have ol:=v9 rows.flatten;refine⟨enc (yX rows.flatten),yX rows.flatten,_,rfl,IsL.enc (yX rows.flatten),⟨by lia,by lia,by lia⟩,fun m m1 m2 m3=>?_⟩;have YN:∀ p∈rows.flatten,p.a≠m:=fun p hp z=>by
  refine m1 ?_;rw [<-z];rcases d.way p hp with w | w
  ·exact List.mem_map.mpr ⟨p,List.mem_filter.mpr ⟨hp,by simp [w]⟩,rfl⟩
  ·exact List.mem_map.mpr ⟨_,List.mem_filter.mpr ⟨d.FW p hp,by simp [w]⟩,rfl⟩
 refine⟨ns,2,rfl,by decide,by decide,?_⟩;have h1:0<=fU ns 2 % 2:=i5 _ (by decide);have h2:fU ns 2 % 2 < 2:=gz _ (by decide);generalize fU ns 2 % 2=h0 at h1 h2;simp only [↓jx,↓pF];refine⟨.inl ⟨by decide,by decide⟩,?_⟩;have hh:(1 - 2 * h0)=1\/(1 - 2 * h0)=-1:=by lia
 generalize (1 - 2 * h0)=h at hh;refine⟨ns,2,rfl,by decide,by decide,by decide,by decide,?_⟩;have w1:0<=fU ns 2 / 2 % 2:=i5 _ (by decide);have w2:fU ns 2 / 2 % 2 < 2:=gz _ (by decide);have hw:fU ns 2 / 2 % 2=0\/fU ns 2 / 2 % 2=1:=by lia
 generalize fU ns 2 / 2 % 2=w at hw;refine⟨ns,3,rfl,by decide,?_⟩;simp only [↓lF,↓pF];refine⟨by lia,?_⟩;have i1:0<=fU ns 3 % (S:Int):=i5 _ (by lia);have i2:fU ns 3 % (S:Int) < S:=gz _ (by lia);generalize fU ns 3 % (S:Int)=ia at i1 i2;obtain⟨i,rfl⟩:∃ i:Nat,ia=(i:Int):=⟨ia.toNat,by lia⟩;refine⟨by decide,by decide,by decide,fun pC fC=>di (di ?_)⟩;refine⟨ns,4,rfl,by decide,?_⟩;refine⟨_,_,_,rfl,⟨by decide,by decide⟩,di ?_⟩;refine pQ (xs:=[(⟨m,w,h⟩:T3),⟨m,1 - w,h⟩]) (.new fC) fC aH ?_;have rl:=Mh d;refine FF (rows:=rows) (more:=[(⟨m,w,h⟩:T3),⟨m,1 - w,h⟩]) ⟨by lia,by lia,fun r hr=>by have:=rl r hr; lia,by simp⟩ fun r k hr hk _=>di ?_;have f2:=ng (k:=k) (more:=[(⟨m,w,h⟩:T3),⟨m,1 - w,h⟩]) hr;have WS:Dr (rows.set i (r.take k++[⟨m,w,h⟩,⟨m,1 - w,h⟩]++r.drop k)):=by
  refine K2.JB.Dr.two d YN hh ?_ (by lia) (by rw [du]; lia);rcases hw with rfl | rfl
  ·exact f2.trans (.swap _ _ _)
  ·exact f2
 obtain⟨cb,cw⟩:=Om d hr hk hw hh WS;have To:(rows.set i (r.take k++[⟨m,w,h⟩,⟨m,1 - w,h⟩]++r.drop k)).flatten.length<=12:=by
  rw [f2.length_eq,aG]; simp only [aj,aF]; lia
 have NB:(rows.set i (r.take k++[⟨m,w,h⟩,⟨m,1 - w,h⟩]++r.drop k)).length<=1000:=by rw [du]; lia
 generalize rows.set i (r.take k++[⟨m,w,h⟩,⟨m,1 - w,h⟩]++r.drop k)=R at WS cb cw To NB;have copy:∀ {A:Rows} {G:Gp} {Q:DK},A.length<=1000->Q (enc A) G->dJ [enc A] G (fun x G1=>EL G1 x Q) fun _ _=>False:=fun {A G Q} hA qq=>by
  refine⟨A.map fun r=>r.map enc,by rw [kh],by rw [aB]; exact hA,fun G3 p2 as2 h2=>h2.fz ?_⟩;rw [<-kh]; exact qq
 refine copy (by lia) ?_;refine⟨rows,rfl,⟨d,by lia⟩,fun T bT=>di ?_⟩;refine copy NB ?_;refine⟨R,rfl,⟨WS,To⟩,fun U bU=>di ?_⟩;have abG:∀ {X:Bool},X=true->(!X)=false:=fun z=>by rw [z]; rfl
 rw [lA];simp only [ja,QE,tT,↓eB,bC,ay,aw,↓ae,↓aa,bq,cR,dh,dC,fA,↓if_true];refine⟨_,T,rfl,⟨rfl,bT.nd⟩,bT.nz,?_⟩;simp only [↓cP,↓bQ,↓ar,↓if_false];refine⟨_,U,rfl,⟨rfl,bU.nd⟩,bU.nz,?_⟩;simp only [↓cP,↓bQ,↓ar,↓if_false];rw [lA];simp only [ja,↓eB,bG,aw,↓ae,↓aa,bC,ay,dC,↓jx,Oe,↓pG,bq,cR,dh,fA,↓c7,bM,aO,↓aq,↓ao];refine⟨.inl ⟨by decide,by decide⟩,?_⟩;refine⟨_,T,3 * h,-1,rfl,⟨rfl,bT.nd⟩,bT.sz,⟨bT.big,jX (by decide)⟩,fun p1 f1=>?_⟩;refine xh vd.ji (vd.ref aH) ?_;have e1:rT U (hX T (3 * h) (-1))=true:=bU.eq (bT.moved (3 * h) (-1) (.inr rfl)) fun g=>by rw [cb]; lia
 simp only [↓cP,e1,↓bQ,↓if_true,↓ar,↓if_false];generalize eL G p1 (.fZ (bu (hX T (3 * h) (-1))))=G1;refine copy (by lia) ?_;refine⟨rows,rfl,⟨d,by lia⟩,fun V bV=>di ?_⟩;rw [lA];simp only [ja,QE,tT,↓eB,bC,ay,aw,↓ae,↓aa,bq,cR,dh,dC,fA,bG,↓if_true];refine⟨_,V,rfl,⟨rfl,bV.nd⟩,bV.nz,?_⟩;simp only [↓cP,↓bQ,↓ar,↓if_false];refine⟨T,rows,brk rows,rfl,⟨bT,d⟩,fun W bW p2 f2=>?_⟩;refine xh vd.ji (vd.ref aH) ?_;have e2:rT V W=true:=bV.eq bW fun g=>rfl;simp only [↓cP,e2,↓bQ,↓if_true,↓ar,↓if_false];refine di ⟨R,rfl,⟨WS,To⟩,fun X bX=>?_⟩;refine xh vd.ji vd.ji ?_;have e3:rT X V=true:=bX.eq bV fun g=>by
  unfold lvl;rw [cw,cb,HP,show 3 * h+-3 * (wr rows+h)=-3 * wr rows by lia];have:sgn (wr rows+h)=-sgn (wr rows):=by unfold sgn; rcases hh with rfl | rfl <;> lia
  rw [this,Int.neg_mul_neg]
 simp only [↓ar,e3,↓bQ,↓if_false];exact di (q _)
end JB
end K2
end
namespace Fin
open PySem PySem.Spec PyProof.Rows L2 K2
open K2.JB
open K2.RX (iq uc)
open K2.P (fu qe ff vK fW yM lz yI)
open K2.Y
noncomputable def top(i:Nat):Stmt:=PySem.Challenge.pw_knotwise_k45_curls_make.main.body.getD i (.Pass ⟨0,0,0,0⟩)
section
variable {P:bJ} {w:World} {K:ai} {mg:Str->Option Value} {base:Heap}
theorem w4:cA ["_law_script","_law_k"] ["_law_script","_law_k"] (bc (top 31)):=qI
theorem yi {f:Addr} {fd:aC} (F:nu K "_law_cell_at" "_law_cell_at" (top 31) f fd) (nQ:mg "len" = none):fH P w K mg base fD 1 f fd ["_law_script","_law_k"] (cG K cq) :=
 qO F w4 yK fun _ _ _ _ _ _ hr=>have hu:=hr.units; have YA:=hr.LM; (aM (i9 (fP (MH YA) (bH 1) (k9 u6 rfl nQ GZ (ah (bH 0) aL)) (hZ _)) (aS (cm (bb (fG hu (bH 0) (bH 1) (fun _ _=>rfl))))) fQ)
 (aS (cm (bb aP))))
theorem vk:cA ["_law_names_here","_law_name"] ["_law_names_here","_law_name"] (bc (top 38)):=qI
theorem D4 {f:Addr} {fd:aC} (F:nu K "_law_free" "_law_free" (top 38) f fd):fH P w K mg base fD 1 f fd ["_law_names_here","_law_name"] (cG K fO) :=
 qO F vk qf fun _ _ _ _ _ _ hr=>have nd:=vk.nd; have hu:=hr.units; (aM (JR bE (fP (SY hu) (bH 1) (bH 0) (by with_unfolding_all rfl)) (aS (kz (i:=1) nd rfl (cu eU (cu iZ (bH 1) aP) aP))))
 (aS (cm (bb (bH 1)))))
theorem CS:cA ["_law_cell","_law_prime","_law_many"] ["_law_cell","_law_prime","_law_many"] (bc (top 33)):=qI
theorem D3 {f:Addr} {fd:aC} (F:nu K "_law_pick" "_law_pick" (top 33) f fd):fH P w K mg base fD 1 f fd ["_law_cell","_law_prime","_law_many"] (cG K c8) :=
 qO F CS EG fun _ _ _ _ _ _ hr=>(aS (cm (bb (cu iZ (cu iZ (cu kQ (bH 0) aP) (bH 1)) (bH 2)))))
theorem CT:cA ["_law_rows"] ["_law_rows"] (bc (top 37)):=qI
theorem D5 {f:Addr} {fd:aC} (F:nu K "_law_copy" "_law_copy" (top 37) f fd) (Bl:mg "list" = none):fH P w K mg base fD 1 f fd ["_law_rows"] (cG K dJ) :=
 qO F CT qg fun _ _ _ _ _ _ hr=>(aS (cm (bb (pJ ["_law_row"] (sc:=bc (top 37)) (XN:=["_law_rows"]) (gm (bH 0)) (fun _ _ _ _=>(lV (i:=0) (show (["_law_row"]:List Str).Nodup by decide +kernel) rfl)) (fun _ _ _ _=>.none) (fun _ _ _ _=>(rE GX rfl Bl QS (ah (bH 0) aL)))))))
theorem wZ:cA ["_law_rows","_law_at","_law_place","_law_more","_law_made"] ["_law_rows","_law_at","_law_place","_law_more"] (bc (top 39)):=qI
theorem Gv {f:Addr} {fd:aC} (F:nu K "_law_put" "_law_put" (top 39) f fd) (nQ:mg "len" = none) {rQ:Addr} {rY:aC} (df:lj P w K mg base fD 1 rQ rY "_law_copy" ["_law_rows"] (cG K dJ)):fH P w K mg base fD 2 f fd ["_law_rows","_law_at","_law_place","_law_more"] (cG K i7) :=
 qO F wZ Hj fun _ _ _ _ _ _ hr=>have nd:=wZ.nd; have hu:=hr.units; (aM (kz (i:=4) nd rfl (aQ df.ok (hr.mono (by decide)) rfl df.mg df.kp df.bi (ah (bH 0) aL)))
 (aM (kz (i:=2) nd rfl (cu iZ (bH 2) (cu eU (k9 u6 rfl nQ GZ (ah (fG hu (bH 4) (bH 1) (fun _ _=>rfl)) aL)) aP)))
 (aM (gY (cu eU (cu eU (jQ (fG hu (bH 4) (bH 1) (fun _ _=>rfl)) mV (kd (bH 2))) (bH 3)) (jQ (fG hu (bH 4) (bH 1) (fun _ _=>rfl)) (kd (bH 2)) mV)) (iY hu (bH 4) (bH 1)))
 (aS (cm (bb (bH 4)))))))
theorem pv:cA ["_law_cells","_law_strings","_law_spread","_law_rows","_law_names_here","_law_cell","_law_name","_law_hand","_law_way","_law_prime","_law_place"] ["_law_cells","_law_strings","_law_spread"] (bc (top 40)):=qI
theorem yh {f:Addr} {fd:aC} (F:nu K "_law_drawing" "_law_drawing" (top 40) f fd) (lG:mg "range" = none) {rP:Addr} {rX:aC} (gI:lj P w K mg base fD 1 rP rX "_law_free" ["_law_names_here","_law_name"] (cG K fO)) {rO:Addr} {rW:aC} (cj:lj P w K mg base fD 1 rO rW "_law_pick" ["_law_cell","_law_prime","_law_many"] (cG K c8)) {uR:Addr} {uY:aC} (iA:lj P w K mg base fD 2 uR uY "_law_put" ["_law_rows","_law_at","_law_place","_law_more"] (cG K i7)):fH P w K mg base fD 3 f fd ["_law_cells","_law_strings","_law_spread"] (cG K jt) :=
 qO F pv yJ fun _ _ _ _ _ _ hr=>have nd:=pv.nd; (aM (Bg (xn ["_law_k"] (sc:=bc (top 40)) (XN:=["_law_cells","_law_strings","_law_spread","_law_rows","_law_names_here","_law_cell","_law_name","_law_hand","_law_way","_law_prime","_law_place"]) (i:=3) nd rfl rfl (rD rfl lG (bH 1)) (fun _ _ _ _=>(lV (i:=0) (show (["_law_k"]:List Str).Nodup by decide +kernel) rfl)) (fun _ _ _ _=>.none) (fun _ _ _ _=>(mf aL))))
 (aM (kz (i:=4) nd rfl (mf aL))
 (aM (dH bE rfl (gm (bH 0)) (lV (i:=5) nd rfl) (aM (kz (i:=6) nd rfl (aQ gI.ok (hr.mono (by decide)) rfl gI.mg gI.kp gI.bi (ah (bH 4) (ah (cu eU aP (aQ cj.ok (hr.mono (by decide)) rfl cj.mg cj.kp cj.bi (ah (bH 5) (ah aP (ah (bH 2) aL))))) aL))))
 (aM (xr (nN oX EN EM wM xO (bH 4) (ah (bH 6) aL)))
 (aM (kz (i:=7) nd rfl (cu v8 aP (cu kQ aP (aQ cj.ok (hr.mono (by decide)) rfl cj.mg cj.kp cj.bi (ah (bH 5) (ah aP (ah aP aL)))))))
 (aS (dH bE rfl (rD rfl lG aP) (lV (i:=8) nd rfl) (aM (kz (i:=9) nd rfl (cu eU aP (cu kQ aP (bH 8))))
 (aM (kz (i:=10) nd rfl (aQ cj.ok (hr.mono (by decide)) rfl cj.mg cj.kp cj.bi (ah (bH 5) (ah (cu eU aP (cu kQ aP (bH 8))) (ah aP aL)))))
 (aS (kz (i:=3) nd rfl (bb (aQ iA.ok (hr.mono (by decide)) rfl iA.mg iA.kp iA.bi (ah (bb (bH 3)) (ah (bb (aQ cj.ok (hr.mono (by decide)) rfl cj.mg cj.kp cj.bi (ah (bH 5) (ah (bH 9) (ah (bH 1) aL))))) (ah (bb (bH 10)) (ah (bb (mf (ah (eA (ah (bH 6) (ah (bH 8) (ah (bH 7) aL)))) aL))) aL))))))))))))))))
 (aS (cm (bb (bH 3)))))))
theorem sN:cA ["_law_rows","_law_names_here","_law_row","_law_passing"] ["_law_rows"] (bc (top 41)):=qI
theorem BF {f:Addr} {fd:aC} (F:nu K "_law_names" "_law_names" (top 41) f fd):fH P w K mg base fD 1 f fd ["_law_rows"] (cG K iq) :=
 qO F sN uc fun _ _ _ _ _ _ hr=>have nd:=sN.nd; have hu:=hr.units; (aM (kz (i:=1) nd rfl (mf aL))
 (aM (dH bE rfl (gm (bH 0)) (lV (i:=2) nd rfl) (aS (dH bE rfl (gm (bH 2)) (lV (i:=3) nd rfl) (aS (i9 (fP (mI hu) (fG hu (bH 3) aP (fun _ _=>rfl)) aP (hZ _)) (aS (xr (nN oX EN EM wM xO (bH 1) (ah (fG hu (bH 3) aP (fun _ _=>rfl)) aL)))) fQ)))))
 (aS (cm (bb (bH 1))))))
theorem pj:cA ["rows","passings","row"] ["rows"] (bc (top 4)):=qI
theorem yg {f:Addr} {fd:aC} (F:nu K "passings_of" "passings_of" (top 4) f fd):fH P w K mg base fD 1 f fd ["rows"] (cG K fu) :=
 qO F pj qe fun _ _ _ _ _ _ hr=>have nd:=pj.nd; (aM (kz (i:=1) nd rfl (mf aL))
 (aM (dH bE rfl (gm (bH 0)) (lV (i:=2) nd rfl) (aS (xr (nN oX PySem.F.slot_list_extend PySem.F.type_list_extend wM FU (bH 1) (ah (bH 2) aL)))))
 (aS (cm (bb (bH 1))))))
theorem w5:cA ["drawing","name","passing"] ["drawing","name"] (bc (top 6)):=qI
theorem Gw {f:Addr} {fd:aC} (F:nu K "hand_of" "hand_of" (top 6) f fd) {mK:Addr} {mL:aC} (eG:lj P w K mg base fD 1 mK mL "passings_of" ["rows"] (cG K fu)):fH P w K mg base fD 2 f fd ["drawing","name"] (cG K fW) :=
 qO F w5 yM fun _ _ _ _ _ _ hr=>have nd:=w5.nd; have hu:=hr.units; (aM (dH bE rfl (gm (aQ eG.ok (hr.mono (by decide)) rfl eG.mg eG.kp eG.bi (ah (bH 0) aL))) (lV (i:=2) nd rfl) (aS (i9 (fP (mI hu) (fG hu (bH 2) aP (fun _ _=>rfl)) (bH 1) (hZ _)) (aS (cm (bb (fG hu (bH 2) aP (fun _ _=>rfl))))) fQ)))
 (aS JS))
theorem wY:cA ["drawing","behind","row","passing","follower"] ["drawing"] (bc (top 7)):=qI
theorem Gu {f:Addr} {fd:aC} (F:nu K "next_of" "next_of" (top 7) f fd) (uI:mg "zip" = none):fH P w K mg base fD 1 f fd ["drawing"] (cG K lz) :=
 qO F wY yI fun _ _ _ _ _ _ hr=>have nd:=wY.nd; have hu:=hr.units; (aM (kz (i:=1) nd rfl kP)
 (aM (dH bE rfl (gm (bH 0)) (lV (i:=2) nd rfl) (aS (dH bE rfl (Ij rfl uI (bH 2) (cu eU (jQ (bH 2) (kd aP) mV) (jQ (bH 2) mV (kd aP)))) (iX rfl (cJ (lV (i:=3) nd rfl) (cJ (lV (i:=4) nd rfl) gM)) (cL (cL gN))) (aS (gY (jQ (bH 4) mV (kd aP)) (iY hu (bH 1) (jQ (bH 3) mV (kd aP))))))))
 (aS (cm (bb (bH 1))))))
theorem Fy:cA ["far"] ["far"] (bc (top 20)):=qI
theorem Gs {f:Addr} {fd:aC} (F:nu K "plan_of" "plan_of" (top 20) f fd) (lb:mg "sorted" = none) (xK:mg "tuple" = none):fH P w K mg base fD 1 f fd ["far"] (cG K jO) :=
 qO F Fy Hi fun _ _ _ _ _ _ hr=>have hu:=hr.units; have YA:=hr.LM; (aS (cm (bb (rE Ew rfl xK OA (ah (k9 (tW rfl hu) rfl lb AN (ah (pJ ["end","far"] (sc:=bc (top 20)) (XN:=["far"]) (sW (bH 0)) (fun _ _ _ _=>(lV (i:=0) (show (["end","far"]:List Str).Nodup by decide +kernel) rfl)) (fun _ _ _ _=>(.some (fP (MH YA) (bH 0) (fG hu (bH 1) (bH 0) (fun _ _=>rfl)) (hZ _)))) (fun _ _ _ _=>(eA (ah (bH 0) (ah (fG hu (bH 1) (bH 0) (fun _ _=>rfl)) aL))))) aL)) aL)))))
theorem vm:cA ["threads","far","one","other"] ["threads"] (bc (top 22)):=qI
theorem D6 {f:Addr} {fd:aC} (F:nu K "far_ends" "far_ends" (top 22) f fd):fH P w K mg base fD 1 f fd ["threads"] (cG K jc) :=
 qO F vm EH fun _ _ _ _ _ _ hr=>have nd:=vm.nd; have hu:=hr.units; (aM (kz (i:=1) nd rfl kP)
 (aM (dH bE rfl (gm (bH 0)) (iX rfl (cJ (lV (i:=2) nd rfl) (cJ (lV (i:=3) nd rfl) gM)) (cL (cL gN))) (aM (gY (bH 3) (iY hu (bH 1) (bH 2)))
 (aS (gY (bH 2) (iY hu (bH 1) (bH 3))))))
 (aS (cm (bb (bH 1))))))
theorem qW:cA ["drawing","threads"] ["drawing"] (bc (top 21)):=qI
theorem zi {f:Addr} {fd:aC} (F:nu K "whole_plan" "whole_plan" (top 21) f fd) {KC:Addr} {KH:aC} (qB:lj P w K mg base fD 1 KC KH "next_of" ["drawing"] (cG K lz)) {uQ:Addr} {uX:aC} (iw:lj P w K mg base fD 1 uQ uX "plan_of" ["far"] (cG K jO)) {rS:Addr} {rZ:aC} (gJ:lj P w K mg base fD 1 rS rZ "far_ends" ["threads"] (cG K jc)):fH P w K mg base fD 2 f fd ["drawing"] (cG K jZ) :=
 qO F qW zD fun _ _ _ _ _ _ hr=>have nd:=qW.nd; (aM (xn ["spot","after"] (sc:=bc (top 21)) (XN:=["drawing","threads"]) (i:=1) nd rfl rfl (FI (aQ qB.ok (hr.mono (by decide)) rfl qB.mg qB.kp qB.bi (ah (bH 0) aL))) (fun _ _ _ _=>(iX rfl (cJ (lV (i:=0) (show (["spot","after"]:List Str).Nodup by decide +kernel) rfl) (cJ (lV (i:=1) (show (["spot","after"]:List Str).Nodup by decide +kernel) rfl) gM)) (cL (cL gN)))) (fun _ _ _ _=>.none) (fun _ _ _ _=>(eA (ah (cu eU (bH 0) (eA (ah aP aL))) (ah (cu eU (bH 1) (eA (ah aP aL))) aL)))))
 (aS (cm (bb (aQ iw.ok (hr.mono (by decide)) rfl iw.mg iw.kp iw.bi (ah (bb (aQ gJ.ok (hr.mono (by decide)) rfl gJ.mg gJ.kp gJ.bi (ah (bH 1) aL))) aL))))))
theorem lB:cA ["sums","kept","power","number"] ["sums"] (bc (top 10)):=qI
theorem rM {f:Addr} {fd:aC} (F:nu K "without_noughts" "without_noughts" (top 10) f fd):fH P w K mg base fD 1 f fd ["sums"] (cG K cW) :=
 qO F lB se fun _ _ _ _ _ _ hr=>have nd:=lB.nd; have hu:=hr.units; (aM (kz (i:=1) nd rfl kP)
 (aM (dH bE rfl (mW (bH 0)) (iX rfl (cJ (lV (i:=2) nd rfl) (cJ (lV (i:=3) nd rfl) gM)) (cL (cL gN))) (aS (i9 (fP (FL hu) (bH 3) aP (hZ _)) (aS (gY (bH 3) (iY hu (bH 1) (bH 2)))) fQ)))
 (aS (cm (bb (bH 1))))))
theorem CO:cA ["one","other","sums","power","number","other_power","other_number","both"] ["one","other"] (bc (top 12)):=qI
theorem NS {f:Addr} {fd:aC} (F:nu K "times" "times" (top 12) f fd) {fR:Addr} {fT:aC} (bZ:lj P w K mg base fD 1 fR fT "without_noughts" ["sums"] (cG K cW)):fH P w K mg base fD 2 f fd ["one","other"] (cG K iP) :=
 qO F CO OE fun _ _ _ _ _ _ hr=>have nd:=CO.nd; have hu:=hr.units; (aM (kz (i:=2) nd rfl kP)
 (aM (dH bE rfl (mW (bH 0)) (iX rfl (cJ (lV (i:=3) nd rfl) (cJ (lV (i:=4) nd rfl) gM)) (cL (cL gN))) (aS (dH bE rfl (mW (bH 1)) (iX rfl (cJ (lV (i:=5) nd rfl) (cJ (lV (i:=6) nd rfl) gM)) (cL (cL gN))) (aM (kz (i:=7) nd rfl (cu eU (bH 3) (bH 5)))
 (aS (gY (cu eU (nN cZ gj kJ mS Iz (bH 2) (ah (bH 7) (ah aP aL))) (cu xF (bH 4) (bH 6))) (iY hu (bH 2) (bH 7))))))))
 (aS (cm (bb (aQ bZ.ok (hr.mono (by decide)) rfl bZ.mg bZ.kp bZ.bi (ah (bb (bH 2)) aL)))))))
theorem zO:cA ["one","count","product","step"] ["one","count"] (bc (top 14)):=qI
theorem Kx {f:Addr} {fd:aC} (F:nu K "raised" "raised" (top 14) f fd) (lG:mg "range" = none) {BI:Addr} {BV:aC} (kU:lj P w K mg base fD 2 BI BV "times" ["one","other"] (cG K iP)):fH P w K mg base fD 3 f fd ["one","count"] (cG K gO) :=
 qO F zO KY fun _ _ _ _ _ _ hr=>have nd:=zO.nd; (aM (kz (i:=2) nd rfl (MC aP aP))
 (aM (dH bE rfl (rD rfl lG (bH 1)) (lV (i:=3) nd rfl) (aS (kz (i:=2) nd rfl (aQ kU.ok (hr.mono (by decide)) rfl kU.mg kU.kp kU.bi (ah (bb (bH 2)) (ah (bb (bH 0)) aL))))))
 (aS (cm (bb (bH 2))))))
theorem pz:cA ["plan","pairs","far","closed","one","other","before","after"] ["plan","pairs"] (bc (top 23)):=qI
theorem yj {f:Addr} {fd:aC} (F:nu K "joined_plan" "joined_plan" (top 23) f fd) {rS:Addr} {rZ:aC} (gJ:lj P w K mg base fD 1 rS rZ "far_ends" ["threads"] (cG K jc)) {uQ:Addr} {uX:aC} (iw:lj P w K mg base fD 1 uQ uX "plan_of" ["far"] (cG K jO)):fH P w K mg base fD 2 f fd ["plan","pairs"] (cG K ju) :=
 qO F pz yL fun _ _ _ _ _ _ hr=>have nd:=pz.nd; have hu:=hr.units; (aM (kz (i:=2) nd rfl (aQ gJ.ok (hr.mono (by decide)) rfl gJ.mg gJ.kp gJ.bi (ah (bH 0) aL)))
 (aM (kz (i:=3) nd rfl aP)
 (aM (dH bE rfl (gm (bH 1)) (iX rfl (cJ (lV (i:=4) nd rfl) (cJ (lV (i:=5) nd rfl) gM)) (cL (cL gN))) (aM (kz (i:=6) nd rfl (nN cZ rm Js mS (Dv hu) (bH 2) (ah (bH 4) aL)))
 (aM (kz (i:=7) nd rfl (nN cZ rm Js mS (Dv hu) (bH 2) (ah (bH 5) aL)))
 (aS (i9 (fP (mI hu) (bH 6) (bH 5) (hZ _)) (aS (kz (i:=3) nd rfl (cu eU (bH 3) aP))) (aM (gY (bH 7) (iY hu (bH 2) (bH 6)))
 (aS (gY (bH 6) (iY hu (bH 2) (bH 7))))))))))
 (aS (cm (bb (eA (ah (aQ iw.ok (hr.mono (by decide)) rfl iw.mg iw.kp iw.bi (ah (bb (bH 2)) aL)) (ah (bH 3) aL)))))))))
theorem JI:cA ["name","split"] ["name","split"] (bc (top 18)):=qI
theorem KA {f:Addr} {fd:aC} (F:nu K "joints" "joints" (top 18) f fd) {nK:Tok} (pY:mg "ALONG" = some (.int 0 nK)):fH P w K mg base fD 1 f fd ["name","split"] (cG K qk) :=
 qO F JI K0 fun _ _ _ _ _ _ hr=>have hu:=hr.units; (aM (i9 (fP (mI hu) (bH 1) (v7 rfl pY) (hZ _)) (aS (cm (bb (mf (ah (eA (ah (eA (ah (bH 0) (ah aP (ah aP aL)))) (ah (eA (ah (bH 0) (ah aP (ah aP aL)))) aL))) (ah (eA (ah (eA (ah (bH 0) (ah aP (ah aP aL)))) (ah (eA (ah (bH 0) (ah aP (ah aP aL)))) aL))) aL)))))) fQ)
 (aS (cm (bb (mf (ah (eA (ah (eA (ah (bH 0) (ah aP (ah aP aL)))) (ah (eA (ah (bH 0) (ah aP (ah aP aL)))) aL))) (ah (eA (ah (eA (ah (bH 0) (ah aP (ah aP aL)))) (ah (eA (ah (bH 0) (ah aP (ah aP aL)))) aL))) aL)))))))
theorem wX:cA ["one","by","factor","sums","power","number"] ["one","by","factor"] (bc (top 13)):=qI
theorem Gr {f:Addr} {fd:aC} (F:nu K "shifted" "shifted" (top 13) f fd) {fR:Addr} {fT:aC} (bZ:lj P w K mg base fD 1 fR fT "without_noughts" ["sums"] (cG K cW)):fH P w K mg base fD 2 f fd ["one","by","factor"] (cG K dZ) :=
 qO F wX Hh fun _ _ _ _ _ _ hr=>have nd:=wX.nd; have hu:=hr.units; (aM (kz (i:=3) nd rfl kP)
 (aM (dH bE rfl (mW (bH 0)) (iX rfl (cJ (lV (i:=4) nd rfl) (cJ (lV (i:=5) nd rfl) gM)) (cL (cL gN))) (aS (gY (cu xF (bH 5) (bH 2)) (iY hu (bH 3) (cu eU (bH 4) (bH 1))))))
 (aS (cm (bb (aQ bZ.ok (hr.mono (by decide)) rfl bZ.mg bZ.kp bZ.bi (ah (bb (bH 3)) aL)))))))
theorem CP:cA ["hand","split"] ["hand","split"] (bc (top 19)):=qI
theorem DY {f:Addr} {fd:aC} (F:nu K "power_at" "power_at" (top 19) f fd) {nK:Tok} (pY:mg "ALONG" = some (.int 0 nK)):fH P w K mg base fD 1 f fd ["hand","split"] (cG K lZ) :=
 qO F CP ED fun _ _ _ _ _ _ hr=>have hu:=hr.units; (aS (cm (bb (MA (fP (mI hu) (bH 1) (v7 rfl pY) (hZ _)) (bH 0) (xu sF (bH 0))))))
theorem CU:cA ["one","other","sums","power","number"] ["one","other"] (bc (top 11)):=qI
theorem NT {f:Addr} {fd:aC} (F:nu K "added" "added" (top 11) f fd) (no_dict:mg "dict" = none) {fR:Addr} {fT:aC} (bZ:lj P w K mg base fD 1 fR fT "without_noughts" ["sums"] (cG K cW)):fH P w K mg base fD 2 f fd ["one","other"] (cG K kb) :=
 qO F CU OF fun _ _ _ _ _ _ hr=>have nd:=CU.nd; have hu:=hr.units; (aM (kz (i:=2) nd rfl (rE GY rfl no_dict B4 (ah (bH 0) aL)))
 (aM (dH bE rfl (mW (bH 1)) (iX rfl (cJ (lV (i:=3) nd rfl) (cJ (lV (i:=4) nd rfl) gM)) (cL (cL gN))) (aS (gY (cu eU (nN cZ gj kJ mS Iz (bH 2) (ah (bH 3) (ah aP aL))) (bH 4)) (iY hu (bH 2) (bH 3)))))
 (aS (cm (bb (aQ bZ.ok (hr.mono (by decide)) rfl bZ.mg bZ.kp bZ.bi (ah (bb (bH 2)) aL)))))))
theorem sL:cA ["sums","name","hand","after","plan","poly","split","made","part","kept"] ["sums","name","hand"] (bc (top 24)):=qI
theorem BC {f:Addr} {fd:aC} (F:nu K "opened_at" "opened_at" (top 24) f fd) (no_dict:mg "dict" = none) {uy:Tok} (GV:mg "AGAINST" = some (.int 1 uy)) {nK:Tok} (pY:mg "ALONG" = some (.int 0 nK)) {lK:Addr} (BA:mg "LOOP" = some (.ref lK)) (qu:(lK == cY)=false) (qv:AI K lK [(2,-1),(-2,-1)]=true) {zq:Addr} {zv:aC} (j8:lj P w K mg base fD 2 zq zv "joined_plan" ["plan","pairs"] (cG K ju)) {N0:Addr} {Od:aC} (tZ:lj P w K mg base fD 1 N0 Od "joints" ["name","split"] (cG K qk)) {uP:Addr} {uW:aC} (iu:lj P w K mg base fD 2 uP uW "shifted" ["one","by","factor"] (cG K dZ)) {Gz:Addr} {GN:aC} (nY:lj P w K mg base fD 1 Gz GN "power_at" ["hand","split"] (cG K lZ)) {BI:Addr} {BV:aC} (kU:lj P w K mg base fD 2 BI BV "times" ["one","other"] (cG K iP)) {yn:Addr} {yy:aC} (jD:lj P w K mg base fD 3 yn yy "raised" ["one","count"] (cG K gO)) {Qv:Addr} {QC:aC} (wm:lj P w K mg base fD 2 Qv QC "added" ["one","other"] (cG K kb)):fH P w K mg base fD 4 f fd ["sums","name","hand"] (cG K kN) :=
 qO F sL Cb fun _ _ _ _ _ _ hr=>have nd:=sL.nd; have hu:=hr.units; (aM (kz (i:=3) nd rfl Ik)
 (aM (Bg (dH bE rfl (xt (bH 0)) (iX rfl (cJ (lV (i:=4) nd rfl) (cJ (lV (i:=5) nd rfl) gM)) (cL (cL gN))) (aS (dH bE rfl (gm (eA (ah (v7 rfl pY) (ah (v7 rfl GV) aL)))) (lV (i:=6) nd rfl) (aM (kz (i:=7) nd rfl (aQ j8.ok (hr.mono (by decide)) rfl j8.mg j8.kp j8.bi (ah (bH 4) (ah (aQ tZ.ok (hr.mono (by decide)) rfl tZ.mg tZ.kp tZ.bi (ah (bH 1) (ah (bH 6) aL))) aL))))
 (aM (kz (i:=8) nd rfl (aQ iu.ok (hr.mono (by decide)) rfl iu.mg iu.kp iu.bi (ah (bb (aQ kU.ok (hr.mono (by decide)) rfl kU.mg kU.kp kU.bi (ah (bb (bH 5)) (ah (bb (aQ jD.ok (hr.mono (by decide)) rfl jD.mg jD.kp jD.bi (ah (bb (zX rfl no_dict rfl BA qu qv (by decide) (by decide))) (ah (bb (fG hu (bH 7) aP (fun _ _=>rfl))) aL)))) aL)))) (ah (bb (aQ nY.ok (hr.mono (by decide)) rfl nY.mg nY.kp nY.bi (ah (bH 2) (ah (bH 6) aL)))) (ah (bb aP) aL)))))
 (aS (gY (bb (aQ wm.ok (hr.mono (by decide)) rfl wm.mg wm.kp wm.bi (ah (bb (nN cZ gj kJ HB (Dw hu) (bH 3) (ah (bb (fG hu (bH 7) aP (fun _ _=>rfl))) (ah (bb kP) aL)))) (ah (bb (bH 8)) aL)))) (Dh hu (bH 3) (fG hu (bH 7) aP (fun _ _=>rfl)))))))))))
 (aM (kz (i:=9) nd rfl Ik)
 (aM (Bg (dH bE rfl (xt (bH 3)) (iX rfl (cJ (lV (i:=4) nd rfl) (cJ (lV (i:=5) nd rfl) gM)) (cL (cL gN))) (aS (i9 (je (bH 5)) (aS (gY (bb (bH 5)) (Dh hu (bH 9) (bH 4)))) fQ))))
 (aS (cm (bb (bH 9))))))))
theorem zP:cA ["drawing","names","hands","loose","sums","name","hand"] ["drawing","names"] (bc (top 25)):=qI
theorem Kz {f:Addr} {fd:aC} (F:nu K "opened" "opened" (top 25) f fd) (no_dict:mg "dict" = none) (nQ:mg "len" = none) (uI:mg "zip" = none) {lK:Addr} (BA:mg "LOOP" = some (.ref lK)) (qu:(lK == cY)=false) (qv:AI K lK [(2,-1),(-2,-1)]=true) {uS:Addr} {uZ:aC} (iB:lj P w K mg base fD 2 uS uZ "hand_of" ["drawing","name"] (cG K fW)) {BH:Addr} {BU:aC} (kT:lj P w K mg base fD 2 BH BU "whole_plan" ["drawing"] (cG K jZ)) {yn:Addr} {yy:aC} (jD:lj P w K mg base fD 3 yn yy "raised" ["one","count"] (cG K gO)) {D8:Addr} {Eh:aC} (ml:lj P w K mg base fD 4 D8 Eh "opened_at" ["sums","name","hand"] (cG K kN)):fH P w K mg base fD 5 f fd ["drawing","names"] (cG K qj) :=
 qO F zP KZ fun _ _ _ _ _ _ hr=>have nd:=zP.nd; have hu:=hr.units; (aM (xn ["name","drawing"] (sc:=bc (top 25)) (XN:=["drawing","names","hands","loose","sums","name","hand"]) (i:=2) nd rfl rfl (gm (bH 1)) (fun _ _ _ _=>(lV (i:=0) (show (["name","drawing"]:List Str).Nodup by decide +kernel) rfl)) (fun _ _ _ _=>.none) (fun _ _ _ _=>(aQ iB.ok (hr.mono (by decide)) rfl iB.mg iB.kp iB.bi (ah (bH 1) (ah (bH 0) aL)))))
 (aM (kz (i:=3) nd rfl (k9 u6 rfl nQ GZ (ah (pJ ["row"] (sc:=bc (top 25)) (XN:=["drawing","names","hands","loose","sums","name","hand"]) (gm (bH 0)) (fun _ _ _ _=>(lV (i:=0) (show (["row"]:List Str).Nodup by decide +kernel) rfl)) (fun _ _ _ _=>(.some (nM (je (bH 0))))) (fun _ _ _ _=>(bH 0))) aL)))
 (aM (kz (i:=4) nd rfl (bb (MB hu (aQ kT.ok (hr.mono (by decide)) rfl kT.mg kT.kp kT.bi (ah (bH 0) aL)) (bb (aQ jD.ok (hr.mono (by decide)) rfl jD.mg jD.kp jD.bi (ah (bb (zX rfl no_dict rfl BA qu qv (by decide) (by decide))) (ah (bb (bH 3)) aL)))))))
 (aM (dH bE rfl (Ij rfl uI (bH 1) (bH 2)) (iX rfl (cJ (lV (i:=5) nd rfl) (cJ (lV (i:=6) nd rfl) gM)) (cL (cL gN))) (aS (kz (i:=4) nd rfl (bb (aQ ml.ok (hr.mono (by decide)) rfl ml.mg ml.kp ml.bi (ah (bH 4) (ah (bH 5) (ah (bH 6) aL))))))))
 (aS (cm (bb (bH 4))))))))
theorem CQ:cA ["drawing"] ["drawing"] (bc (top 5)):=qI
theorem DZ {f:Addr} {fd:aC} (F:nu K "names_of" "names_of" (top 5) f fd) (lb:mg "sorted" = none) {mK:Addr} {mL:aC} (eG:lj P w K mg base fD 1 mK mL "passings_of" ["rows"] (cG K fu)):fH P w K mg base fD 2 f fd ["drawing"] (cG K ff) :=
 qO F CQ vK fun _ _ _ _ _ _ hr=>have hu:=hr.units; (aS (cm (bb (k9 (tW rfl hu) rfl lb AN (ah (pJ ["passing"] (sc:=bc (top 5)) (XN:=["drawing"]) (gm (aQ eG.ok (hr.mono (by decide)) rfl eG.mg eG.kp eG.bi (ah (bH 0) aL))) (fun _ _ _ _=>(lV (i:=0) (show (["passing"]:List Str).Nodup by decide +kernel) rfl)) (fun _ _ _ _=>(.some (fP (mI hu) (fG hu (bH 0) aP (fun _ _=>rfl)) aP (hZ _)))) (fun _ _ _ _=>(fG hu (bH 0) aP (fun _ _=>rfl)))) aL)))))
theorem FA:cA ["drawing"] ["drawing"] (bc (top 26)):=qI
theorem Gx {f:Addr} {fd:aC} (F:nu K "bracket" "bracket" (top 26) f fd) {NY:Addr} {Oc:aC} (tY:lj P w K mg base fD 5 NY Oc "opened" ["drawing","names"] (cG K qj)) {rN:Addr} {rV:aC} (gH:lj P w K mg base fD 2 rN rV "names_of" ["drawing"] (cG K ff)):fH P w K mg base fD 6 f fd ["drawing"] (cG K hW) :=
 qO F FA Hk fun _ _ _ _ _ _ hr=>have hu:=hr.units; (aS (cm (bb (nN cZ gj kJ HB (Dw hu) (aQ tY.ok (hr.mono (by decide)) rfl tY.mg tY.kp tY.bi (ah (bH 0) (ah (aQ gH.ok (hr.mono (by decide)) rfl gH.mg gH.kp gH.bi (ah (bH 0) aL)) aL))) (ah (bb (eA aL)) (ah (bb kP) aL))))))
theorem A8:cA ["_law_found"] ["_law_found"] (bc (top 32)):=qI
theorem BD {f:Addr} {fd:aC} (F:nu K "_law_whole" "_law_whole" (top 32) f fd) (Bm:mg "bool" = none) (FP:mg "int" = none) (fY:mg "isinstance" = none):fH P w K mg base fD 1 f fd ["_law_found"] (cG K fe) :=
 qO F A8 Cc fun _ _ _ _ _ _ hr=>(aS (cm (bb (PV (Bj "int" (by decide) rfl fY rfl FP TV (bH 0)) (PS (PT (Bj "bool" (by decide) rfl fY rfl Bm QT (bH 0))))))))
theorem vj:cA ["_law_found","_law_at"] ["_law_found"] (bc (top 34)):=qI
theorem D1 {f:Addr} {fd:aC} (F:nu K "_law_poly" "_law_poly" (top 34) f fd) (no_dict:mg "dict" = none) (fY:mg "isinstance" = none) {D9:Addr} {Ei:aC} (gF:lj P w K mg base fD 1 D9 Ei "_law_whole" ["_law_found"] (cG K fe)):fH P w K mg base fD 2 f fd ["_law_found"] (cG K hV) :=
 qO F vj EF fun _ _ _ _ _ _ hr=>have nd:=vj.nd; have hu:=hr.units; (aM (i9 (nM (je (Bj "dict" (by decide) rfl fY rfl no_dict B4 (bH 0)))) (aS (cm (bb uG))) fQ)
 (aM (dH bE rfl (sW (bH 0)) (lV (i:=1) nd rfl) (aS (i9 (RU.pt (Bf (nM (je (aQ gF.ok (hr.mono (by decide)) rfl gF.mg gF.kp gF.bi (ah (bH 1) aL)))) (Bf (nM (je (aQ gF.ok (hr.mono (by decide)) rfl gF.mg gF.kp gF.bi (ah (fG hu (bH 0) (bH 1) (fun _ _=>rfl)) aL)))) (Be (fP (mI hu) (fG hu (bH 0) (bH 1) (fun _ _=>rfl)) aP (hZ _)))))) (aS (cm (bb uG))) fQ)))
 (aS (cm (bb uG)))))
theorem sM:cA ["_law_one","_law_kept","_law_at"] ["_law_one"] (bc (top 35)):=qI
theorem BE {f:Addr} {fd:aC} (F:nu K "_law_pared" "_law_pared" (top 35) f fd):fH P w K mg base fD 1 f fd ["_law_one"] (cG K ip) :=
 qO F sM Cd fun _ _ _ _ _ _ hr=>have nd:=sM.nd; have hu:=hr.units; (aM (kz (i:=1) nd rfl kP)
 (aM (dH bE rfl (sW (bH 0)) (lV (i:=2) nd rfl) (aS (i9 (fP (FL hu) (fG hu (bH 0) (bH 2) (fun _ _=>rfl)) aP (hZ _)) (aS (gY (fG hu (bH 0) (bH 2) (fun _ _=>rfl)) (iY hu (bH 1) (bH 2)))) fQ)))
 (aS (cm (bb (bH 1))))))
theorem sO:cA ["_law_one","_law_by","_law_factor","_law_made","_law_at"] ["_law_one","_law_by","_law_factor"] (bc (top 36)):=qI
theorem BG {f:Addr} {fd:aC} (F:nu K "_law_moved" "_law_moved" (top 36) f fd) {Ea:Addr} {Ej:aC} (mr:lj P w K mg base fD 1 Ea Ej "_law_pared" ["_law_one"] (cG K ip)):fH P w K mg base fD 2 f fd ["_law_one","_law_by","_law_factor"] (cG K fN) :=
 qO F sO oe fun _ _ _ _ _ _ hr=>have nd:=sO.nd; have hu:=hr.units; (aM (kz (i:=3) nd rfl kP)
 (aM (dH bE rfl (sW (bH 0)) (lV (i:=4) nd rfl) (aS (gY (cu xF (fG hu (bH 0) (bH 4) (fun _ _=>rfl)) (bH 2)) (iY hu (bH 3) (cu eU (bH 4) (bH 1))))))
 (aS (cm (bb (aQ mr.ok (hr.mono (by decide)) rfl mr.mg mr.kp mr.bi (ah (bb (bH 3)) aL)))))))
theorem JH:cA ["drawing"] ["drawing"] (bc (top 28)):=qI
theorem Kw {f:Addr} {fd:aC} (F:nu K "writhe" "writhe" (top 28) f fd) (FO:mg "sum" = none) {rN:Addr} {rV:aC} (gH:lj P w K mg base fD 2 rN rV "names_of" ["drawing"] (cG K ff)) {uS:Addr} {uZ:aC} (iB:lj P w K mg base fD 2 uS uZ "hand_of" ["drawing","name"] (cG K fW)):fH P w K mg base fD 3 f fd ["drawing"] (cG K qi) :=
 qO F JH KW fun _ _ _ _ _ _ hr=>(aS (cm (bb (k9 (KJ rfl) rfl FO TU (ah (pJ ["name","drawing"] (sc:=bc (top 28)) (XN:=["drawing"]) (gm (aQ gH.ok (hr.mono (by decide)) rfl gH.mg gH.kp gH.bi (ah (bH 0) aL))) (fun _ _ _ _=>(lV (i:=0) (show (["name","drawing"]:List Str).Nodup by decide +kernel) rfl)) (fun _ _ _ _=>.none) (fun _ _ _ _=>(aQ iB.ok (hr.mono (by decide)) rfl iB.mg iB.kp iB.bi (ah (bH 1) (ah (bH 0) aL))))) aL)))))
theorem vi:cA ["drawing","turns","sign"] ["drawing"] (bc (top 29)):=qI
theorem D0 {f:Addr} {fd:aC} (F:nu K "levelled" "levelled" (top 29) f fd) {NX:Addr} {Ob:aC} (tX:lj P w K mg base fD 3 NX Ob "writhe" ["drawing"] (cG K qi)) {uP:Addr} {uW:aC} (iu:lj P w K mg base fD 2 uP uW "shifted" ["one","by","factor"] (cG K dZ)) {uT:Addr} {u5:aC} (fh:lj P w K mg base fD 6 uT u5 "bracket" ["drawing"] (cG K hW)):fH P w K mg base fD 7 f fd ["drawing"] (cG K ka) :=
 qO F vi EE fun _ _ _ _ _ _ hr=>have nd:=vi.nd; have hu:=hr.units; (aM (kz (i:=1) nd rfl (aQ tX.ok (hr.mono (by decide)) rfl tX.mg tX.kp tX.bi (ah (bH 0) aL)))
 (aM (kz (i:=2) nd rfl (MA (fP (mI hu) (cu iZ (bH 1) aP) aP (hZ _)) aP (xu sF aP)))
 (aS (cm (bb (aQ iu.ok (hr.mono (by decide)) rfl iu.mg iu.kp iu.bi (ah (bb (aQ fh.ok (hr.mono (by decide)) rfl fh.mg fh.kp fh.bi (ah (bH 0) aL))) (ah (bb (cu kQ (xu sF aP) (bH 1))) (ah (bb (bH 2)) aL)))))))))
theorem qX:cA ["_law_one","_law_rows","_law_total","_law_row","_law_passing"] ["_law_one","_law_rows"] (bc (top 42)):=qI
theorem zj {f:Addr} {fd:aC} (F:nu K "_law_evened" "_law_evened" (top 42) f fd) {pR:Addr} {pW:aC} (fV:lj P w K mg base fD 2 pR pW "_law_moved" ["_law_one","_law_by","_law_factor"] (cG K fN)):fH P w K mg base fD 3 f fd ["_law_one","_law_rows"] (cG K j0) :=
 qO F qX zE fun _ _ _ _ _ _ hr=>have nd:=qX.nd; have hu:=hr.units; (aM (kz (i:=2) nd rfl aP)
 (aM (dH bE rfl (gm (bH 1)) (lV (i:=3) nd rfl) (aS (dH bE rfl (gm (bH 3)) (lV (i:=4) nd rfl) (aS (i9 (fP (mI hu) (fG hu (bH 4) aP (fun _ _=>rfl)) aP (hZ _)) (aS (kz (i:=2) nd rfl (cu eU (bH 2) (fG hu (bH 4) aP (fun _ _=>rfl))))) fQ)))))
 (aS (cm (bb (aQ fV.ok (hr.mono (by decide)) rfl fV.mg fV.kp fV.bi (ah (bH 0) (ah (cu kQ (xu sF aP) (bH 2)) (ah (cu v8 aP (cu kQ aP (cu iZ (bH 2) aP))) aL)))))))))
theorem Mc:cA ["_law_script","_law_strings","_law_spread","_law_rows","_law_name","_law_hand","_law_way","_law_at","_law_curl","_law_curled","_law_one","_law_other","_law_found"] ["_law_script"] (bc (top 43)):=qI
theorem TB {f:Addr} {fd:aC} (F:nu K "law" "law" (top 43) f fd) {zo:Addr} {zu:aC} (a9:lj P w K mg base fD 1 zo zu "_law_cell_at" ["_law_script","_law_k"] (cG K cq)) {zk:Addr} {zt:aC} (j7:lj P w K mg base fD 3 zk zt "_law_drawing" ["_law_cells","_law_strings","_law_spread"] (cG K jt)) {rP:Addr} {rX:aC} (gI:lj P w K mg base fD 1 rP rX "_law_free" ["_law_names_here","_law_name"] (cG K fO)) {rO:Addr} {rW:aC} (cj:lj P w K mg base fD 1 rO rW "_law_pick" ["_law_cell","_law_prime","_law_many"] (cG K c8)) {Eb:Addr} {Ek:aC} (mw:lj P w K mg base fD 1 Eb Ek "_law_names" ["_law_rows"] (cG K iq)) {uR:Addr} {uY:aC} (iA:lj P w K mg base fD 2 uR uY "_law_put" ["_law_rows","_law_at","_law_place","_law_more"] (cG K i7)) {uT:Addr} {u5:aC} (fh:lj P w K mg base fD 6 uT u5 "bracket" ["drawing"] (cG K hW)) {rQ:Addr} {rY:aC} (df:lj P w K mg base fD 1 rQ rY "_law_copy" ["_law_rows"] (cG K dJ)) {GB:Addr} {GQ:aC} (eX:lj P w K mg base fD 2 GB GQ "_law_poly" ["_law_found"] (cG K hV)) {pR:Addr} {pW:aC} (fV:lj P w K mg base fD 2 pR pW "_law_moved" ["_law_one","_law_by","_law_factor"] (cG K fN)) {GA:Addr} {GP:aC} (ib:lj P w K mg base fD 7 GA GP "levelled" ["drawing"] (cG K ka)) {BJ:Addr} {BW:aC} (kW:lj P w K mg base fD 3 BJ BW "_law_evened" ["_law_one","_law_rows"] (cG K j0)):fH P w K mg base fD 8 f fd ["_law_script"] (cG K K2.zL) :=
 qO F Mc T4 fun _ _ _ _ _ _ hr=>have nd:=Mc.nd; have hu:=hr.units; (aM (kz (i:=1) nd rfl (cu eU aP (cu iZ (aQ a9.ok (hr.mono (by decide)) rfl a9.mg a9.kp a9.bi (ah (bH 0) (ah aP aL))) aP)))
 (aM (kz (i:=2) nd rfl aP)
 (aM (i9 (fP (Io hu) (cu iZ (cu Dj (aQ a9.ok (hr.mono (by decide)) rfl a9.mg a9.kp a9.bi (ah (bH 0) (ah aP aL))) aP) aP) aP (hZ _)) (aS (kz (i:=2) nd rfl aP)) fQ)
 (aM (kz (i:=3) nd rfl (bb (aQ j7.ok (hr.mono (by decide)) rfl j7.mg j7.kp j7.bi (ah (jQ (bH 0) (kd aP) (kd (cu eU aP (cu iZ (aQ a9.ok (hr.mono (by decide)) rfl a9.mg a9.kp a9.bi (ah (bH 0) (ah aP aL))) aP)))) (ah (bH 1) (ah (bH 2) aL))))))
 (aM (kz (i:=4) nd rfl (aQ gI.ok (hr.mono (by decide)) rfl gI.mg gI.kp gI.bi (ah (aQ mw.ok (hr.mono (by decide)) rfl mw.mg mw.kp mw.bi (ah (bH 3) aL)) (ah (cu eU aP (aQ cj.ok (hr.mono (by decide)) rfl cj.mg cj.kp cj.bi (ah (aQ a9.ok (hr.mono (by decide)) rfl a9.mg a9.kp a9.bi (ah (bH 0) (ah aP aL))) (ah aP (ah (bH 2) aL))))) aL))))
 (aM (kz (i:=5) nd rfl (cu v8 aP (cu kQ aP (cu iZ (aQ a9.ok (hr.mono (by decide)) rfl a9.mg a9.kp a9.bi (ah (bH 0) (ah aP aL))) aP))))
 (aM (kz (i:=6) nd rfl (cu iZ (cu Dj (aQ a9.ok (hr.mono (by decide)) rfl a9.mg a9.kp a9.bi (ah (bH 0) (ah aP aL))) aP) aP))
 (aM (kz (i:=7) nd rfl (cu iZ (aQ a9.ok (hr.mono (by decide)) rfl a9.mg a9.kp a9.bi (ah (bH 0) (ah aP aL))) (bH 1)))
 (aM (kz (i:=8) nd rfl (mf (ah (eA (ah (bH 4) (ah (bH 6) (ah (bH 5) aL)))) (ah (eA (ah (bH 4) (ah (cu v8 aP (bH 6)) (ah (bH 5) aL)))) aL))))
 (aM (kz (i:=9) nd rfl (bb (aQ iA.ok (hr.mono (by decide)) rfl iA.mg iA.kp iA.bi (ah (bb (bH 3)) (ah (bb (bH 7)) (ah (bb (aQ cj.ok (hr.mono (by decide)) rfl cj.mg cj.kp cj.bi (ah (aQ a9.ok (hr.mono (by decide)) rfl a9.mg a9.kp a9.bi (ah (bH 0) (ah aP aL))) (ah aP (ah aP aL))))) (ah (bb (bH 8)) aL)))))))
 (aM (kz (i:=10) nd rfl (bb (aQ fh.ok (hr.mono (by decide)) rfl fh.mg fh.kp fh.bi (ah (bb (aQ df.ok (hr.mono (by decide)) rfl df.mg df.kp df.bi (ah (bH 3) aL))) aL))))
 (aM (kz (i:=11) nd rfl (bb (aQ fh.ok (hr.mono (by decide)) rfl fh.mg fh.kp fh.bi (ah (bb (aQ df.ok (hr.mono (by decide)) rfl df.mg df.kp df.bi (ah (bH 9) aL))) aL))))
 (aM (i9 (RU.pt (Bf (nM (je (aQ eX.ok (hr.mono (by decide)) rfl eX.mg eX.kp eX.bi (ah (bH 10) aL)))) (Be (nM (je (aQ eX.ok (hr.mono (by decide)) rfl eX.mg eX.kp eX.bi (ah (bH 11) aL))))))) (aS (cm (bb uG))) fQ)
 (aM (i9 (fP (Im hu) (bH 11) (aQ fV.ok (hr.mono (by decide)) rfl fV.mg fV.kp fV.bi (ah (bH 10) (ah (cu kQ aP (bH 5)) (ah (xu sF aP) aL)))) (hZ _)) (aS (cm (bb uG))) fQ)
 (aM (kz (i:=12) nd rfl (bb (aQ ib.ok (hr.mono (by decide)) rfl ib.mg ib.kp ib.bi (ah (bb (aQ df.ok (hr.mono (by decide)) rfl df.mg df.kp df.bi (ah (bH 3) aL))) aL))))
 (aM (i9 (RU.pt (Bf (nM (je (aQ eX.ok (hr.mono (by decide)) rfl eX.mg eX.kp eX.bi (ah (bH 12) aL)))) (Be (fP (Im hu) (bH 12) (aQ kW.ok (hr.mono (by decide)) rfl kW.mg kW.kp kW.bi (ah (bH 10) (ah (bH 3) aL))) (hZ _))))) (aS (cm (bb uG))) fQ)
 (aS (cm (bb (PU (Io hu) (aQ ib.ok (hr.mono (by decide)) rfl ib.mg ib.kp ib.bi (ah (bb (bH 9)) aL)) (bH 12) (hZ _)))))))))))))))))))))
end
theorem all_mk {l:AX} {w:World} {K:ai} {h:Heap} {mg:Str->Option Value} {fa:Addr} (X:K.In h) (G:h.Ns bP mg) (hfa:mg "law" = some (.ref fa))
  {f0:Addr} {d0:aC} (F0:At K "_law_cell_at" (top 31) f0 d0)
  {f1:Addr} {d1:aC} (F1:At K "_law_free" (top 38) f1 d1)
  {f2:Addr} {d2:aC} (F2:At K "_law_pick" (top 33) f2 d2)
  {f3:Addr} {d3:aC} (F3:At K "_law_copy" (top 37) f3 d3)
  {f4:Addr} {d4:aC} (F4:At K "_law_put" (top 39) f4 d4)
  {f5:Addr} {d5:aC} (F5:At K "_law_drawing" (top 40) f5 d5)
  {f6:Addr} {d6:aC} (F6:At K "_law_names" (top 41) f6 d6)
  {f7:Addr} {d7:aC} (F7:At K "passings_of" (top 4) f7 d7)
  {f8:Addr} {d8:aC} (F8:At K "hand_of" (top 6) f8 d8)
  {f9:Addr} {d9:aC} (F9:At K "next_of" (top 7) f9 d9)
  {WO:Addr} {d10:aC} (UB:At K "plan_of" (top 20) WO d10)
  {f11:Addr} {d11:aC} (UA:At K "far_ends" (top 22) f11 d11)
  {f12:Addr} {d12:aC} (Xa:At K "whole_plan" (top 21) f12 d12)
  {f13:Addr} {d13:aC} (RZ:At K "without_noughts" (top 10) f13 d13)
  {f14:Addr} {d14:aC} (Uz:At K "times" (top 12) f14 d14)
  {f15:Addr} {d15:aC} (Uy:At K "raised" (top 14) f15 d15)
  {f16:Addr} {d16:aC} (W9:At K "joined_plan" (top 23) f16 d16)
  {f17:Addr} {d17:aC} (W8:At K "joints" (top 18) f17 d17)
  {f18:Addr} {d18:aC} (Ux:At K "shifted" (top 13) f18 d18)
  {f19:Addr} {d19:aC} (W7:At K "power_at" (top 19) f19 d19)
  {f20:Addr} {d20:aC} (W6:At K "added" (top 11) f20 d20)
  {f21:Addr} {d21:aC} (W5:At K "opened_at" (top 24) f21 d21)
  {f22:Addr} {d22:aC} (W4:At K "opened" (top 25) f22 d22)
  {f23:Addr} {d23:aC} (Uw:At K "names_of" (top 5) f23 d23)
  {f24:Addr} {d24:aC} (Uv:At K "bracket" (top 26) f24 d24)
  {f25:Addr} {d25:aC} (W3:At K "_law_whole" (top 32) f25 d25)
  {f26:Addr} {d26:aC} (W2:At K "_law_poly" (top 34) f26 d26)
  {f27:Addr} {d27:aC} (W0:At K "_law_pared" (top 35) f27 d27)
  {f28:Addr} {d28:aC} (Uu:At K "_law_moved" (top 36) f28 d28)
  {f29:Addr} {d29:aC} (WZ:At K "writhe" (top 28) f29 d29)
  {f30:Addr} {d30:aC} (WY:At K "levelled" (top 29) f30 d30)
  {f31:Addr} {d31:aC} (WX:At K "_law_evened" (top 42) f31 d31)
  {f32:Addr} {d32:aC} (F32:At K "law" (top 43) f32 d32)
  (UG:autoParam (c5 K bP "len" = some none) Aq._auto_1) (R1:autoParam (c5 K bP "list" = some none) Aq._auto_1) (Pb:autoParam (c5 K bP "range" = some none) Aq._auto_1) (UD:autoParam (c5 K bP "zip" = some none) Aq._auto_1) (LJ:autoParam (c5 K bP "sorted" = some none) Aq._auto_1) (Pa:autoParam (c5 K bP "tuple" = some none) Aq._auto_1) (R3:autoParam (c5 K bP "dict" = some none) Aq._auto_1) (R4:autoParam (c5 K bP "bool" = some none) Aq._auto_1) (UH:autoParam (c5 K bP "int" = some none) Aq._auto_1) (A1:autoParam (c5 K bP "isinstance" = some none) Aq._auto_1) (UE:autoParam (c5 K bP "sum" = some none) Aq._auto_1) {nK:Tok} (yA:autoParam (c5 K bP "ALONG" = some (some (.int 0 nK))) Aq._auto_1) {uy:Tok} (GU:autoParam (c5 K bP "AGAINST" = some (some (.int 1 uy))) Aq._auto_1) {lK:Addr} (IW:autoParam (c5 K bP "LOOP" = some (some (.ref lK))) Aq._auto_1) (qu:autoParam ((lK == cY)=false) Ae._auto_1) (qv:autoParam (AI K lK [(2,-1),(-2,-1)]=true) Af._auto_1) :
  ∃ fd:aC,(∀ (s:av) (v:Value),LG s fd ⟨[v],[]⟩ [("_law_script",v)])/\∀ base:Heap,K.In base->base.Ns bP mg->fH l.prog w K mg base fD 8 fa fd ["_law_script"] (cG K K2.zL):=by
 have e:=hfa.symm.trans (jM X G F32.a);cases e;have b0:=F0.F.binds (ps:=["_law_script","_law_k"]) fun _ _ _ _ _ _ us hl=>by obtain⟨_,_,rfl⟩:=vR hl; rfl
 have b1:=F1.F.binds (ps:=["_law_names_here","_law_name"]) fun _ _ _ _ _ _ us hl=>by obtain⟨_,_,rfl⟩:=vR hl; rfl
 have b2:=F2.F.binds (ps:=["_law_cell","_law_prime","_law_many"]) fun _ _ _ _ _ _ us hl=>by obtain⟨_,_,_,rfl⟩:=J4 hl; rfl
 have b3:=F3.F.binds (ps:=["_law_rows"]) fun _ _ _ _ _ _ us hl=>by obtain⟨_,rfl⟩:=qM hl; rfl
 have b4:=F4.F.binds (ps:=["_law_rows","_law_at","_law_place","_law_more"]) fun _ _ _ _ _ _ us hl=>by obtain⟨_,_,_,_,rfl⟩:=Yb hl; rfl
 have b5:=F5.F.binds (ps:=["_law_cells","_law_strings","_law_spread"]) fun _ _ _ _ _ _ us hl=>by obtain⟨_,_,_,rfl⟩:=J4 hl; rfl
 have b6:=F6.F.binds (ps:=["_law_rows"]) fun _ _ _ _ _ _ us hl=>by obtain⟨_,rfl⟩:=qM hl; rfl
 have b7:=F7.F.binds (ps:=["rows"]) fun _ _ _ _ _ _ us hl=>by obtain⟨_,rfl⟩:=qM hl; rfl
 have b8:=F8.F.binds (ps:=["drawing","name"]) fun _ _ _ _ _ _ us hl=>by obtain⟨_,_,rfl⟩:=vR hl; rfl
 have b9:=F9.F.binds (ps:=["drawing"]) fun _ _ _ _ _ _ us hl=>by obtain⟨_,rfl⟩:=qM hl; rfl
 have b10:=UB.F.binds (ps:=["far"]) fun _ _ _ _ _ _ us hl=>by obtain⟨_,rfl⟩:=qM hl; rfl
 have b11:=UA.F.binds (ps:=["threads"]) fun _ _ _ _ _ _ us hl=>by obtain⟨_,rfl⟩:=qM hl; rfl
 have b12:=Xa.F.binds (ps:=["drawing"]) fun _ _ _ _ _ _ us hl=>by obtain⟨_,rfl⟩:=qM hl; rfl
 have Zq:=RZ.F.binds (ps:=["sums"]) fun _ _ _ _ _ _ us hl=>by obtain⟨_,rfl⟩:=qM hl; rfl
 have b14:=Uz.F.binds (ps:=["one","other"]) fun _ _ _ _ _ _ us hl=>by obtain⟨_,_,rfl⟩:=vR hl; rfl
 have b15:=Uy.F.binds (ps:=["one","count"]) fun _ _ _ _ _ _ us hl=>by obtain⟨_,_,rfl⟩:=vR hl; rfl
 have b16:=W9.F.binds (ps:=["plan","pairs"]) fun _ _ _ _ _ _ us hl=>by obtain⟨_,_,rfl⟩:=vR hl; rfl
 have b17:=W8.F.binds (ps:=["name","split"]) fun _ _ _ _ _ _ us hl=>by obtain⟨_,_,rfl⟩:=vR hl; rfl
 have b18:=Ux.F.binds (ps:=["one","by","factor"]) fun _ _ _ _ _ _ us hl=>by obtain⟨_,_,_,rfl⟩:=J4 hl; rfl
 have b19:=W7.F.binds (ps:=["hand","split"]) fun _ _ _ _ _ _ us hl=>by obtain⟨_,_,rfl⟩:=vR hl; rfl
 have b20:=W6.F.binds (ps:=["one","other"]) fun _ _ _ _ _ _ us hl=>by obtain⟨_,_,rfl⟩:=vR hl; rfl
 have b21:=W5.F.binds (ps:=["sums","name","hand"]) fun _ _ _ _ _ _ us hl=>by obtain⟨_,_,_,rfl⟩:=J4 hl; rfl
 have b22:=W4.F.binds (ps:=["drawing","names"]) fun _ _ _ _ _ _ us hl=>by obtain⟨_,_,rfl⟩:=vR hl; rfl
 have b23:=Uw.F.binds (ps:=["drawing"]) fun _ _ _ _ _ _ us hl=>by obtain⟨_,rfl⟩:=qM hl; rfl
 have b24:=Uv.F.binds (ps:=["drawing"]) fun _ _ _ _ _ _ us hl=>by obtain⟨_,rfl⟩:=qM hl; rfl
 have b25:=W3.F.binds (ps:=["_law_found"]) fun _ _ _ _ _ _ us hl=>by obtain⟨_,rfl⟩:=qM hl; rfl
 have b26:=W2.F.binds (ps:=["_law_found"]) fun _ _ _ _ _ _ us hl=>by obtain⟨_,rfl⟩:=qM hl; rfl
 have b27:=W0.F.binds (ps:=["_law_one"]) fun _ _ _ _ _ _ us hl=>by obtain⟨_,rfl⟩:=qM hl; rfl
 have b28:=Uu.F.binds (ps:=["_law_one","_law_by","_law_factor"]) fun _ _ _ _ _ _ us hl=>by obtain⟨_,_,_,rfl⟩:=J4 hl; rfl
 have b29:=WZ.F.binds (ps:=["drawing"]) fun _ _ _ _ _ _ us hl=>by obtain⟨_,rfl⟩:=qM hl; rfl
 have b30:=WY.F.binds (ps:=["drawing"]) fun _ _ _ _ _ _ us hl=>by obtain⟨_,rfl⟩:=qM hl; rfl
 have b31:=WX.F.binds (ps:=["_law_one","_law_rows"]) fun _ _ _ _ _ _ us hl=>by obtain⟨_,_,rfl⟩:=vR hl; rfl
 have nQ:=c6 X G UG;have Bl:=c6 X G R1;have lG:=c6 X G Pb;have uI:=c6 X G UD;have lb:=c6 X G LJ;have xK:=c6 X G Pa;have no_dict:=c6 X G R3;have Bm:=c6 X G R4;have FP:=c6 X G UH;have fY:=c6 X G A1;have FO:=c6 X G UE;obtain⟨Fa,Fl⟩:=F32;obtain⟨oc,od,kV,doc,pm,an,nB,ct,MG,rfl,lk,IS⟩:=Fl.ex;refine⟨jE "law" "law" (mj (top 43)) (jB (top 43)) (bc (top 43)) .none kV doc pm an nB ct,fun s v=>.of_eq rfl,fun base _ _=>?_⟩;have ok0:=yi (P:=l.prog) (w:=w) (mg:=mg) (base:=base) F0.F nQ;have Vd:=D4 (P:=l.prog) (w:=w) (mg:=mg) (base:=base) F1.F;have Rm:=D3 (P:=l.prog) (w:=w) (mg:=mg) (base:=base) F2.F;have Uc:=D5 (P:=l.prog) (w:=w) (mg:=mg) (base:=base) F3.F Bl;have Z0:=Gv (P:=l.prog) (w:=w) (mg:=mg) (base:=base) F4.F nQ ⟨Uc,F3.mg X G,F3.F.kp,b3⟩;have ok5:=yh (P:=l.prog) (w:=w) (mg:=mg) (base:=base) F5.F lG ⟨Vd,F1.mg X G,F1.F.kp,b1⟩ ⟨Rm,F2.mg X G,F2.F.kp,b2⟩ ⟨Z0,F4.mg X G,F4.F.kp,b4⟩;have ok6:=BF (P:=l.prog) (w:=w) (mg:=mg) (base:=base) F6.F;have ZZ:=yg (P:=l.prog) (w:=w) (mg:=mg) (base:=base) F7.F;have ZY:=Gw (P:=l.prog) (w:=w) (mg:=mg) (base:=base) F8.F ⟨ZZ,F7.mg X G,F7.F.kp,b7⟩;have ok9:=Gu (P:=l.prog) (w:=w) (mg:=mg) (base:=base) F9.F uI;have Vc:=Gs (P:=l.prog) (w:=w) (mg:=mg) (base:=base) UB.F lb xK;have Vb:=D6 (P:=l.prog) (w:=w) (mg:=mg) (base:=base) UA.F;have XU:=zi (P:=l.prog) (w:=w) (mg:=mg) (base:=base) Xa.F ⟨ok9,F9.mg X G,F9.F.kp,b9⟩ ⟨Vc,UB.mg X G,UB.F.kp,b10⟩ ⟨Vb,UA.mg X G,UA.F.kp,b11⟩;have S1:=rM (P:=l.prog) (w:=w) (mg:=mg) (base:=base) RZ.F;have Va:=NS (P:=l.prog) (w:=w) (mg:=mg) (base:=base) Uz.F ⟨S1,RZ.mg X G,RZ.F.kp,Zq⟩;have U9:=Kx (P:=l.prog) (w:=w) (mg:=mg) (base:=base) Uy.F lG ⟨Va,Uz.mg X G,Uz.F.kp,b14⟩;have XT:=yj (P:=l.prog) (w:=w) (mg:=mg) (base:=base) W9.F ⟨Vb,UA.mg X G,UA.F.kp,b11⟩ ⟨Vc,UB.mg X G,UB.F.kp,b10⟩;have XS:=KA (P:=l.prog) (w:=w) (mg:=mg) (base:=base) W8.F (jM X G yA);have U8:=Gr (P:=l.prog) (w:=w) (mg:=mg) (base:=base) Ux.F ⟨S1,RZ.mg X G,RZ.F.kp,Zq⟩;have XR:=DY (P:=l.prog) (w:=w) (mg:=mg) (base:=base) W7.F (jM X G yA);have XQ:=NT (P:=l.prog) (w:=w) (mg:=mg) (base:=base) W6.F no_dict ⟨S1,RZ.mg X G,RZ.F.kp,Zq⟩;have XO:=BC (P:=l.prog) (w:=w) (mg:=mg) (base:=base) W5.F no_dict (jM X G GU) (jM X G yA) (jM X G IW) qu qv ⟨XT,W9.mg X G,W9.F.kp,b16⟩ ⟨XS,W8.mg X G,W8.F.kp,b17⟩ ⟨U8,Ux.mg X G,Ux.F.kp,b18⟩ ⟨XR,W7.mg X G,W7.F.kp,b19⟩ ⟨Va,Uz.mg X G,Uz.F.kp,b14⟩ ⟨U9,Uy.mg X G,Uy.F.kp,b15⟩ ⟨XQ,W6.mg X G,W6.F.kp,b20⟩;have XM:=Kz (P:=l.prog) (w:=w) (mg:=mg) (base:=base) W4.F no_dict nQ uI (jM X G IW) qu qv ⟨ZY,F8.mg X G,F8.F.kp,b8⟩ ⟨XU,Xa.mg X G,Xa.F.kp,b12⟩ ⟨U9,Uy.mg X G,Uy.F.kp,b15⟩ ⟨XO,W5.mg X G,W5.F.kp,b21⟩;have U7:=DZ (P:=l.prog) (w:=w) (mg:=mg) (base:=base) Uw.F lb ⟨ZZ,F7.mg X G,F7.F.kp,b7⟩;have U6:=Gx (P:=l.prog) (w:=w) (mg:=mg) (base:=base) Uv.F ⟨XM,W4.mg X G,W4.F.kp,b22⟩ ⟨U7,Uw.mg X G,Uw.F.kp,b23⟩;have XJ:=BD (P:=l.prog) (w:=w) (mg:=mg) (base:=base) W3.F Bm FP fY;have XI:=D1 (P:=l.prog) (w:=w) (mg:=mg) (base:=base) W2.F no_dict fY ⟨XJ,W3.mg X G,W3.F.kp,b25⟩;have XH:=BE (P:=l.prog) (w:=w) (mg:=mg) (base:=base) W0.F;have U5:=BG (P:=l.prog) (w:=w) (mg:=mg) (base:=base) Uu.F ⟨XH,W0.mg X G,W0.F.kp,b27⟩;have XG:=Kw (P:=l.prog) (w:=w) (mg:=mg) (base:=base) WZ.F FO ⟨U7,Uw.mg X G,Uw.F.kp,b23⟩ ⟨ZY,F8.mg X G,F8.F.kp,b8⟩;have XF:=D0 (P:=l.prog) (w:=w) (mg:=mg) (base:=base) WY.F ⟨XG,WZ.mg X G,WZ.F.kp,b29⟩ ⟨U8,Ux.mg X G,Ux.F.kp,b18⟩ ⟨U6,Uv.mg X G,Uv.F.kp,b24⟩;have XE:=zj (P:=l.prog) (w:=w) (mg:=mg) (base:=base) WX.F ⟨U5,Uu.mg X G,Uu.F.kp,b28⟩;exact TB Fl ⟨ok0,F0.mg X G,F0.F.kp,b0⟩ ⟨ok5,F5.mg X G,F5.F.kp,b5⟩ ⟨Vd,F1.mg X G,F1.F.kp,b1⟩ ⟨Rm,F2.mg X G,F2.F.kp,b2⟩ ⟨ok6,F6.mg X G,F6.F.kp,b6⟩ ⟨Z0,F4.mg X G,F4.F.kp,b4⟩ ⟨U6,Uv.mg X G,Uv.F.kp,b24⟩ ⟨Uc,F3.mg X G,F3.F.kp,b3⟩ ⟨XI,W2.mg X G,W2.F.kp,b26⟩ ⟨U5,Uu.mg X G,Uu.F.kp,b28⟩ ⟨XF,WY.mg X G,WY.F.kp,b30⟩ ⟨XE,WX.mg X G,WX.F.kp,b31⟩
section
open PySem.W PySem.Calls
noncomputable def hC (n:Str) (t:Nat) (l:List Value):Obj:=⟨.type "code",none,.fields (.str n t :: .str n (t+1) :: .str "/claim/cut.py" (t+2) :: l).toArray,#[]⟩
noncomputable def hI(n:Int):Value:=.int n 0
noncomputable def hR(n:Nat):Value:=.ref n
noncomputable def hN:Value:=.none
noncomputable def hT:Value:=.bool true
noncomputable def hS (n:Nat):Value:=.str "/claim/cut.py" n
noncomputable def hD(n:Str)(t:Nat)(l a:Int)(r:Nat)(x y z:Value)(u:Nat):Obj:=hC n t [hI l,hI a,hI 0,hI 0,hI 3,hR r,hT,hI 181,hR (r+1),hN,x,y,z,hI (u - 1),hI l,hS u]
noncomputable abbrev hF (i:Nat) (n:Str) (m c:Value):Obj:=⟨.type "function",none,.func (jE n n (mj (top i)) (jB (top i)) (bc (top i)) .none .none .none m none c .none),#[]⟩
noncomputable abbrev hE(P:Params)(s:Str)(t:Nat)(v:Value):eZ:=⟨PyData.keyHash P s,.str s t,v⟩
noncomputable def hQ:bJ:=PySem.W.view PySem.Challenge.pw_knotwise_k45_curls_make [1,2,4,5,6,7,9,10,11,12,13,14,16,17,18,19,20,21,22,23,24,25,26,28,29,31,32,33,34,35,36,37,38,39,40,41,42,43]
noncomputable def hK (P:Params):ai:=(nat_lit 3,⟨(.type "dict"),none,(.dict #[hE P "__name__" 165 (.str "law_knotwise_k45_curls_make" 433),hE P "__doc__" 166 .none,hE P "__package__" 167 .none,hE P "__loader__" 168 (.builtin "__main__.__loader__#opaque"),hE P "__spec__" 169 .none,hE P "__annotations__" 170 (.ref 6),hE P "__builtins__" 171 (.ref 4),hE P "__file__" 173 (.str "/claim/cut.py" 172),hE P "__cached__" 174 .none,hE P "KnotError" 206 (.ref 24),hE P "NoName" 222 (.ref 37),hE P "passings_of" 233 (.ref 46),hE P "names_of" 239 (.ref 51),hE P "hand_of" 248 (.ref 58),hE P "next_of" 259 (.ref 65),hE P "LOOP" 271 (.ref 66),hE P "without_noughts" 281 (.ref 73),hE P "added" 292 (.ref 80),hE P "times" 306 (.ref 87),hE P "shifted" 318 (.ref 94),hE P "raised" 328 (.ref 101),hE P "ALONG" 332 (.int 0 331),hE P "AGAINST" 334 (.int 1 333),hE P "joints" 342 (.ref 108),hE P "power_at" 350 (.ref 115),hE P "plan_of" 356 (.ref 120),hE P "whole_plan" 362 (.ref 125),hE P "far_ends" 372 (.ref 132),hE P "joined_plan" 386 (.ref 139),hE P "opened_at" 402 (.ref 146),hE P "opened" 408 (.ref 151),hE P "bracket" 415 (.ref 158),hE P "writhe" 423 (.ref 163),hE P "levelled" 432 (.ref 170),hE P "_law_cell_at" 442 (.ref 177),hE P "_law_whole" 449 (.ref 184),hE P "_law_pick" 458 (.ref 191),hE P "_law_poly" 466 (.ref 198),hE P "_law_pared" 475 (.ref 205),hE P "_law_moved" 486 (.ref 212),hE P "_law_copy" 492 (.ref 217),hE P "_law_free" 500 (.ref 224),hE P "_law_put" 511 (.ref 231),hE P "_law_drawing" 517 (.ref 236),hE P "_law_names" 527 (.ref 243),hE P "_law_evened" 538 (.ref 250),hE P "law" 557 (.ref 257)] 47),#[]⟩) ::
(nat_lit 45,hD "passings_of" 225 7 1 40 (hR 42) (hR 43) (hR 44) 232) ::
(nat_lit 46,hF 4 "passings_of" (.str "knotwise.drawings" 223) (.ref 45)) ::
(nat_lit 50,hD "names_of" 234 12 1 47 hN hN (hR 49) 238) ::
(nat_lit 51,hF 5 "names_of" (.str "knotwise.drawings" 223) (.ref 50)) ::
(nat_lit 57,hD "hand_of" 240 14 2 52 (hR 54) (hR 55) (hR 56) 247) ::
(nat_lit 58,hF 6 "hand_of" (.str "knotwise.drawings" 223) (.ref 57)) ::
(nat_lit 64,hD "next_of" 249 19 1 59 (hR 61) (hR 62) (hR 63) 258) ::
(nat_lit 65,hF 7 "next_of" (.str "knotwise.drawings" 223) (.ref 64)) ::
(nat_lit 66,⟨(.type "dict"),none,(.dict #[⟨2,(.int 2 262),(.int (-1) 264)⟩,⟨(-2),(.int (-2) 266),(.int (-1) 268)⟩] 2),#[]⟩) ::
(nat_lit 72,hD "without_noughts" 272 27 1 67 (hR 69) (hR 70) (hR 71) 280) ::
(nat_lit 73,hF 10 "without_noughts" (.str "knotwise.polys" 260) (.ref 72)) ::
(nat_lit 79,hD "added" 282 33 2 74 (hR 76) (hR 77) (hR 78) 291) ::
(nat_lit 80,hF 11 "added" (.str "knotwise.polys" 260) (.ref 79)) ::
(nat_lit 86,hD "times" 293 38 2 81 (hR 83) (hR 84) (hR 85) 305) ::
(nat_lit 87,hF 12 "times" (.str "knotwise.polys" 260) (.ref 86)) ::
(nat_lit 93,hD "shifted" 307 45 3 88 (hR 90) (hR 91) (hR 92) 317) ::
(nat_lit 94,hF 13 "shifted" (.str "knotwise.polys" 260) (.ref 93)) ::
(nat_lit 100,hD "raised" 319 50 2 95 (hR 97) (hR 98) (hR 99) 327) ::
(nat_lit 101,hF 14 "raised" (.str "knotwise.polys" 260) (.ref 100)) ::
(nat_lit 107,hD "joints" 335 58 2 102 (hR 104) (hR 105) (hR 106) 341) ::
(nat_lit 108,hF 18 "joints" (.str "knotwise.brackets" 329) (.ref 107)) ::
(nat_lit 114,hD "power_at" 343 62 2 109 (hR 111) (hR 112) (hR 113) 349) ::
(nat_lit 115,hF 19 "power_at" (.str "knotwise.brackets" 329) (.ref 114)) ::
(nat_lit 119,hD "plan_of" 351 64 1 116 hN hN (hR 118) 355) ::
(nat_lit 120,hF 20 "plan_of" (.str "knotwise.brackets" 329) (.ref 119)) ::
(nat_lit 124,hD "whole_plan" 357 66 1 121 hN hN (hR 123) 361) ::
(nat_lit 125,hF 21 "whole_plan" (.str "knotwise.brackets" 329) (.ref 124)) ::
(nat_lit 131,hD "far_ends" 363 69 1 126 (hR 128) (hR 129) (hR 130) 371) ::
(nat_lit 132,hF 22 "far_ends" (.str "knotwise.brackets" 329) (.ref 131)) ::
(nat_lit 138,hD "joined_plan" 373 75 2 133 (hR 135) (hR 136) (hR 137) 385) ::
(nat_lit 139,hF 23 "joined_plan" (.str "knotwise.brackets" 329) (.ref 138)) ::
(nat_lit 145,hD "opened_at" 387 87 3 140 (hR 142) (hR 143) (hR 144) 401) ::
(nat_lit 146,hF 24 "opened_at" (.str "knotwise.brackets" 329) (.ref 145)) ::
(nat_lit 150,hD "opened" 403 99 2 147 hN hN (hR 149) 407) ::
(nat_lit 151,hF 25 "opened" (.str "knotwise.brackets" 329) (.ref 150)) ::
(nat_lit 157,hD "bracket" 409 106 1 152 (hR 154) (hR 155) (hR 156) 414) ::
(nat_lit 158,hF 26 "bracket" (.str "knotwise.brackets" 329) (.ref 157)) ::
(nat_lit 162,hD "writhe" 418 109 1 159 hN hN (hR 161) 422) ::
(nat_lit 163,hF 28 "writhe" (.str "knotwise.marks" 416) (.ref 162)) ::
(nat_lit 169,hD "levelled" 424 111 1 164 (hR 166) (hR 167) (hR 168) 431) ::
(nat_lit 170,hF 29 "levelled" (.str "knotwise.marks" 416) (.ref 169)) ::
(nat_lit 176,hD "_law_cell_at" 435 116 2 171 (hR 173) (hR 174) (hR 175) 441) ::
(nat_lit 177,hF 31 "_law_cell_at" (.str "law_knotwise_k45_curls_make" 433) (.ref 176)) ::
(nat_lit 183,hD "_law_whole" 443 120 1 178 (hR 180) (hR 181) (hR 182) 448) ::
(nat_lit 184,hF 32 "_law_whole" (.str "law_knotwise_k45_curls_make" 433) (.ref 183)) ::
(nat_lit 190,hD "_law_pick" 450 122 3 185 (hR 187) (hR 188) (hR 189) 457) ::
(nat_lit 191,hF 33 "_law_pick" (.str "law_knotwise_k45_curls_make" 433) (.ref 190)) ::
(nat_lit 197,hD "_law_poly" 459 124 1 192 (hR 194) (hR 195) (hR 196) 465) ::
(nat_lit 198,hF 34 "_law_poly" (.str "law_knotwise_k45_curls_make" 433) (.ref 197)) ::
(nat_lit 204,hD "_law_pared" 467 131 1 199 (hR 201) (hR 202) (hR 203) 474) ::
(nat_lit 205,hF 35 "_law_pared" (.str "law_knotwise_k45_curls_make" 433) (.ref 204)) ::
(nat_lit 211,hD "_law_moved" 476 137 3 206 (hR 208) (hR 209) (hR 210) 485) ::
(nat_lit 212,hF 36 "_law_moved" (.str "law_knotwise_k45_curls_make" 433) (.ref 211)) ::
(nat_lit 216,hD "_law_copy" 487 142 1 213 hN hN (hR 215) 491) ::
(nat_lit 217,hF 37 "_law_copy" (.str "law_knotwise_k45_curls_make" 433) (.ref 216)) ::
(nat_lit 223,hD "_law_free" 493 144 2 218 (hR 220) (hR 221) (hR 222) 499) ::
(nat_lit 224,hF 38 "_law_free" (.str "law_knotwise_k45_curls_make" 433) (.ref 223)) ::
(nat_lit 230,hD "_law_put" 501 148 4 225 (hR 227) (hR 228) (hR 229) 510) ::
(nat_lit 231,hF 39 "_law_put" (.str "law_knotwise_k45_curls_make" 433) (.ref 230)) ::
(nat_lit 235,hD "_law_drawing" 512 153 3 232 hN hN (hR 234) 516) ::
(nat_lit 236,hF 40 "_law_drawing" (.str "law_knotwise_k45_curls_make" 433) (.ref 235)) ::
(nat_lit 242,hD "_law_names" 518 165 1 237 (hR 239) (hR 240) (hR 241) 526) ::
(nat_lit 243,hF 41 "_law_names" (.str "law_knotwise_k45_curls_make" 433) (.ref 242)) ::
(nat_lit 249,hD "_law_evened" 528 172 2 244 (hR 246) (hR 247) (hR 248) 537) ::
(nat_lit 250,hF 42 "_law_evened" (.str "law_knotwise_k45_curls_make" 433) (.ref 249)) ::
(nat_lit 256,hD "law" 539 179 1 251 (hR 253) (hR 254) (hR 255) 556) ::
(nat_lit 257,hF 43 "law" (.str "law_knotwise_k45_curls_make" 433) (.ref 256)) :: []
noncomputable def hA:List Addr:=[3,45,46,50,51,57,58,64,65,66,72,73,79,80,86,87,93,94,100,101,107,108,114,115,119,120,124,125,131,132,138,139,145,146,150,151,157,158,162,163,169,170,176,177,183,184,190,191,197,198,204,205,211,212,216,217,223,224,230,231,235,236,242,243,249,250,256,257]
noncomputable def hL:List Str:=["LOOP"]
noncomputable abbrev NL(w:World):Prop:=∀ os:OsState,(topFrom treeTable (PySem.Challenge.rw_knotwise_k45_curls_make).row.prog w 3216 ⟨Lz w.params,Jv [],E7,Ly,os⟩).map (fun s=>(openSeen hQ hL (wF (PySem.Challenge.rw_knotwise_k45_curls_make).row.prog.main.body) (R5 PySem.Challenge.rw_knotwise_k45_curls_make hQ) true s,hA.map s.heap.get?))=some (openGood hQ hL,(hK w.params).map fun p=>some p.2)
theorem h_f (w:World):NL (w.withFollow "special-get-raises" false):=fun os=>by kernel_rfl
theorem h_t (w:World):NL (w.withFollow "special-get-raises" true):=fun os=>by kernel_rfl
theorem Tu (w:World) (os:OsState):(topFrom treeTable (PySem.Challenge.rw_knotwise_k45_curls_make).row.prog w 3216 ⟨Lz w.params,Jv [],E7,Ly,os⟩).map (fun s=>(openSeen hQ hL (wF (PySem.Challenge.rw_knotwise_k45_curls_make).row.prog.main.body) (R5 PySem.Challenge.rw_knotwise_k45_curls_make hQ) true s,hA.map s.heap.get?))=some (openGood hQ hL,(hK w.params).map fun p=>some p.2):=(byRow2 "special-get-raises" (P:=fun w=>NL w) h_f h_t) w os
theorem Tt:(PySem.Challenge.rw_knotwise_k45_curls_make).wellSaid=true:=by kernel_rfl
theorem Ts:HD PySem.Challenge.rw_knotwise_k45_curls_make hQ=true:=by kernel_rfl
end
end Fin
end Internal
open Internal
open PySem PySem.W PyProof.Rows
set_option maxRecDepth 100000 in
set_option maxHeartbeats 0 in
theorem PySem.Challenge.cw_knotwise_k45_curls_make_holds : PySem.Challenge.rw_knotwise_k45_curls_make.Holds := by
 w_on
 refine K2.Kr (q:=Fin.hQ) (K:=Fin.hK) (as:=Fin.hA) (N:=3216) Fin.Tt (by kernel_rfl) (by kernel_rfl) (fun _=>by kernel_rfl) (fun _=>by kernel_rfl) Fin.Tu (by rfl) (by rfl) (by rfl) (by rfl) Fin.Ts ⟨rfl,rfl,rfl,rfl,rfl,by decide +kernel⟩ ?hw ?hc
 (case hw=>w_witness2)
 k_fill
 refine K2.M0 (l:=PySem.Challenge.rw_knotwise_k45_curls_make) (k:=8) (x:="_law_script") rfl rfl ⟨rfl,by decide,by decide⟩ (fun w h Y=>Y) ?F
 case F =>
  intro w mg fa h KX G VD;exact Fin.all_mk KX G VD K2.e7 K2.e7 K2.e7 K2.e7 K2.e7 K2.e7 K2.e7 K2.e7 K2.e7 K2.e7 K2.e7 K2.e7 K2.e7 K2.e7 K2.e7 K2.e7 K2.e7 K2.e7 K2.e7 K2.e7 K2.e7 K2.e7 K2.e7 K2.e7 K2.e7 K2.e7 K2.e7 K2.e7 K2.e7 K2.e7 K2.e7 K2.e7 K2.e7
