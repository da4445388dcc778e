import PyProof.Rows.All
import Wide.All
import OpenK.AllK
import Wide.FinOn
import Lean
import PyProof.EqAt
import PyProof.EqKinds
import PyProof.TupleCall
import PySem.Challenge.RW_knotwise_k54_whole_trying_and_eliminatio
open Array renaming getElem?_eq_getElem -> bb, getD_eq_getD_getElem? -> bq, length_toList -> bz, getElem?_toList -> cL, getElem?_eq_none -> iq, getD -> sE, forIn_toList -> Ay, toList_filterMap -> PN, toList_filter -> Uj
open Array.Perm renaming refl -> oQ
open Bool renaming false_eq_true -> aC, and_eq_true -> aQ, noConfusion -> bB, not_true -> bG, not_false -> cW, false_ne_true -> eV, and_eq_true_iff -> kY, or_eq_true -> qF, false_and -> sk, not_eq_true' -> t4, eq_iff_iff -> xW, and_false -> zE, false_or -> PM, beq_eq_decide_eq -> Tw
open Classical renaming byContradiction -> bZ, choose -> Tu
open False renaming elim -> bY
open ForInStep renaming yield -> uz
open Function renaming comp_def -> Tt
open Int renaming toNat_natCast -> aZ, emod_lt_of_pos -> c7, emod_nonneg -> dP, mul_emod -> fP, add_emod -> jm, natCast_nonneg -> j4, sub_emod -> oW, toNat_of_nonneg -> qI, mul_one -> ve, zero_mul -> yb, natCast_pow -> yc, mul_comm -> yd, emod_emod_of_dvd -> zC, toNat -> Ca, mul_right_comm -> Cb, emod_emod -> Cc, add_zero -> Gm, le_refl -> JW, sub_zero -> Ud, dvd_refl -> Ue
open List renaming getElem?_cons_zero -> aa, getElem?_cons_succ -> ae, length_map -> ag, getElem?_eq_getElem -> ah, set_cons_zero -> ai, length_cons -> aj, set_cons_succ -> ar, map_cons -> av, length_append -> aw, mem_cons_of_mem -> ax, length_nil -> ay, mem_cons_self -> aA, getD_eq_getElem?_getD -> aF, map_append -> aH, replicate -> aI, cons_append -> aO, nil_append -> aU, mem_map_of_mem -> aW, map_nil -> aX, range -> aY, size_toArray -> a8, length_singleton -> bg, getElem?_map -> bu, mem_append_right -> bA, length_replicate -> bE, append_nil -> bL, length_set -> bO, flatten_cons -> bS, map_map -> bU, nodup_append -> cb, getElem_mem -> cu, getElem?_append_right -> cE, append_assoc -> cG, nodup_cons -> cN, length_range -> cR, filter_append -> cS, not_mem_nil -> cZ, length_drop -> c6, getElem_of_mem -> c8, nodup_nil -> df, getElem?_set_ne -> dg, getElem_map -> dq, length -> dF, getElem?_append_left -> dG, getElem?_set_self -> dI, mem_of_getElem? -> dJ, foldl_cons -> dO, length_filter_le -> dU, getElem?_eq_none -> dW, length_take -> eA, all_eq_true -> eB, mem_append_left -> eK, filter_cons_of_pos -> fW, drop_eq_getElem_cons -> gC, take_append_drop -> gJ, getElem?_replicate -> gZ, filter_cons_of_neg -> g4, pairwise_map -> hV, flatMap_cons -> hX, zipIdx_map_fst -> ik, find?_cons -> ip, take_of_length_le -> iu, filter_nil -> i5, mem_cons -> jj, length_reverse -> jk, flatten_append -> jl, filter_cons -> jK, drop_eq_nil_of_le -> jV, foldl_append -> kK, any_cons -> kL, nodup_iff_pairwise_ne -> kT, getElem?_take_of_lt -> lP, mem_singleton -> mP, getElem_range -> mQ, map_uncurry_zip_eq_zipWith -> nW, zipIdx_cons -> o6, replicate_succ' -> pP, sum_cons -> pZ, all_cons -> p7, range_succ -> qA, length_zip -> qB, getD_cons_zero -> qE, contains_cons -> rZ, all_map -> r8, take_append_getElem -> tX, filterMap_cons_some -> tY, countP_congr -> tZ, pairwise_singleton -> uP, isEmpty_nil -> vd, find?_cons_of_pos -> vZ, zipWith -> xR, mem_filter -> xS, map_set -> xT, getElem?_reverse -> xU, mem_range -> zB, reverse_append -> zO, map_congr_left -> zP, getD_cons_succ -> zQ, filterMap_cons -> zR, take_nil -> BZ, getElem?_drop -> B0, drop_nil -> B1, append_of_mem -> B2, find?_append -> CS, set_nil -> D5, lookup_cons -> Gi, of_mem_zip -> Jx, mem_append -> Jy, idxOf_lt_length_of_mem -> Jz, perm_ext_iff_of_nodup -> JV, take_zero -> Mh, pairwise_iff_getElem -> Mi, foldl_nil -> Mj, eq_of_mem_replicate -> NY, pairwise_mergeSort -> PK, map_take -> PL, pairwise_lt_range -> Qc, getElem_cons_succ -> Qd, find?_cons_of_neg -> Qe, filter_eq_nil_iff -> Qf, getElem?_toArray -> Tq, concat_eq_append -> Ts, mem_of_getLast? -> Uc
open List.Pairwise renaming imp_of_mem -> B3, filter -> Gk
open List.Perm renaming eq_of_pairwise -> Gj
open Nat renaming le_refl -> aK, ne_of_lt -> bQ, lt_of_lt_of_le -> bX, le_trans -> cw, not_lt_zero -> cF, zero_le -> cP, lt_irrefl -> gE, le_add_right -> gS, zero_add -> iE, add_sub_cancel_left -> ju, mod_lt -> kS, succ_pos -> me, lt_of_le_of_lt -> sg, add_sub_cancel -> si, succ_le_succ -> vX, mod_eq_of_lt -> vY, lt_of_succ_lt_succ -> wa, le_of_succ_le_succ -> wb, le_of_lt -> x9, add_sub_cancel' -> Ax, lt_succ_of_le -> D4, succ_add -> Gg, sub_self -> Gh, lt_succ_self -> GG, min_eq_left -> JU, sub_le -> PJ, sub_zero -> T8, pow_succ -> T9, mul_comm -> Ua, lt_trans -> Ub
open Ne renaming symm -> fB
open Option renaming isSome_map -> nA, bind_some -> CQ, map_some -> Gf
open Option.some renaming inj -> bN
open PyProof.Rows renaming callWith_type1 -> dE, callWith_builtin1 -> iD, IntsAre -> qH, seqObj -> uN, slot_tuple_getitem -> xQ, boot_isinstance -> zA, envOfC -> Au, AllBare -> AA, oneType' -> PH
open PyProof.Rows.F renaming plain_set_update_loop -> wc, entry_set_update_loop -> Ui
open PySem renaming wpAny_bind -> af, wpAny_pure -> aq, Shared -> az, FuncData -> aG, sizeLine -> bx, starEach -> bJ, mainGlobals -> bP, Program -> bT, sizeLine_eq -> cC, wpAny_loadPart' -> cH, wpAny_newObj_type -> c9, wpAny_call_entry -> da, wpAny_Call_Name_kw -> dZ, Around -> eu, wpAny_holding -> eD, tupleKind -> eM, compareOp -> eO, wpAny_dictEntries -> fu, sysModules -> fv, bootBuiltins -> fH, wpAny_passesOwn -> fI, wpAny_callSpecial?_slot -> gq, ReadsAll -> iB, backTo -> iT, SetTable -> iU, DictEntry -> iV, mem_of_lookup -> je, wpAny_pyIter_slot -> jo, wpAny_mono -> jq, wpAny_execs_nil -> jr, wpAny_dictEpoch -> jt, wpAny_typeNameOfWhole_valiter -> j7, wpAny_typeNameOfWhole_keyiter -> j8, wpAny_forIn_list -> j9, wpAny_fieldsOf -> kq, codeAny_builtin -> k6, wpAny_attempt -> lJ, foldedSetIterable -> lK, binaryOp -> lL, wpAny_setField -> my, wpAny_typeNameOf_valiter -> nv, wpAny_typeNameOf_keyiter -> ny, wpAny_truthy_bool -> pN, wpAny_setState_of -> pO, firstArgMember -> pX, wpAny_isOneOf_valiter -> p8, codeAny_mono -> p9, wpAny_isInstance -> qG, rawInt -> rM, sliceBounds -> su, pyNext -> sv, tupleKind_room_in1 -> uM, NameKind -> uO, ofAClassStatement -> v5, spliced -> xX, codeAny -> xY, behindInMarks -> xZ, attributeBase -> x8, wpAny_execs_cons -> yU, richCompare_meets_room -> zx, wpAny_specialOf -> An, wpAny_notOrdered_dict -> Ap, swapsWith -> Aq, letOwnedTupleGo -> Ar, entryOfKey -> BW, call_meets -> BX, assignEach -> BY, codeAny_call_builtin -> B8, pyIter -> CM, entryFor_alias -> CN, carriedByValue -> CO, wpAny_setEntries_of -> DY, wpAny_of_eq -> DZ, plainId_quiet -> GB, dictSetHashed -> GC, wpAny_truthy_dict -> JI, wpAny_pyIter_list -> JJ, wpAny_call -> JK, wpAny_assign_Name -> JL, searchCouldBeSeen -> JM, relabel -> JN, holding -> JO, callerA -> JP, wpAny_typeOf -> Mb, wpAny_callSpecialIfBound?_slot -> Mc, call -> Md, wpAny_askSetting -> NV, setField -> PG, wpAny_field -> P0, valueAt -> P1, unsupported -> P2, size_of_entries -> P4, importedModules -> P6, hashByValue -> P7, excClassObj -> P8, assign -> P9, Paired -> Qb, Keyword -> Qg, BindsTo -> Qh, isSubtype_type -> T1, isSubtype_stop -> T4, evalArgs_none -> T5, Walks -> T6
open PySem.Around renaming under_plainId -> kM
open PySem.AutoSeq1 renaming sub_tuple_tuple -> rN, sub_list_list -> JZ
open PySem.Builtin.Dict renaming showsAll -> jn, entriesForEmpty -> zD, updateFrom -> CT, mergeDict -> D6, quietEq -> GJ, noArgs -> JD
open PySem.Builtin.Dict_items renaming ownsTuple -> gu
open PySem.Builtin.List renaming listTooLong -> kC, listLengthHint -> zT
open PySem.Builtin.Range renaming rangeSize -> Cd
open PySem.Builtin.Slice renaming slicePlaces -> jY, sliceAdjust -> oX, sliceApplied -> zS
open PySem.Builtin.Tuple renaming tupleExact -> ku, tupleCompareSizes -> wd
open PySem.Calls renaming spliced_cons -> fV, spliced_nil -> nH, callWith_builtin -> vg, Name_function_global -> JC, evalArgs_plain -> Tv
open PySem.F renaming plainAttrs_list -> cI, slot_list_index -> fU, type_list_index -> gR, slot_dict_valueiterator_next -> jL, slot_dict_keyiterator_next -> kr, slot_tuple_lt -> nG, type_list_append -> rX, slot_list_append -> rY, plainAttrs_dict -> sC, args_tuple_lt_2 -> sD, entry_tuple_lt -> uw, slot_list_lt -> v8, attrBase_ValueError -> D3, excBase_ValueError -> Ge, args_dict_valueiterator_next_1 -> Gq, entry_dict_valueiterator_next -> GH, type_list_extend -> Js, slot_list_extend -> Jt, slot_dict_values -> Ju, slot_dict_update -> Jv, args_tuple_add_2 -> Jw, slot_dict_valueiterator_iter -> JA, args_dict_keyiterator_next_1 -> JB, slot_dict_items -> JS, entry_tuple_add -> JT, slot_dict_itemiterator_iter -> JX, entry_dict_keyiterator_next -> JY, slot_tuple_add -> Mf, args_list_lt_2 -> Mg, slot_dict_keyiterator_iter -> Ml, slot_set_iter -> NW, entry_list_lt -> NX, slot_dict_values_iter -> Uh
open PySem.Heap renaming get?_push_of_some -> aN, lt_size -> aR, get?_push_size -> br, get?_update_self -> fN, SameBut -> g8, get?_update_other -> v3, FlyingW -> xP, size_update -> Gn, get?_none_of_le -> Ug
open PySem.Heap.SameBut renaming update -> cO, refl -> xV
open PySem.IsTupleKey renaming typeIs -> yV
open PySem.NameKind renaming free -> lN
open PySem.Obj renaming data_mapFields -> fA, mapSeq -> jU, mapFields -> mV, isFreed_of_fields -> oV, data_mapDictKeys -> pY, putSet -> ux, cls_mapFields -> uy
open PySem.Paired renaming length -> gX
open PySem.PassesOwn renaming never -> bK
open PySem.PyData renaming depthAll -> cK, eqv -> v9
open PySem.SeqAt renaming items_eqAt -> oU, any_by_data -> sA, readOf -> CP
open PySem.SetTable renaming below -> Gd, fill -> Jr
open PySem.Str renaming ofString -> oT
open PySem.Value renaming ref -> eQ, none -> eX, bool -> B9, isInt -> GD
open PySem.W renaming Frag -> ak, nsIn -> cJ, kitOne -> dN, mg_none_of -> eI, findIn -> e7, excIn -> fT, mg_of -> gQ, kia_one -> g7, kas_rev -> iw, keepIn -> ji, kas_place -> kZ, fnOf -> lH, mroIn -> lO, kas_desc -> mO, specialIn -> mU, kas_asc -> sx, takesIn -> vc, KdlSrc -> xO, callWith_K -> zy, kas_descPart -> As, methodObj -> Av, OpenLaw -> D1, codeIn -> GF, clsIn -> JR, cellsFrom_some -> Me, kas_tail3 -> P5, hideAll_get -> Qa, of_hideAll -> Tp, kitx_none -> T7
open PySem.W.KasT renaming ret -> ya
open Sum renaming inl -> D0, inr -> JQ
open True renaming intro -> i4
set_option Elab.async false
set_option linter.all false
set_option maxRecDepth 100000
set_option maxHeartbeats 4000000
set_option genSizeOf false
set_option genInjectivity false
set_option compiler.extract_closed false
namespace Internal
theorem Ae(h:0=0:=by first | rfl | decide):0=0:=h
theorem Af(h:0=0:=by first | k_is | rfl):0=0:=h
theorem Al(h:0=0:=by intro _ _ _ _ h; repeat (first | (cases h.1; rfl) | (cases h <;> rename_i h))):0=0:=h
theorem Ao(h:0=0:=by first | exact .inl rfl | exact .inr rfl | exact .inr (.inl rfl) | exact .inr (.inr rfl) | assumption):0=0:=h
theorem Aw(h:0=0:=by with_unfolding_all rfl):0=0:=h
theorem Az(h:0=0:=by first | k_is | kit_is):0=0:=h
namespace L2
open PySem PySem.Spec PyProof.Rows
abbrev Key:=Sum Int Str
def Du:Key->Value->Bool
 | .inl k,v=>GD k v
 | .inr x,v=>Value.isStrOf x v
def adg(w:World):Key->Int
 | .inl k=>hashInt k
 | .inr x=>hashStr w x
theorem fD:∀ {k:Key} {v:Value},Du k v=true->(∃ i t,k=D0 i/\v=Value.int i t)\/(∃ x t,k=JQ x/\v=Value.str x t)
 | .inl i,v,h=>by
  obtain⟨t,e⟩:=Value.isInt_shape (k:=i) (v:=v) h;exact .inl ⟨i,t,rfl,e⟩
 | .inr x,v,h=>by
  obtain⟨t,e⟩:=Value.isStrOf_shape (x:=x) (v:=v) h;exact .inr ⟨x,t,rfl,e⟩
theorem OT(i:Int)(t:Tok):Du (.inl i) (.int i t)=true:=by simp [Du,GD]
theorem OS(x:Str)(t:Tok):Du (.inr x) (.str x t)=true:=by simp [Du,Value.isStrOf]
theorem RF(a b:Int):decide ((D0 a:Key)=D0 b)=(a == b):=by
 by_cases e:a=b
 ·subst e; simp
 ·have h:¬ (D0 a:Key)=D0 b:=fun q=>e (Sum.inl.inj q);rw [decide_eq_false h];exact(beq_eq_false_iff_ne.mpr e).symm
theorem RE(a b:Str):decide ((JQ a:Key)=JQ b)=decide (a=b):=by
 by_cases e:a=b
 ·subst e; simp
 ·have h:¬ (JQ a:Key)=JQ b:=fun q=>e (Sum.inr.inj q);rw [decide_eq_false h,decide_eq_false e]
theorem XD(a:Int)(b:Str):decide ((D0 a:Key)=JQ b)=false:=decide_eq_false (fun q=>nomatch q)
theorem XC(a:Str)(b:Int):decide ((JQ a:Key)=D0 b)=false:=decide_eq_false (fun q=>nomatch q)
def cA(prog:bT)(w:World):PySem.KeyKind prog w Key where
 is:=Du
 hash:=adg w
 inj:=fun v a b ha hb=>by
  rcases fD ha with ⟨i,t,rfl,rfl⟩ | ⟨x,t,rfl,rfl⟩
  ·rcases fD hb with ⟨j,u,rfl,e⟩ | ⟨y,u,rfl,e⟩
   ·injection e with e1 _; rw [e1]
   ·exact nomatch e
  ·rcases fD hb with ⟨j,u,rfl,e⟩ | ⟨y,u,rfl,e⟩
   ·exact nomatch e
   ·injection e with e1 _; rw [e1]
 byValue:=fun k v h=>by
  rcases fD h with ⟨i,t,rfl,rfl⟩ | ⟨x,t,rfl,rfl⟩ <;> rfl
 pyHash:=fun hv h=>by
  rcases fD hv with ⟨i,t,rfl,rfl⟩ | ⟨x,t,rfl,rfl⟩
  ·exact wpAny_pyHash_int h
  ·exact wpAny_pyHash_str h
 eqBool:=fun hu hv h=>by
  rcases fD hu with ⟨i,t,rfl,rfl⟩ | ⟨x,t,rfl,rfl⟩
  ·rcases fD hv with ⟨j,u,rfl,rfl⟩ | ⟨y,u,rfl,rfl⟩
   ·rw [RF] at h; exact wpAny_eqBool_int h
   ·rw [XD] at h; exact SeqAt.EqAt.int_str i t y u _ _ _ _ h
  ·rcases fD hv with ⟨j,u,rfl,rfl⟩ | ⟨y,u,rfl,rfl⟩
   ·rw [XC] at h; exact SeqAt.EqAt.str_int x t j u _ _ _ _ h
   ·rw [RE] at h; exact wpAny_eqBool_str h
 «strs»:=fun k x t v h=>by
  rcases fD h with ⟨i,u,rfl,e⟩ | ⟨y,u,rfl,e⟩
  ·exact nomatch e
  ·injection e with e1 _
   subst e1;cases v <;> rfl
theorem HC(prog:bT)(w:World)(i:Int)(t:Tok):(cA prog w).is (.inl i) (.int i t)=true:=OT i t
theorem HB(prog:bT)(w:World)(x:Str)(t:Tok):(cA prog w).is (.inr x) (.str x t)=true:=OS x t
inductive V where
 | dh | bl (b:Bool) | int (i:Int) | str (x:Str) | Yl (b:Array UInt8) | flt (b:UInt64) | ref (a:Addr) | ty (n:String)
def RelV:V->Value->Prop
 | .dh,u=>u=eX
 | .bl b,u=>u=B9 b
 | .int i,u=>∃ t,u=Value.int i t
 | .str x,u=>∃ t,u=Value.str x t
 | .Yl b,u=>∃ t,u=Value.bytes b t
 | .flt b,u=>∃ t,u=Value.float b t
 | .ref a,u=>u=eQ a
 | .ty n,u=>u=Value.type n
abbrev Vals:List V->List Value->Prop:=Qb RelV
theorem Vals.length{xs:List V}{us:List Value}(r:Vals xs us):xs.length=us.length:=gX r
theorem Vals.get:∀ {xs:List V} {us:List Value} {i:Nat} {x:V},Vals xs us->xs[i]?=some x->∃ u,us[i]?=some u/\RelV x u:=by
 intro xs us i x h;induction h generalizing i with
 | nil=>intro e; cases e
 | cons r t ih =>
  intro e;cases i with
  | zero=>cases e; exact⟨_,rfl,r⟩
  | succ i=>exact ih e
theorem Vals.set{x:V}{u:Value}(r:RelV x u):∀ {xs:List V} {us:List Value} (i:Nat),Vals xs us->Vals (xs.set i x) (us.set i u):=by
 intro xs us i h;induction h generalizing i with
 | nil=>rw [D5,D5]; exact .nil
 | cons q t ih =>
  cases i with
  | zero=>exact .cons r t
  | succ i=>exact .cons q (ih i)
theorem Vals.append:∀ {xs ys:List V} {us ws:List Value},Vals xs us->Vals ys ws->Vals (xs++ys) (us++ws):=by
 intro xs ys us ws h s;induction h with
 | nil=>exact s
 | cons r t ih=>exact .cons r ih
theorem Vals.take:∀ {xs:List V} {us:List Value} (n:Nat),Vals xs us->Vals (xs.take n) (us.take n):=by
 intro xs us n h;induction h generalizing n with
 | nil=>rw [BZ,BZ]; exact .nil
 | cons r t ih =>
  cases n with
  | zero=>exact .nil
  | succ n=>exact .cons r (ih n)
theorem Vals.drop:∀ {xs:List V} {us:List Value} (n:Nat),Vals xs us->Vals (xs.drop n) (us.drop n):=by
 intro xs us n h;induction h generalizing n with
 | nil=>rw [B1,B1]; exact .nil
 | cons r t ih =>
  cases n with
  | zero=>exact .cons r t
  | succ n=>exact ih n
def CG:Option V->Option Value->Prop
 | some v,some u=>RelV v u
 | none,none=>True
 | _,_=>False
def KV{κ:Type}:List (κ×V)->List (κ×Value)->Prop:=Qb fun (p:κ×V) (q:κ×Value)=>p.1=q.1/\RelV p.2 q.2
def kV:Key->V
 | .inl i=>.int i
 | .inr x=>.str x
inductive HO where
 | lst (xs:List V)
 | tup (xs:List V)
 | dK (WP:List (Key×V)) | dT (WP:List (List Key×V))
 | set (S:Int->Bool) (n:Nat)
 | ins (C dx:Addr) (fs:List (Str×V))
 | own (x:Addr)
 | xd (fs:List (Str×V))
 | met (f x:Addr)
 | Zm (lo hi:Int)
 | lB (o:Obj) (u:HO)
 | Us (ps:Array Value)
 | ext (φ:Heap->Prop)
abbrev Hp:=Addr->Option HO
def upd(H:Hp)(a:Addr)(o:HO):Hp:=fun b=>if b=a then some o else H b
theorem cV{H:Hp}{a:Addr}{o:HO}:upd H a o a=some o:=by unfold upd; rw [if_pos rfl]
theorem bR{H:Hp}{a b:Addr}{o:HO}(h:b≠a):upd H a o b=H b:=by unfold upd; rw [if_neg h]
theorem ZO{H:Hp}{a b:Addr}{o u:HO}(h:H a=some o)(h':H b=some u)(d:o≠u):a≠b:=by
 intro e; subst e; rw [h] at h'; exact d (bN h')
theorem fJ{H:Hp}{a b:Addr}{o:HO}(h:H a=some o)(h':H b=none):a≠b:=by
 intro e; subst e; rw [h] at h'; cases h'
section
variable (P:bT) (w:World)
def ij(H:Hp)(h:Heap)(a:Addr):HO->Prop
 | .lst xs=>xs.length<=bx/\∃ (bH:List Value) (n:Nat),Vals xs bH/\h.get? a=some { cls:=.type "list",data:=.seq bH.toArray n }
 | .tup xs=>xs.length<=bx/\∃ bH:List Value,Vals xs bH/\IsTup h a bH.toArray
 | .dK WP=>WP.length<=bx/\(a == fv)=false/\∃ vs,KV WP vs/\h.DictOf (cA P w) a vs
 | .dT WP=>WP.length<=bx/\(a == fv)=false/\∃ xs:List (List Key×Addr×Value),
   Qb (fun (p:List Key×V) (q:List Key×Addr×Value)=>p.1=q.1/\H q.2.1=some (.tup (p.1.map kV))/\RelV p.2 q.2.2) WP xs /\
   ∃ o es ep,h.get? a=some o/\o.ExactDict/\o.data=.dict es ep/\es.toList=xs.map (BW (eM (cA P w)))/\(xs.map (·.1)).Nodup
 | .set S n=>h.SetOf (intKind P w) a S n
 | .ins C dx fs=>H dx=some (.own a)/\fs.length<=1000/\dx≠a/\h.get? a=some (PySem.W.instObj C dx) /\
   ∃ mA,h.Ns1 dx mA/\(∀ f,CG (fs.lookup f) (mA f))/\PySem.Within mA (fs.map (·.1))
 | .own _=>∃ o,h.get? a=some o
 | .xd fs=>∃ mA,h.Ns1 a mA/\∀ f,CG (fs.lookup f) (mA f)
 | .Zm lo hi=>∃ t u v,h.get? a=some { cls:=.type "range",data:=.fields #[.int lo t,.int hi u,.int 1 v] }
 | .lB o u=>h.get? a=some o/\ij H h a u
 | .Us ps=>h.get? a=some { cls:=.none,data:=.fields ps }
 | .met f x=>h.get? a=some (Av (.ref f) (.ref x))
 | .ext φ=>φ h/\(∃ o,h.get? a=some o)/\∀ h1 h2:Heap,φ h1->(∀ o,h1.get? a=some o->h2.get? a=some o)->φ h2
def sf(H:Hp)(h:Heap):Prop:=∀ a o,H a=some o->ij P w H h a o
end
section
variable {P:bT} {w:World} {H H':Hp} {h h':Heap} {a:Addr} {o:HO}
theorem ij.lt(x:ij P w H h a o):a < h.objs.size:=by
 cases o with
 | lst xs=>obtain⟨_,_,_,_,e⟩:=x; exact aR e
 | tup xs=>obtain⟨_,_,_,p⟩:=x; exact p.lt
 | dK WP=>obtain⟨_,_,_,_,o,_,_,e,_⟩:=x; exact aR e
 | dT WP=>obtain⟨_,_,_,_,o,_,_,e,_⟩:=x; exact aR e
 | set S n=>obtain⟨o,_,_,_,e,_⟩:=x; exact aR e
 | ins C dx fs=>obtain⟨_,_,_,e,_⟩:=x; exact aR e
 | own y=>obtain⟨_,e⟩:=x; exact aR e
 | xd fs=>obtain⟨_,⟨_,_,_,e,_⟩,_⟩:=x; exact aR e
 | Zm lo hi=>obtain⟨_,_,_,e⟩:=x; exact aR e
 | lB ob u=>obtain⟨e,_⟩:=x; exact aR e
 | Us ps=>exact aR (show h.get? a=some _ from x)
 | met f y=>exact aR (show h.get? a=some _ from x)
 | ext φ=>obtain⟨_,⟨_,e⟩,_⟩:=x; exact aR e
theorem Paired.Xq{α β:Type}{F G:α->β->Prop}:∀ {l₁:List α} {Xr:List β},Qb F l₁ Xr->(∀ a b,F a b->G a b)->Qb G l₁ Xr:=by
 intro l₁ Xr h f;induction h with
 | nil=>exact .nil
 | cons r t ih=>exact .cons (f _ _ r) ih
theorem ij.kb(x:ij P w H h a o)(k:∀ b u,(b=a\/H b=some (.own a))->h.get? b=some u->h'.get? b=some u)
  (ho:∀ b,H b=some (.own a)->H' b=some (.own a)) (ht:∀ b xs,H b=some (.tup xs)->H' b=some (.tup xs)):ij P w H' h' a o:=by
 induction o with
 | lst xs=>obtain⟨z,bH,n,r,e⟩:=x; exact⟨z,bH,n,r,k _ _ (.inl rfl) e⟩
 | tup xs=>obtain⟨z,bH,r,ob,e,c⟩:=x; exact⟨z,bH,r,ob,k _ _ (.inl rfl) e,c⟩
 | dK WP=>obtain⟨z,y,vs,r,ob,es,ep,e,c⟩:=x; exact⟨z,y,vs,r,ob,es,ep,k _ _ (.inl rfl) e,c⟩
 | dT WP =>
  obtain⟨z,y,xs,r,ob,es,ep,e,c⟩:=x;exact⟨z,y,xs,Paired.Xq r fun p q z=>⟨z.1,ht _ _ z.2.1,z.2.2⟩,ob,es,ep,k _ _ (.inl rfl) e,c⟩
 | set S n=>obtain⟨ob,es,ep,t,e,c⟩:=x; exact⟨ob,es,ep,t,k _ _ (.inl rfl) e,c⟩
 | ins C dx fs =>
  obtain⟨d,z,ne,e,mA,⟨od,es,ep,e2,c⟩,r⟩:=x;exact⟨ho _ d,z,ne,k _ _ (.inl rfl) e,mA,⟨od,es,ep,k _ _ (.inr d) e2,c⟩,r⟩
 | own y=>obtain⟨ob,e⟩:=x; exact⟨ob,k _ _ (.inl rfl) e⟩
 | xd fs=>obtain⟨mA,⟨od,es,ep,e,c⟩,r⟩:=x; exact⟨mA,⟨od,es,ep,k _ _ (.inl rfl) e,c⟩,r⟩
 | Zm lo hi=>obtain⟨t,u,v,e⟩:=x; exact⟨t,u,v,k _ _ (.inl rfl) e⟩
 | lB ob u ih=>obtain⟨e,q⟩:=x; exact⟨k _ _ (.inl rfl) e,ih q⟩
 | Us ps =>
  have e:h.get? a=some { cls:=.none,data:=.fields ps }:=x;show h'.get? a=some { cls:=.none,data:=.fields ps };exact k a _ (.inl rfl) e
 | met f y =>
  have e:h.get? a=some (Av (.ref f) (.ref y)):=x;show h'.get? a=some (Av (.ref f) (.ref y));exact k a _ (.inl rfl) e
 | ext φ=>obtain⟨p,⟨o,e⟩,st⟩:=x; exact⟨st _ _ p fun o q=>k _ _ (.inl rfl) q,⟨o,k _ _ (.inl rfl) e⟩,st⟩
theorem sf.lt(x:sf P w H h)(e:H a=some o):a < h.objs.size:=(x a o e).lt
theorem sf.fresh(x:sf P w H h)(e:h.objs.size<=a):H a=none:=by
 cases q:H a with
 | none=>rfl
 | some u=>exact absurd (bX (x.lt q) e) (gE _)
theorem sf.kept(x:sf P w H h)(k:∀ b u,h.get? b=some u->h'.get? b=some u):sf P w H h':=fun a o e =>
 (x a o e).kb (fun b u _ q=>k b u q) (fun _ q=>q) fun _ _ q=>q
theorem sf.laid(x:sf P w H h)(k:∀ b u,h.get? b=some u->h'.get? b=some u)(hp:h.objs.size<=a)(new:ij P w (upd H a o) h' a o):sf P w (upd H a o) h':=fun b u e=>by
 have hn:=x.fresh hp;by_cases hb:b=a
 ·subst hb; rw [cV] at e; cases e; exact new
 ·rw [bR hb] at e;exact(x b u e).kb (fun c v _ q=>k c v q) (fun c q=>by rw [bR (fJ q hn)]; exact q) fun c xs q=>by rw [bR (fJ q hn)]; exact q
end
def Rd(H:Hp)(a:Addr)(u:HO):Prop:=H a=some u\/∃ o,H a=some (.lB o u)
theorem Rd.ok{P:bT}{w:World}{H:Hp}{h:Heap}{a:Addr}{u:HO}(r:Rd H a u)(x:sf P w H h):ij P w H h a u:=by
 rcases r with r | ⟨o,r⟩
 ·exact x a u r
 ·obtain⟨_,q⟩:=x a _ r;exact q
def Mut:Option HO->Prop
 | some (.lst _)=>True
 | some (.dK _)=>True
 | some (.dT _)=>True
 | some (.set _ _)=>True
 | some (.ins _ _ _)=>True
 | some (.ext _)=>True
 | _=>False
section
variable {P:bT} {w:World} {H:Hp} {h h':Heap} {x e:Addr} {o':HO}
theorem sf.write(ok:sf P w H h)(mu:Mut (H x))(he:e=x\/H e=some (.own x))(k:∀ b u,b≠e->h.get? b=some u->h'.get? b=some u)(PU:∃ u,h'.get? e=some u)
  (new:ij P w (upd H x o') h' x o'):sf P w (upd H x o') h':=fun b u q=>by
 have ZI:∀ c y,H c=some (.own y)->c≠x:=fun c y r z=>by subst z; rw [r] at mu; exact mu
 have acZ:∀ c xs,H c=some (.tup xs)->c≠x:=fun c xs r z=>by subst z; rw [r] at mu; exact mu
 by_cases hb:b=x
 ·subst hb; rw [cV] at q; cases q; exact new
 ·rw [bR hb] at q;by_cases XZ:b=e
  ·have q':H b=some (.own x):=by
    rcases he with z | z
    ·exact absurd (XZ.trans z) hb
    ·rw [XZ]; exact z
   rw [q] at q'; cases q';obtain⟨v,hv⟩:=PU;exact⟨v,by rw [XZ]; exact hv⟩
  ·refine(ok b u q).kb (fun c v hc r=>k c v ?_ r) (fun c r=>by rw [bR (ZI c b r)]; exact r) fun c xs r=>by rw [bR (acZ c xs r)]; exact r
   rcases hc with rfl | hc
   ·exact XZ
   ·rintro rfl;rcases he with z | z
    ·exact ZI c b hc z
    ·rw [hc] at z; cases z; exact hb rfl
end
structure Un(fs ex:List Addr)(H H':Hp)(h h':Heap):Prop where
 keep:∀ b o,h.get? b=some o->H b=none->b∉fs->b∉ex->h'.get? b=some o
 slot:∀ b o,h.get? b=some o->H b=none->b∈fs->b∉ex->∃ sl,h'.get? b=some { o with slots:=sl }
 free:∀ b o,h.get? b=some o->H b=none->b∉ex->H' b=none
 there:∀ b o,h.get? b=some o->b∉ex->∃ o',h'.get? b=some o'
 sd:∀ b xs,H b=some (.tup xs)->H' b=some (.tup xs)
 rq:∀ b o u,H b=some (.lB o u)->H' b=some (.lB o u)
 uB:∀ b ps,H b=some (.Us ps)->∃ more,H' b=some (.Us (ps++more))
section
variable {fs fs' ex ex':List Addr} {H H1 H2:Hp} {h h1 h2 h':Heap} {a x e:Addr} {o:HO}
theorem Un.any(u:Un fs ex H H1 h h1){b:Addr}{ob:Obj}(q:h.get? b=some ob)(n:H b=none)(hx:b∉ex):∃ sl,h1.get? b=some { ob with slots:=sl }:=by
 by_cases hb:b∈fs
 ·exact u.slot b ob q n hb hx
 ·exact⟨ob.slots,u.keep b ob q n hb hx⟩
theorem Un.kept(k:∀ b u,h.get? b=some u->h'.get? b=some u):Un fs ex H H h h' :=
 ⟨fun b ob q _ _ _=>k b ob q,fun b ob q _ _ _=>⟨ob.slots,k b ob q⟩,fun _ _ _ n _=>n,fun b ob q _=>⟨ob,k b ob q⟩,fun _ _ q=>q,fun _ _ _ q=>q,fun _ ps q=>⟨#[],by rw [q]; simp⟩⟩
theorem Un.refl:Un fs ex H H h h:=Un.kept fun _ _ q=>q
theorem Un.laid(k:∀ b u,h.get? b=some u->h'.get? b=some u)(hp:h.objs.size<=a)(hn:H a=none):Un fs ex H (upd H a o) h h' where
 keep:=fun b u q _ _ _=>k b u q
 slot:=fun b u q _ _ _=>⟨u.slots,k b u q⟩
 free:=fun b u q n _=>by rw [bR (bQ (bX (aR q) hp))]; exact n
 there:=fun b u q _=>⟨u,k b u q⟩
 sd:=fun b xs q=>by rw [bR (fJ q hn)]; exact q
 rq:=fun b u xs q=>by rw [bR (fJ q hn)]; exact q
 uB:=fun b ps q=>⟨#[],by rw [bR (fJ q hn),q]; simp⟩
theorem Un.write(mu:Mut (H x))(he:e=x\/H e=some (.own x))(k:∀ b u,b≠e->h.get? b=some u->h'.get? b=some u)(PU:∃ u,h'.get? e=some u):Un fs ex H (upd H x o) h h':=by
 have hx:∀ b,H b=none->b≠x:=fun b n z=>by subst z; rw [n] at mu; exact mu
 have hb:∀ b,H b=none->b≠e:=fun b n z=>by
  subst z;rcases he with r | r
  ·exact hx b n r
  ·rw [n] at r; cases r
 have hm:∀ b u,H b=some u->¬ Mut (some u)->b≠x:=fun b u q nm z=>by subst z; rw [q] at mu; exact nm mu
 refine⟨fun b u q n _ _=>k b u (hb b n) q,fun b u q n _ _=>⟨u.slots,k b u (hb b n) q⟩,fun b u q n _=>by rw [bR (hx b n)]; exact n,fun b u q _=>?_,
  fun b xs q=>by rw [bR (hm b _ q fun z=>z)]; exact q,fun b u xs q=>by rw [bR (hm b _ q fun z=>z)]; exact q,fun b ps q=>⟨#[],by rw [bR (hm b _ q fun z=>z),q]; simp⟩⟩
 by_cases XZ:b=e
 ·subst XZ; exact PU
 ·exact⟨u,k b u XZ q⟩
end
def trk(h:Heap)(H:Hp):List Addr:=(aY h.objs.size).filter fun a=>(H a).isSome
def Fc(h:Heap)(H:Hp):Heap:=PySem.W.hideAll h (trk h H)
theorem OZ(h:Heap)(H:Hp):(Fc h H).objs.size=h.objs.size:=PySem.W.hideAll_size _ _
theorem R8{h:Heap}{H:Hp}{b:Addr}{o:Obj}(e:h.get? b=some o)(n:H b=none):(Fc h H).get? b=some o :=
 Qa _ e fun hm=>by
  have q:(H b).isSome=true:=(List.mem_filter.mp hm).2;rw [n] at q; simp at q
theorem U0{h:Heap}{H:Hp}{b:Addr}{o:Obj}(e:(Fc h H).get? b=some o):h.get? b=some o/\H b=none:=by
 have e':h.get? b=some o:=Tp (trk h H) e;refine⟨e',?_⟩;cases q:H b with
 | none=>rfl
 | some x =>
  have hm:b∈trk h H:=List.mem_filter.mpr ⟨List.mem_range.mpr (aR e'),by simp [q]⟩;have z:(Fc h H).get? b=none:=PySem.W.hideAll_none (trk h H) hm;rw [z] at e; cases e
def rK(g h:Heap)(L:Addr):List (Addr×Obj):=(aY h.objs.size).filterMap fun a=>if a=L\/(g.get? a).isSome=true then none else (h.get? a).map fun o=>(a,o)
theorem pB{g h:Heap}{L a:Addr}{o:Obj}(h1:a≠L)(h2:g.get? a=none)(h3:h.get? a=some o):(a,o)∈rK g h L :=
 List.mem_filterMap.mpr ⟨a,List.mem_range.mpr (aR h3),by simp [h1,h2,h3]⟩
theorem A6{g h:Heap}{L:Addr}{p:Addr×Obj}(hp:p∈rK g h L):p.1≠L/\g.get? p.1=none/\h.get? p.1=some p.2:=by
 obtain⟨b,_,e⟩:=List.mem_filterMap.mp hp;split at e
 ·cases e
 ·rename_i hn;cases q:h.get? b with
  | none=>rw [q] at e; simp at e
  | some u =>
   rw [q] at e;simp only [Gf,Option.some.injEq] at e;subst e;refine⟨fun z=>hn (.inl z),?_,q⟩;show g.get? b=none;cases r:g.get? b with
   | none=>rfl
   | some v=>exact(hn (.inr (by simp [r]))).elim
def rest(g h:Heap)(L d:Addr):List (Addr×Obj):=(rK g h L).filter fun p=>decide (p.1≠d)
theorem A9{g h:Heap}{L:Addr}:News g L h (rK g h L):=fun p hp=>let ⟨a,b,c⟩:=A6 hp; ⟨c,a,b⟩
structure Mod(K:ak)(mg:Str->Option Value)(base:Heap):Prop where
 RC:K.In base
 glob:base.Ns bP mg
 blt:∃ mb,base.Ns builtinsNs mb/\∀ x:Str,x≠"__name__"->mb x=fH x
 nolimit:base.NoLimit
structure Cx where
 prog:bT
 w:World
 K:ak
 mg:Str->Option Value
 base:Heap
 A:eu
 N:List Str
 jv:az
 PA:Hp
 env:Env
 outer:List Env
 stack:List Env
 ex:List Addr
 fn:Str->Bool
 calm:Bool
 pn:List (Addr×Obj)
 xe:Value->az->Prop
def uI(l:List Env):List Addr:=l.filterMap (·.frame)
abbrev Cx.fs(X:Cx):List Addr:=uI X.outer
def Vis(sc:Scope)(x:Str):Prop:=sc.names.lookup x=some .local\/sc.names.lookup x=some .cell\/sc.names.lookup x=some .free
def Loc(sc:Scope)(x:Str):Prop:=sc.names.lookup x=some .local\/sc.names.lookup x=some .cell
def Look(env:Env)(h:Heap)(m:Str->Option Value)(x:Str)(u:Value):Prop :=
 (env.kindOf x=some .local/\m x=some u)\/((env.kindOf x=some .cell\/env.kindOf x=some .free)/\∃ c,env.cells.lookup x=some c/\h.IsCell c (some u))
structure Cx.Ok(X:Cx):Prop where
 mod:Mod X.K X.mg X.base
 kind:X.env.scope.kind=.function
 glob:X.env.globals=bP
 blt:X.env.builtins=builtinsNs
 above:X.jv.heap.objs.size<=X.env.locals
 inj:∀ x y c,X.env.cells.lookup x=some c->X.env.cells.lookup y=some c->x=y
 has:∀ x,(X.env.kindOf x=some .cell\/X.env.kindOf x=some .free)->∃ c,X.env.cells.lookup x=some c
 YK:∀ x c,X.fn x=true->X.env.cells.lookup x=some c->X.jv.heap.objs.size<=c
 hd:X.calm=true->X.A.handled=none
 frames:X.A.frames=some X.stack
 Zc:X.stack=X.outer\/(X.stack=X.env :: X.outer/\X.env.frame=some X.env.locals)
 exf:∀ b∈X.ex,b≠X.env.locals/\∀ x c,X.env.cells.lookup x=some c->c≠b
 bs:∀ b o,X.base.get? b=some o->X.jv.heap.get? b=some o/\X.PA b=none
 S5:X.base.objs.size<=X.jv.heap.objs.size
 K0:∀ b o,X.base.get? b=some o->b∉X.ex
 Pf:∀ b∈X.ex,b∉X.fs
 yB:X.jv.heap.FunFrames X.base X.outer
 TX:∀ b∈X.fs,X.PA b=none
structure Inv(X:Cx)(ZB:List (Addr×Obj))(σ:List (Option V))(H:Hp)(s:az):Prop where
 ok:X.Ok
 os:s.os=X.jv.os
 bare:AA s.gens
 base:Un X.fs X.ex X.PA H X.jv.heap s.heap
 loc:∃ m,s.heap.Ns X.env.locals m/\∀ (i:Nat) (x:Str) (v:V),X.N[i]?=some x->σ[i]?=some (some v)->Vis X.env.scope x->∃ u,RelV v u/\Look X.env s.heap m x u
 cell:∀ x c,X.env.cells.lookup x=some c->∃ v,s.heap.IsCell c v
 free:H X.env.locals=none
 jG:∀ x c,X.env.cells.lookup x=some c->H c=none
 pin:∀ p∈X.pn++ZB,s.heap.get? p.1=some p.2/\H p.1=none/\p.1≠X.env.locals/\p.1∉X.fs/\∀ v,p.2.data≠.cell v
 cB:sf X.prog X.w H s.heap
 len:σ.length=X.N.length
section
variable {X:Cx} {ZB:List (Addr×Obj)} {σ:List (Option V)} {H H':Hp} {s:az} {h':Heap}
theorem Cx.Ok.ac2(ok:X.Ok){b:Addr}{o:Obj}(e:X.base.get? b=some o):b∉X.fs:=fun hb=>by
 have:=(ok.yB.mem hb).1;rw [e] at this; cases this
theorem Inv.bs(I:Inv X ZB σ H s):∀ b o,X.base.get? b=some o->s.heap.get? b=some o/\H b=none:=fun b o e =>
 ⟨I.base.keep b o (I.ok.bs b o e).1 (I.ok.bs b o e).2 (I.ok.ac2 e) (I.ok.K0 b o e),I.base.free b o (I.ok.bs b o e).1 (I.ok.bs b o e).2 (I.ok.K0 b o e)⟩
theorem Inv.bk(I:Inv X ZB σ H s):∀ b o,X.base.get? b=some o->s.heap.get? b=some o:=fun b o e=>(I.bs b o e).1
theorem Inv.mod(I:Inv X ZB σ H s):Mod X.K X.mg X.base:=I.ok.mod
theorem Inv.B5(I:Inv X ZB σ H s):X.K.In s.heap:=I.ok.mod.RC.keeps I.bk
theorem Inv.fr(I:Inv X ZB σ H s):∃ m,Fr X.base X.env.locals s.heap m :=
 let ⟨m,hn,_⟩:=I.loc
 ⟨m,hn,I.bk,cw I.ok.S5 I.ok.above⟩
theorem Inv.lt(I:Inv X ZB σ H s):X.env.locals < s.heap.objs.size:=let ⟨_,hn,_⟩:=I.loc; hn.lt
theorem Inv.sz(I:Inv X ZB σ H s):X.jv.heap.objs.size<=s.heap.objs.size:=cw I.ok.above (x9 I.lt)
theorem Inv.ac1(I:Inv X ZB σ H s){a:Addr}(h:s.heap.objs.size<=a):a∉X.fs:=fun hb=>by
 obtain⟨_,o,ho,_⟩:=I.ok.yB.mem hb;exact absurd (bX (aR ho) (cw I.sz h)) (gE _)
theorem Inv.Vu(I:Inv X ZB σ H s):∀ x c,X.env.cells.lookup x=some c->c≠X.env.locals:=fun x c e z=>by
 obtain⟨v,o,ho,hd⟩:=I.cell x c e;obtain⟨m,⟨o',es,ep,OX,Ag,_⟩,_⟩:=I.loc;rw [z,OX] at ho; cases ho; rw [Ag] at hd; cases hd
theorem Inv.yB(I:Inv X ZB σ H s):s.heap.FunFrames X.base X.outer:=by
 have all:∀ (l:List Env),(∀ b∈uI l,b∈X.fs)->X.jv.heap.FunFrames X.base l->s.heap.FunFrames X.base l:=by
  intro l;induction l with
  | nil=>intro _ _; trivial
  | cons env r ih =>
   intro hs hl;obtain⟨hk,⟨L,o,hf,hn,ho,hd⟩,hr⟩:=hl;have hL:L∈X.fs:=hs L (by unfold uI; rw [zR,hf]; exact aA);obtain⟨sl,e⟩:=I.base.slot L o ho (I.ok.TX L hL) hL fun z=>I.ok.Pf L z hL;exact⟨hk,⟨L,_,hf,hn,e,hd⟩,ih (fun b hb=>hs b (by unfold uI; rw [zR,hf]; exact ax _ hb)) hr⟩
 exact all X.outer (fun _ hb=>hb) I.ok.yB
theorem Inv.stack(I:Inv X ZB σ H s):s.heap.FunFrames X.base X.stack:=by
 rcases I.ok.Zc with e | ⟨e,hf⟩
 ·rw [e]; exact I.yB
 ·rw [e];obtain⟨m,hn,_⟩:=I.loc;refine .cons (by rw [I.ok.kind]; decide) hf hn ?_ I.yB;exact Ug (cw I.ok.S5 I.ok.above)
theorem Inv.Ky(I:Inv X ZB σ H s):∀ b∈uI X.stack,b∈X.env.locals :: X.fs:=fun b hb=>by
 rcases I.ok.Zc with e | ⟨e,hf⟩
 ·rw [e] at hb; exact ax _ hb
 ·rw [e] at hb;unfold uI at hb;rw [zR,hf] at hb;exact hb
theorem Inv.Ew(I:Inv X ZB σ H s):∀ b∈uI X.stack,H b=none:=fun b hb=>by
 rcases List.mem_cons.mp (I.Ky b hb) with e | hb
 ·rw [e]; exact I.free
 ·obtain⟨_,o,ho,_⟩:=I.ok.yB.mem hb;exact I.base.free b o ho (I.ok.TX b hb) fun z=>I.ok.Pf b z hb
theorem Inv.step{g':Array GenState}{t':Nat}{d':Drawn}{ch:List Addr}(I:Inv X ZB σ H s)
  (TV:∀ b∈ch,(b∈X.ex\/X.jv.heap.objs.size<=b)/\b≠X.env.locals/\(∀ x c,X.env.cells.lookup x=some c->c≠b)/\∀ p∈X.pn++ZB,p.1≠b)
  (keep:∀ b o,b≠X.env.locals->b∉X.fs->b∉ch->s.heap.get? b=some o->H b=none->h'.get? b=some o)
  (slot:∀ b o,b≠X.env.locals->b∈X.fs->b∉ch->s.heap.get? b=some o->H b=none->∃ sl,h'.get? b=some { o with slots:=sl }) (free:∀ b o,b∉ch->s.heap.get? b=some o->H b=none->H' b=none)
  (there:∀ b o,b∉ch->s.heap.get? b=some o->∃ o',h'.get? b=some o')
  (sd:∀ b xs,H b=some (.tup xs)->H' b=some (.tup xs)) (rq:∀ b o u,H b=some (.lB o u)->H' b=some (.lB o u)) (uB:∀ b ps,H b=some (.Us ps)->∃ more,H' b=some (.Us (ps++more)))
  (ns:∀ m,s.heap.Ns X.env.locals m->h'.Ns X.env.locals m) (cB:sf X.prog X.w H' h') (hg:AA g') :
  Inv X ZB σ H' { s with heap:=h',gens:=g',drawn:=d',toks:=t' }:=by
 have neL:∀ b o,X.jv.heap.get? b=some o->b≠X.env.locals:=fun b o e=>bQ (bX (aR e) I.ok.above);have neC:∀ b o,X.jv.heap.get? b=some o->b∉X.ex->b∉ch:=fun b o e hx hb=>by
  rcases (TV b hb).1 with z | z
  ·exact hx z
  ·exact absurd (bX (aR e) z) (gE _)
 have cellK:∀ x c,X.env.cells.lookup x=some c->∀ v,s.heap.IsCell c v->h'.IsCell c v:=fun x c e v ⟨o,ho,hd⟩=>by
  have ZP:c∉ch:=fun z=>(TV c z).2.2.1 x c e rfl;by_cases hc:c∈X.fs
  ·obtain⟨sl,q⟩:=slot c o (I.Vu x c e) hc ZP ho (I.jG x c e);exact⟨_,q,hd⟩
  ·exact⟨o,keep c o (I.Vu x c e) hc ZP ho (I.jG x c e),hd⟩
 refine⟨I.ok,I.os,hg,⟨fun b o e n hb hx=>?_,fun b o e n hb hx=>?_,fun b o e n hx=>?_,fun b o e hx=>?_,fun b xs e=>sd b xs (I.base.sd b xs e),fun b o xs e=>rq b o xs (I.base.rq b o xs e),fun b ps e=>?_⟩,?_,fun x c e=>?_,?_,fun x c e=>?_,fun p hp=>?_,cB,I.len⟩
 ·exact keep b o (neL b o e) hb (neC b o e hx) (I.base.keep b o e n hb hx) (I.base.free b o e n hx)
 ·obtain⟨sl,e1⟩:=I.base.slot b o e n hb hx;obtain⟨sl',e2⟩:=slot b _ (neL b o e) hb (neC b o e hx) e1 (I.base.free b o e n hx);exact⟨sl',e2⟩
 ·obtain⟨o',e1⟩:=I.base.there b o e hx;exact free b o' (neC b o e hx) e1 (I.base.free b o e n hx)
 ·obtain⟨o',e1⟩:=I.base.there b o e hx;exact there b o' (neC b o e hx) e1
 ·obtain⟨m1,e1⟩:=I.base.uB b ps e;obtain⟨m2,e2⟩:=uB b _ e1;exact⟨m1++m2,by rw [e2,Array.append_assoc]⟩
 ·obtain⟨m,hn,hl⟩:=I.loc;refine⟨m,ns m hn,fun i x v e1 e2 e3=>?_⟩;obtain⟨u,r,l⟩:=hl i x v e1 e2 e3;refine⟨u,r,?_⟩;rcases l with l | ⟨k,c,e,z⟩
  ·exact .inl l
  ·exact .inr ⟨k,c,e,cellK x c e _ z⟩
 ·obtain⟨v,z⟩:=I.cell x c e;exact⟨v,cellK x c e v z⟩
 ·obtain⟨m,⟨o,_,_,ho,_⟩,_⟩:=I.loc;exact free _ o (fun z=>(TV _ z).2.1 rfl) ho I.free
 ·obtain⟨v,o,ho,hd⟩:=I.cell x c e;exact free c o (fun z=>(TV c z).2.2.1 x c e rfl) ho (I.jG x c e)
 ·obtain⟨e,n,ne,nf,d⟩:=I.pin p hp;have ZP:p.1∉ch:=fun z=>(TV p.1 z).2.2.2 p hp rfl;exact⟨keep p.1 p.2 ne nf ZP e n,free p.1 p.2 ZP e n,ne,nf,d⟩
theorem Inv.un{t':Nat}(I:Inv X ZB σ H s)(u:Un X.fs [] H H' s.heap h')(cB:sf X.prog X.w H' h'):Inv X ZB σ H' { s with heap:=h',toks:=t' }:=by
 obtain⟨m,⟨o,es,ep,ho,r⟩,_⟩:=id I.loc;obtain⟨sl,hL⟩:=u.any ho I.free (by simp);exact I.step (g':=s.gens) (d':=s.drawn) (ch:=[]) (fun _ z=>nomatch z) (fun b o _ hb _ e n=>u.keep b o e n hb (by simp)) (fun b o _ hb _ e n=>u.slot b o e n hb (by simp)) (fun b o _ e n=>u.free b o e n (by simp)) (fun b o _ e=>u.there b o e (by simp)) u.sd u.rq u.uB (fun m' hm=>by
  obtain⟨o',es',ep',OX,r'⟩:=hm;rw [ho] at OX; cases OX;exact⟨_,es',ep',hL,r'⟩) cB I.bare
theorem Inv.call{g':Array GenState}{t':Nat}{d':Drawn}{ch:List Addr}(I:Inv X ZB σ H s)(u:Un (uI X.stack) ch H H' s.heap h')(cB:sf X.prog X.w H' h')(hg:AA g')
  (TV:∀ b∈ch,(b∈X.ex\/X.jv.heap.objs.size<=b)/\b≠X.env.locals/\(∀ x c,X.env.cells.lookup x=some c->c≠b)/\∀ p∈X.pn++ZB,p.1≠b) :
  Inv X ZB σ H' { s with heap:=h',gens:=g',drawn:=d',toks:=t' }:=by
 obtain⟨m,⟨o,es,ep,ho,r⟩,_⟩:=id I.loc;obtain⟨sl,hL⟩:=u.any ho I.free fun z=>(TV _ z).2.1 rfl;exact I.step (ch:=ch) TV (fun b o hL hb hc e n=>u.keep b o e n (fun z=>(List.mem_cons.mp (I.Ky b z)).elim hL hb) hc) (fun b o _ _ hc e n=>u.any e n hc) (fun b o hc e n=>u.free b o e n hc) (fun b o hc e=>u.there b o e hc) u.sd u.rq u.uB (fun m' hm=>by
  obtain⟨o',es',ep',OX,r'⟩:=hm;rw [ho] at OX; cases OX;exact⟨_,es',ep',hL,r'⟩) cB hg
theorem Inv.turned{t':Nat}{it:Addr}(I:Inv X ZB σ H s)(k:∀ b o,b≠it->s.heap.get? b=some o->h'.get? b=some o)(hn:H it=none)(hL:it≠X.env.locals)
  (h1:it∈X.ex\/X.jv.heap.objs.size<=it) (h2:∀ x c,X.env.cells.lookup x=some c->c≠it) (h3:∀ p∈X.pn++ZB,p.1≠it):Inv X ZB σ H { s with heap:=h',toks:=t' }:=by
 have nit:∀ b u,H b=some u->b≠it:=fun b u e z=>by rw [z,hn] at e; cases e
 refine I.step (g':=s.gens) (d':=s.drawn) (ch:=[it]) (fun b hb=>?_) (fun b o _ _ hc e _=>k b o (fun z=>hc (by simp [z])) e) (fun b o _ _ hc e _=>⟨o.slots,k b o (fun z=>hc (by simp [z])) e⟩) (fun _ _ _ _ n=>n)
  (fun b o hc e=>⟨o,k b o (fun z=>hc (by simp [z])) e⟩) (fun _ _ e=>e) (fun _ _ _ e=>e) (fun b ps e=>⟨#[],by rw [e]; simp⟩) (fun m hm=>?_) (fun b u e=>?_) I.bare
 ·have e:b=it:=by simpa using hb
  subst e;exact⟨h1,hL,h2,h3⟩
 ·obtain⟨o,es,ep,ho,r⟩:=hm;exact⟨o,es,ep,k _ o (fB hL) ho,r⟩
 ·refine(I.cB b u e).kb (fun c v hc q=>k c v ?_ q) (fun _ q=>q) fun _ _ q=>q;rcases hc with z | z
  ·rw [z]; exact nit b u e
  ·exact nit c _ z
theorem Inv.tok(I:Inv X ZB σ H s)(t:Nat):Inv X ZB σ H { s with toks:=t }:=I.un (h':=s.heap) (t':=t) Un.refl I.cB
theorem Inv.kept{t':Nat}(I:Inv X ZB σ H s)(k:∀ b u,s.heap.get? b=some u->h'.get? b=some u):Inv X ZB σ H { s with heap:=h',toks:=t' }:=I.un (Un.kept k) (I.cB.kept k)
theorem Inv.laid{a:Addr}{o:HO}{t':Nat}(I:Inv X ZB σ H s)(k:∀ b u,s.heap.get? b=some u->h'.get? b=some u)(hp:s.heap.objs.size<=a)(new:ij X.prog X.w (upd H a o) h' a o) :
  Inv X ZB σ (upd H a o) { s with heap:=h',toks:=t' }:=I.un (Un.laid k hp (I.cB.fresh hp)) (I.cB.laid k hp new)
theorem Inv.write{x e:Addr}{o:HO}{t':Nat}(I:Inv X ZB σ H s)(mu:Mut (H x))(he:e=x\/H e=some (.own x))(k:∀ b u,b≠e->s.heap.get? b=some u->h'.get? b=some u)(PU:∃ u,h'.get? e=some u)
  (new:ij X.prog X.w (upd H x o) h' x o):Inv X ZB σ (upd H x o) { s with heap:=h',toks:=t' }:=I.un (Un.write mu he k PU) (I.cB.write mu he k PU new)
theorem Inv.MS{VQ:List (Addr×Obj)}(I:Inv X ZB σ H s)(h:∀ p∈VQ,s.heap.get? p.1=some p.2/\H p.1=none/\p.1≠X.env.locals/\p.1∉X.fs/\∀ v,p.2.data≠.cell v):Inv X VQ σ H s :=
 ⟨I.ok,I.os,I.bare,I.base,I.loc,I.cell,I.free,I.jG,fun p hp=>(List.mem_append.mp hp).elim (fun z=>I.pin p (eK _ z)) (h p),I.cB,I.len⟩
theorem A8{N:List Str}(hN:N.Nodup){i j:Nat}{x:Str}(a:N[i]?=some x)(b:N[j]?=some x):i=j:=by
 obtain⟨h1,e1⟩:=List.getElem?_eq_some_iff.mp a;obtain⟨h2,e2⟩:=List.getElem?_eq_some_iff.mp b;exact(List.getElem_inj hN).mp (e1.trans e2.symm)
theorem yf{M:Model}{A:eu}{E:Value->az->Prop}{i:Nat}{x:Str}{v:V}{u:Value}{Q:Unit->az->Prop}(I:Inv X ZB σ H s)(hN:X.N.Nodup)(hi:X.N[i]?=some x)(hx:Loc X.env.scope x)(r:RelV v u)
  (h:∀ s',Inv X ZB (σ.set i (some v)) H s'->(∃ a,g8 a s.heap s'.heap/\(a=X.env.locals\/X.env.cells.lookup x=some a))->Q () s') (hf:autoParam (X.fn x=true\/X.env.scope.names.lookup x=some .local) Ao._auto_1):wpAny M A (storeName X.env x u) Q E s:=by
 obtain⟨m,hn,hl⟩:=id I.loc;have Sa:(X.env.scope.kind == .class||(X.env.scope.kind == .module&&X.env.locals != X.env.globals))=false:=by rw [I.ok.kind]; rfl
 have aah:i < σ.length:=by rw [I.len]; exact(List.getElem?_eq_some_iff.mp hi).1
 have Vu:=I.Vu;have tracked:∀ {a:Addr} {h':Heap},(∃ o,s.heap.get? a=some o/\H a=none)->g8 a s.heap h'->sf X.prog X.w H h':=fun {a h'} ha hs b ob e=>by
  obtain⟨_,_,rS⟩:=ha;refine(I.cB b ob e).kb (fun c w' hc q=>(hs.2 c ?_).trans q) (fun _ q=>q) fun _ _ q=>q;rintro rfl;rcases hc with rfl | hc
  ·rw [rS] at e; cases e
  ·rw [rS] at hc; cases hc
 rcases hx with hk | hk
 ·refine wpAny_storeName_local hk hn (fun h' Li hs=>?_) Sa;obtain⟨oL,_,_,hoL,_⟩:=id hn;refine h _ ⟨I.ok,I.os,I.bare,⟨fun b o e n hb hx=>?_,fun b o e n hb hx=>?_,I.base.free,fun b o e hx=>?_,I.base.sd,I.base.rq,I.base.uB⟩,⟨_,Li,fun j y v' e1 e2 e3=>?_⟩,fun y c e=>?_,I.free,I.jG,fun p hp=>?_,tracked ⟨oL,hoL,I.free⟩ hs,by simpa using I.len⟩ ⟨_,hs,.inl rfl⟩
  ·exact(hs.2 b (bQ (bX (aR e) I.ok.above))).trans (I.base.keep b o e n hb hx)
  ·obtain⟨sl,e1⟩:=I.base.slot b o e n hb hx;exact⟨sl,(hs.2 b (bQ (bX (aR e) I.ok.above))).trans e1⟩
  ·obtain⟨o',e1⟩:=I.base.there b o e hx;exact⟨o',(hs.2 b (bQ (bX (aR e) I.ok.above))).trans e1⟩
  ·by_cases hj:j=i
   ·subst hj;rw [hi] at e1; cases e1;rw [dI aah] at e2;cases e2;exact⟨u,r,.inl ⟨hk,by simp⟩⟩
   ·rw [dg (fB hj)] at e2;obtain⟨u',r',q⟩:=hl j y v' e1 e2 e3;refine⟨u',r',?_⟩;rcases q with ⟨k,e⟩ | ⟨k,c,e,z⟩
    ·refine .inl ⟨k,?_⟩;have:y≠x:=fun e=>hj (A8 hN e1 (e ▸ hi));simp [this,e]
    ·exact .inr ⟨k,c,e,z.sameBut hs (Vu y c e)⟩
  ·obtain⟨w',z⟩:=I.cell y c e;exact⟨w',z.sameBut hs (Vu y c e)⟩
  ·obtain⟨e,n,ne,nf,d⟩:=I.pin p hp;exact⟨(hs.2 p.1 ne).trans e,n,ne,nf,d⟩
 ·have hfn:X.fn x=true:=by
   rcases hf with z | z
   ·exact z
   ·rw [z] at hk; cases hk
  obtain⟨c,hc⟩:=I.ok.has x (.inl hk);obtain⟨w',z⟩:=I.cell x c hc;refine wpAny_storeName_cell I.ok.kind hk hc z (fun h' PV hs=>?_);obtain⟨oc,YG,adI⟩:=id z;refine h { s with heap:=h' } ⟨I.ok,I.os,I.bare,⟨fun b o e n hb hx=>?_,fun b o e n hb hx=>?_,I.base.free,fun b o e hx=>?_,I.base.sd,I.base.rq,I.base.uB⟩,⟨m,hn.sameBut hs (fB (Vu x c hc)),fun j y v' e1 e2 e3=>?_⟩,fun y c' e=>?_,I.free,I.jG,fun p hp=>?_,tracked ⟨oc,YG,I.jG x c hc⟩ hs,by simpa using I.len⟩ ⟨c,hs,.inr hc⟩
  ·exact(hs.2 b (bQ (bX (aR e) (I.ok.YK x c hfn hc)))).trans (I.base.keep b o e n hb hx)
  ·obtain⟨sl,e1⟩:=I.base.slot b o e n hb hx;exact⟨sl,(hs.2 b (bQ (bX (aR e) (I.ok.YK x c hfn hc)))).trans e1⟩
  ·obtain⟨o',e1⟩:=I.base.there b o e hx;exact⟨o',(hs.2 b (bQ (bX (aR e) (I.ok.YK x c hfn hc)))).trans e1⟩
  ·by_cases hj:j=i
   ·subst hj;rw [hi] at e1; cases e1;rw [dI aah] at e2;cases e2;exact⟨u,r,.inr ⟨.inl hk,c,hc,PV⟩⟩
   ·rw [dg (fB hj)] at e2;obtain⟨u',r',q⟩:=hl j y v' e1 e2 e3;refine⟨u',r',?_⟩;rcases q with q | ⟨k,c',e,z'⟩
    ·exact .inl q
    ·refine .inr ⟨k,c',e,z'.sameBut hs ?_⟩;rintro rfl;exact hj (A8 hN e1 (I.ok.inj _ _ _ e hc ▸ hi))
  ·by_cases hcc:c'=c
   ·subst hcc; exact⟨_,PV⟩
   ·obtain⟨w2,z2⟩:=I.cell y c' e;exact⟨w2,z2.sameBut hs hcc⟩
  ·obtain⟨e,n,ne,nf,d⟩:=I.pin p hp;refine⟨(hs.2 p.1 ?_).trans e,n,ne,nf,d⟩;intro q;rw [q,YG] at e;have q':oc=p.2:=bN e;exact d w' (by rw [<-q']; exact adI)
theorem wt{M:Model}{A:eu}{E:Value->az->Prop}{i:Nat}{x:Str}{v:V}{u:Value}{Q:Unit->az->Prop}(I:Inv X ZB σ H s)(hN:X.N.Nodup)(hi:X.N[i]?=some x)(hx:Loc X.env.scope x)(r:RelV v u)
  (h:∀ s',Inv X ZB (σ.set i (some v)) H s'->Q () s') (hf:autoParam (X.fn x=true\/X.env.scope.names.lookup x=some .local) Ao._auto_1):wpAny M A (storeName X.env x u) Q E s :=
 yf I hN hi hx r (fun s' I' _=>h s' I') hf
theorem Inv.Wb{s':az}{ch:List Addr}(I:Inv X ZB σ H s)(ho:s'.os=s.os)(u:Un (uI X.stack) ch H H' s.heap s'.heap)(cB:sf X.prog X.w H' s'.heap)(hg:AA s'.gens)
  (TV:∀ b∈ch,(b∈X.ex\/X.jv.heap.objs.size<=b)/\b≠X.env.locals/\(∀ x c,X.env.cells.lookup x=some c->c≠b)/\∀ p∈X.pn++ZB,p.1≠b):Inv X ZB σ H' s':=by
 obtain⟨h',g',d',t',o'⟩:=s';have e:o'=s.os:=ho;subst e;exact I.call (g':=g') (t':=t') (d':=d') u cB hg TV
end
abbrev XK:=Value->Option Addr->Hp->Prop
abbrev St:=List (Option V)
abbrev VK:=V->Hp->Prop
abbrev TE:=St->Hp->VK->Prop
abbrev TT:=St->Hp->(Bool->Hp->Prop)->Prop
abbrev TA:=St->Hp->(List V->Hp->Prop)->Prop
structure Ends where
 nx:St->Hp->Prop
 rt:VK
 bk:St->Hp->Prop:=fun _ _=>False
 ct:St->Hp->Prop:=fun _ _=>False
abbrev TS:=Ends->St->Hp->Prop
def EP(X:Cx)(ZB:List (Addr×Obj))(σ:St)(Q:VK)(u:Value)(s':az):Prop:=∃ v H',Inv X ZB σ H' s'/\RelV v u/\Q v H'
def TP(X:Cx)(ZB:List (Addr×Obj))(σ:St)(Q:Bool->Hp->Prop)(b:Bool)(s':az):Prop:=∃ H',Inv X ZB σ H' s'/\Q b H'
def SP(X:Cx)(ZB:List (Addr×Obj))(D:Ends)(f:Flow)(s':az):Prop :=
 match f with
 | .next=>∃ j5 H',Inv X ZB j5 H' s'/\D.nx j5 H'
 | .brk=>∃ j5 H',Inv X ZB j5 H' s'/\D.bk j5 H'
 | .cont=>∃ j5 H',Inv X ZB j5 H' s'/\D.ct j5 H'
 | .ret u=>∃ v j5 H',Inv X ZB j5 H' s'/\RelV v u/\D.rt v H'
def PE(X:Cx)(e:Expr)(t:TE):Prop :=
 ∀ (ZB:List (Addr×Obj)) (s:az) (σ:St) (H:Hp) (Q:VK),Inv X ZB σ H s->t σ H Q->wpAny (model X.prog X.w) X.A (eval e X.env) (EP X ZB σ Q) X.xe s
def YO(X:Cx)(st:List Stmt)(t:TS):Prop :=
 ∀ (ZB:List (Addr×Obj)) (s:az) (σ:St) (H:Hp) (D:Ends),Inv X ZB σ H s->t D σ H->wpAny (model X.prog X.w) X.A (execs st X.env) (SP X ZB D) X.xe s
theorem g6{α:Type}{t:Sem α}{Q Q':α->az->Prop}{M:Model}{A:eu}{E:Value->az->Prop}{s:az}(h:wpAny M A t Q E s)(hQ:∀ a s,Q a s->Q' a s):wpAny M A t Q' E s:=jq h hQ fun _ _ x=>x
section
variable {X:Cx}
def ab9(i:Nat):TE:=fun σ H Q=>∃ v,σ[i]?=some (some v)/\Q v H
def tC(v:V):TE:=fun _ H Q=>Q v H
theorem W2 {i:Nat} {x:Str} {pos:Pos} (hN:X.N[i]?=some x) (hv:Vis X.env.scope x) (hd:(x == ("__debug__" : Str))=false:=by decide) (Gs:(x == ("__classdict__" : Str))=false:=by decide):PE X (.Name x pos) (ab9 i):=by
 intro ZB s σ H Q I h;obtain⟨v,e,h⟩:=h;obtain⟨m,hn,hl⟩:=I.loc;obtain⟨u,r,l⟩:=hl i x v hN e hv;have fin:EP X ZB σ Q u s:=⟨v,H,I,r,h⟩;rcases l with ⟨hk,hm⟩ | ⟨hk,c,hc,rT⟩
 ·exact wpAny_Name (wpAny_loadName_local I.ok.kind hk hn hm fin) hd
 ·rcases hk with hk | hk
  ·exact wpAny_Name (wpAny_loadName_cell I.ok.kind hk hc rT fin) hd
  ·exact wpAny_Name (wpAny_loadName_free I.ok.kind hk hc rT fin Gs) hd
theorem W5{i j pos}:PE X (.Constant (.int i) j pos) (tC (.int i)):=fun _ _ _ H _ I h=>wpAny_Constant_int ⟨.int i,H,I.tok _,⟨_,rfl⟩,h⟩
theorem Zu{b j pos}:PE X (.Constant (.bool b) j pos) (tC (.bl b)):=fun _ _ _ H _ I h=>Constant_bool ⟨.bl b,H,I,rfl,h⟩
theorem W4{j pos}:PE X (.Constant .none j pos) (tC .dh):=fun _ _ _ H _ I h=>Constant_none ⟨.dh,H,I,rfl,h⟩
theorem W3{x j pos}:PE X (.Constant (.str x) j pos) (tC (.str x)):=fun _ _ _ H _ I h=>Calls.Constant_str ⟨.str x,H,I.tok _,⟨_,rfl⟩,h⟩
def Gl(X:Cx)(x:Str):Prop:=X.env.kindOf x=some .globalImplicit
theorem pE{E:Value->az->Prop}{ZB:List (Addr×Obj)}{s:az}{σ:St}{H:Hp}{x:Str}{u:Value}{pos:Pos}{Q:Value->az->Prop}(I:Inv X ZB σ H s)(hg:Gl X x)(hm:X.mg x=some u)(h:Q u s)
  (hd:(x == ("__debug__" : Str))=false:=by decide):wpAny (model X.prog X.w) X.A (eval (.Name x pos) X.env) Q E s :=
 JC I.ok.kind hg (Calls.loadGlobal_global (by rw [I.ok.glob]; exact I.mod.glob.keeps I.bk) hm h) hd
theorem lY{E:Value->az->Prop}{ZB:List (Addr×Obj)}{s:az}{σ:St}{H:Hp}{x:Str}{u:Value}{pos:Pos}{Q:Value->az->Prop}(I:Inv X ZB σ H s)(hg:Gl X x)(hm:X.mg x=none)(hv:fH x=some u)(h:Q u s)
  (hn:x≠"__name__":=by decide) (hd:(x == ("__debug__" : Str))=false:=by decide):wpAny (model X.prog X.w) X.A (eval (.Name x pos) X.env) Q E s:=by
 obtain⟨mb,h1,h2⟩:=I.mod.blt;exact JC I.ok.kind hg (Calls.loadGlobal_builtin (by rw [I.ok.glob]; exact I.mod.glob.keeps I.bk) hm (by rw [I.ok.blt]; exact h1.keeps I.bk) ((h2 x hn).trans hv) h) hd
theorem UO {x:Str} {v:V} {u:Value} {pos:Pos} (hg:Gl X x) (hm:X.mg x=some u) (r:RelV v u) (hd:(x == ("__debug__" : Str))=false:=by decide):PE X (.Name x pos) (tC v) :=
 fun _ _ _ H _ I h=>pE I hg hm ⟨v,H,I,r,h⟩ hd
variable {a b:Expr} {ta tb:TE} {pos:Pos}
def tB(t:TE):TT:=fun σ H Q=>t σ H fun x H1=>∃ c,x=.bl c/\Q c H1
variable {tA tB':TT} {rest:List Expr}
end
def rW(K:ak)(H:Hp)(a:Addr)(xs:List V):Prop :=
 Rd H a (.lst xs) \/
  ∃ (o:Obj) (bH:Array Value) (n:Nat),K.lookup a=some o/\o.cls=.type "list"/\o.dict=none/\o.data=.seq bH n/\bH.size<=bx/\Vals xs bH.toList
def BM(K:ak)(H:Hp)(a:Addr)(xs:List V):Prop :=
 Rd H a (.tup xs) \/
  ∃ (o:Obj) (bH:Array Value) (n:Nat),K.lookup a=some o/\o.cls=.type "tuple"/\o.data=.seq bH n/\bH.size<=bx/\Vals xs bH.toList
def aeu:Value->Option V
 | .none=>some .dh
 | .bool b=>some (.bl b)
 | .int i _=>some (.int i)
 | .str x _=>some (.str x)
 | .bytes b _=>some (.Yl b)
 | .float b _=>some (.flt b)
 | .ref a=>some (.ref a)
 | .type n=>some (.ty n)
 | _=>none
theorem RelV.abs{x:V}{u:Value}(r:RelV x u):aeu u=some x:=by
 cases x with
 | dh=>cases r; rfl
 | bl _=>cases r; rfl
 | int _=>obtain⟨t,rfl⟩:=r; rfl
 | str _=>obtain⟨t,rfl⟩:=r; rfl
 | Yl _=>obtain⟨t,rfl⟩:=r; rfl
 | flt _=>obtain⟨t,rfl⟩:=r; rfl
 | ref _=>cases r; rfl
 | ty _=>cases r; rfl
theorem RelV.inj{x y:V}{u:Value}(r:RelV x u)(q:RelV y u):x=y:=bN (r.abs.symm.trans q.abs)
theorem Vals.inj:∀ {xs ys:List V} {us:List Value},Vals xs us->Vals ys us->xs=ys:=by
 intro xs ys us h;induction h generalizing ys with
 | nil=>intro k; cases k; rfl
 | cons r t ih =>
  intro k;cases k with
  | cons r' t'=>rw [r.inj r',ih t']
section
variable {X:Cx} {ZB:List (Addr×Obj)} {σ:St} {H:Hp} {s:az} {a:Addr} {xs ys:List V}
theorem rW.of{K:ak}(h:H a=some (.lst xs)):rW K H a xs:=.inl (.inl h)
theorem BM.of{K:ak}(h:H a=some (.tup xs)):BM K H a xs:=.inl (.inl h)
theorem Inv.list(I:Inv X ZB σ H s)(h:rW X.K H a xs):∃ bH:List Value,Vals xs bH/\PlainL s.heap a bH.toArray/\xs.length<=bx:=by
 rcases h with h | ⟨o,bH,n,hk,hc,hd,hs,hz,r⟩
 ·obtain⟨z,bH,n,r,e⟩:=h.ok I.cB;exact⟨bH,r,⟨_,n,e,rfl,rfl,rfl⟩,z⟩
 ·refine⟨bH.toList,r,⟨o,n,I.B5 a o hk,hc,hd,by simpa using hs⟩,?_⟩;have e:=r.length;simp only [bz] at e;lia
theorem Inv.tuple(I:Inv X ZB σ H s)(h:BM X.K H a xs):∃ bH:List Value,Vals xs bH/\IsTup s.heap a bH.toArray/\xs.length<=bx:=by
 rcases h with h | ⟨o,bH,n,hk,hc,hs,hz,r⟩
 ·obtain⟨z,bH,r,p⟩:=h.ok I.cB;exact⟨bH,r,p,z⟩
 ·refine⟨bH.toList,r,⟨o,I.B5 a o hk,hc,n,by simpa using hs⟩,?_⟩;have e:=r.length;simp only [bz] at e;lia
theorem Inv.w4(I:Inv X ZB σ H s)(h:rW X.K H a xs)(h':rW X.K H a ys):xs=ys:=by
 obtain⟨bH,r,⟨o,n,e,_,_,d⟩,_⟩:=I.list h;obtain⟨its',r',⟨o',n',e',_,_,d'⟩,_⟩:=I.list h';rw [e] at e'; cases e';rw [d] at d';injection d' with d1 _
 have:bH=its':=by simpa using congrArg Array.toList d1
 subst this;exact r.inj r'
theorem Inv.N9(I:Inv X ZB σ H s)(h:BM X.K H a xs)(h':BM X.K H a ys):xs=ys:=by
 obtain⟨bH,r,⟨o,e,_,n,d⟩,_⟩:=I.tuple h;obtain⟨its',r',⟨o',e',_,n',d'⟩,_⟩:=I.tuple h';rw [e] at e'; cases e';rw [d] at d';injection d' with d1 _
 have:bH=its':=by simpa using congrArg Array.toList d1
 subst this;exact r.inj r'
end
abbrev Cx.wj(X:Cx)(E:Value->az->Prop):Cx:={ X with xe:=E }
abbrev Cx.Yz(X:Cx):Cx:=X.wj fun _ _=>False
theorem Cx.Ok.wj{X:Cx}(ok:X.Ok)(E:Value->az->Prop):(X.wj E).Ok :=
 ⟨ok.mod,ok.kind,ok.glob,ok.blt,ok.above,ok.inj,ok.has,ok.YK,ok.hd,ok.frames,ok.Zc,ok.exf,ok.bs,ok.S5,ok.K0,ok.Pf,ok.yB,ok.TX⟩
theorem Cx.Ok.qM{X:Cx}{E:Value->az->Prop}(ok:(X.wj E).Ok):X.Ok :=
 ⟨ok.mod,ok.kind,ok.glob,ok.blt,ok.above,ok.inj,ok.has,ok.YK,ok.hd,ok.frames,ok.Zc,ok.exf,ok.bs,ok.S5,ok.K0,ok.Pf,ok.yB,ok.TX⟩
section
variable {X:Cx} {ZB:List (Addr×Obj)} {σ:St} {H:Hp} {s:az} {E:Value->az->Prop}
theorem Inv.wj(I:Inv X ZB σ H s)(E:Value->az->Prop):Inv (X.wj E) ZB σ H s:=⟨I.ok.wj E,I.os,I.bare,I.base,I.loc,I.cell,I.free,I.jG,I.pin,I.cB,I.len⟩
theorem Inv.qM(I:Inv (X.wj E) ZB σ H s):Inv X ZB σ H s:=⟨I.ok.qM,I.os,I.bare,I.base,I.loc,I.cell,I.free,I.jG,I.pin,I.cB,I.len⟩
theorem SP.qM{D:Ends}{f:Flow}{s':az}(h:SP (X.wj E) ZB D f s'):SP X ZB D f s':=by
 cases f with
 | next=>obtain⟨j5,H',I,q⟩:=h; exact⟨j5,H',I.qM,q⟩
 | brk=>obtain⟨j5,H',I,q⟩:=h; exact⟨j5,H',I.qM,q⟩
 | cont=>obtain⟨j5,H',I,q⟩:=h; exact⟨j5,H',I.qM,q⟩
 | ret u=>obtain⟨v,j5,H',I,r,q⟩:=h; exact⟨v,j5,H',I.qM,r,q⟩
theorem YO.Yz{st:List Stmt}{t:TS}(h:YO X.Yz st t):YO X st t:=fun ZB s σ H D I hw =>
 jq (h ZB s σ H D (I.wj _) hw) (fun _ _ q=>q.qM) fun _ _ z=>bY z
end
section
variable {X:Cx} {st:Stmt} {rest:List Stmt} {t u:TS} {e:Expr} {te:TE} {pos:Pos}
theorem Inv.quiet{ZB:List (Addr×Obj)}{σ:St}{H:Hp}{s:az}(I:Inv X ZB σ H s):interactive X.env=false:=by simp [interactive,I.ok.kind]
end
abbrev aew:=V->V->V->Hp->(Hp->Prop)->Prop
def aey(X:Cx)(t:aew):Prop :=
 ∀ (ZB:List (Addr×Obj)) (s:az) (σ:St) (H:Hp) (o i v:V) (ov iv u:Value) (Q:Hp->Prop),Inv X ZB σ H s->RelV o ov->RelV i iv->RelV v u->t o i v H Q ->
  wpAny (model X.prog X.w) X.A (setItem ov iv u) (fun _ s'=>∃ H',Inv X ZB σ H' s'/\Q H') X.xe s
structure It where
 go:Nat->Hp->Prop
 yld:Nat->Hp->V->Hp->Prop
 stop:Nat->Hp->Prop
def o4(X:Cx)(ZB:List (Addr×Obj))(H:Hp)(b:Addr):Prop :=
 H b=none/\b≠X.env.locals/\b∉X.fs/\(b∈X.ex\/X.jv.heap.objs.size<=b)/\(∀ x c,X.env.cells.lookup x=some c->c≠b)/\∀ p∈X.pn++ZB,p.1≠b
theorem Inv.Im{X:Cx}{ZB:List (Addr×Obj)}{σ:St}{H H':Hp}{s:az}{b:Addr}(I:Inv X ZB σ H s)(hb:s.heap.objs.size<=b)(hn:H' b=none):o4 X ZB H' b:=by
 refine⟨hn,Nat.ne_of_gt (bX I.lt hb),I.ac1 hb,.inr (cw I.sz hb),fun x c e z=>?_,fun p hp z=>?_⟩
 ·obtain⟨v,q⟩:=I.cell x c e;exact absurd (bX q.lt (by rw [z]; exact hb)) (gE _)
 ·exact absurd (bX (aR (I.pin p hp).1) (by rw [z]; exact hb)) (gE _)
structure Turn(P:bT)(w:World)(K:ak)(tg:Expr)(J:It)(fp:List Addr)(it:Addr)(tn:Nat->Heap->Prop):Prop where
 mem:it∈fp
 obj:∀ i h,tn i h->∀ b∈fp,∃ o,h.get? b=some o/\∀ v,o.data≠.cell v
 keep:∀ i h h',tn i h->(∀ b∈fp,∀ o,h.get? b=some o->h'.get? b=some o)->tn i h'
 item:∀ (X:Cx),X.prog=P->X.w=w->X.K=K->X.calm=true->∀ (i:Nat) (ZB:List (Addr×Obj)) (s:az) (σ:St) (H:Hp) (E:Value->az->Prop),Inv X ZB σ H s->(∀ b∈fp,o4 X ZB H b)->tn i s.heap->J.go i H ->
  wpAny (model P w) X.A (sv (.ref it)) (fun r s1=>∃ u,r=some u /\
   wpAny (model P w) X.A (Ar tg (.ref it) u) (fun _ s2=>∃ x H',Inv X ZB σ H' s2/\RelV x u/\J.yld i H x H'/\tn (i+1) s2.heap/\∀ b∈fp,H' b=none) E s1) E s
 done:∀ (X:Cx),X.prog=P->X.w=w->X.K=K->X.calm=true->∀ (i:Nat) (ZB:List (Addr×Obj)) (s:az) (σ:St) (H:Hp) (E:Value->az->Prop),Inv X ZB σ H s->(∀ b∈fp,o4 X ZB H b)->tn i s.heap->J.stop i H ->
  wpAny (model P w) X.A (sv (.ref it)) (fun r s1=>r=none/\Inv X ZB σ H s1) E s
 self:∀ (A:eu) (i:Nat) (s:az) (Q:Value->az->Prop) (E:Value->az->Prop),tn i s.heap->Q (.ref it) s->wpAny (model P w) A (CM (.ref it)) Q E s
abbrev TI:=St->Hp->(It->Hp->Prop)->Prop
def PIE(X:Cx)(ZB:List (Addr×Obj))(σ:St)(tg:Expr)(R:It->Hp->Prop)(U5:Value)(s2:az):Prop :=
 ∃ (it:Addr) (fp:List Addr) (tn:Nat->Heap->Prop) (J:It) (H':Hp),U5=.ref it/\Inv X ZB σ H' s2/\Turn X.prog X.w X.K tg J fp it tn/\tn 0 s2.heap/\(∀ b∈fp,o4 X ZB H' b)/\R J H'
theorem Nj{M:Model}{A:eu}{E:Value->az->Prop}{s:az}{tg:Expr}{it:Addr}{u:Value}{o:Obj}{n:String}{vs:Array Value}{Q:Unit->az->Prop}(ho:s.heap.get? it=some o)(hc:o.cls=.type n)(hd:o.data=.fields vs)
    (hn:["enumerate","zip","dict_itemiterator","dict_reverseitemiterator","odict_iterator","itertools.zip_longest","itertools.pairwise"].contains n=false) (hQ:Q () s):wpAny M A (Ar tg (.ref it) u) Q E s:=by
  unfold Ar;cases tg <;> first
    | exact aq hQ
    | (cases u <;> first
        | exact aq hQ
        | (refine af (wpAny_load ho ?_)
           rw [hc,hd];show wpAny M A (if (["enumerate","zip","dict_itemiterator","dict_reverseitemiterator","odict_iterator","itertools.zip_longest","itertools.pairwise"].contains n&&vs[0]? == some (rM _))=true then _ else _) Q E s;rw [if_neg (by intro h; rw [hn,sk] at h; cases h)];exact aq hQ))
def Itl(K:ak)(a:Addr):It :=
 ⟨fun i H=>∃ xs x,rW K H a xs/\xs[i]?=some x,fun i H x H'=>H'=H/\∀ xs,rW K H a xs->xs[i]?=some x,fun i H=>∃ xs,rW K H a xs/\xs.length<=i⟩
def Itt(K:ak)(a:Addr):It :=
 ⟨fun i H=>∃ xs x,BM K H a xs/\xs[i]?=some x,fun i H x H'=>H'=H/\∀ xs,BM K H a xs->xs[i]?=some x,fun i H=>∃ xs,BM K H a xs/\xs.length<=i⟩
def Itr(lo:Int)(n:Nat):It:=⟨fun i _=>i < n,fun i H x H'=>H'=H/\x=.int (lo+i),fun i _=>n<=i⟩
theorem N6{P:bT}{w:World}{K:ak}{tg:Expr}(a it:Addr):Turn P w K tg (Itl K a) [it] it (fun i h=>h.IsListIter it a i) where
 mem:=by simp
 obj:=fun i h st b hb=>by
  have e:b=it:=by simpa using hb
  subst e;obtain⟨o,e,c,d⟩:=st;exact⟨o,e,fun v z=>by rw [d] at z; cases z⟩
 keep:=fun i h h' st k=>st.at fun o e=>k it (by simp) o e
 item:=by
  intro X hP hw hK hc i ZB s σ H E I hf st hg;subst hP hw hK;obtain⟨xs,x,hq,hx⟩:=hg;obtain⟨bH,rv,p,hz⟩:=I.list hq;obtain⟨u,hu,ru⟩:=rv.get hx;obtain⟨f0,f1,f2,f3,f4,f5⟩:=hf it (by simp);refine wpAny_pyNext_list_item st p.isList (x:=u) (by simpa using hu) fun h' CZ sb=>?_;have I1:Inv X ZB σ H { s with heap:=h' }:=I.turned (t':=s.toks) (fun b o hb e=>(sb.2 b hb).trans e) f0 f1 f3 f4 f5;obtain⟨o,e,c,d⟩:=id CZ;exact⟨u,rfl,Nj (s:={ s with heap:=h' }) e c d (by decide) ⟨x,H,I1,ru,⟨rfl,fun ys hy=>by rw [I.w4 hy hq]; exact hx⟩,CZ,fun b hb=>(hf b hb).1⟩⟩
 done:=by
  intro X hP hw hK hc i ZB s σ H E I hf st hg;subst hP hw hK;obtain⟨xs,hq,hx⟩:=hg;obtain⟨bH,rv,p,hz⟩:=I.list hq;obtain⟨f0,f1,f2,f3,f4,f5⟩:=hf it (by simp);have hl:=rv.length;exact wpAny_pyNext_list_end (I.ok.hd hc) st p.isList (by simp; lia) fun h' eb=>⟨rfl,I.turned (t':=s.toks) (fun b o hb e=>eb b o hb e) f0 f1 f3 f4 f5⟩
 self:=fun _ _ _ _ _ st h=>wpAny_pyIter_listiter st h
theorem Ks{P:bT}{w:World}{K:ak}{tg:Expr}(a it:Addr):Turn P w K tg (Itt K a) [it] it (fun i h=>h.IsTupleIter it a i) where
 mem:=by simp
 obj:=fun i h st b hb=>by
  have e:b=it:=by simpa using hb
  subst e;obtain⟨o,e,c,d⟩:=st;exact⟨o,e,fun v z=>by rw [d] at z; cases z⟩
 keep:=fun i h h' st k=>st.at fun o e=>k it (by simp) o e
 item:=by
  intro X hP hw hK hc i ZB s σ H E I hf st hg;subst hP hw hK;obtain⟨xs,x,hq,hx⟩:=hg;obtain⟨bH,rv,p,hz⟩:=I.tuple hq;obtain⟨u,hu,ru⟩:=rv.get hx;obtain⟨f0,f1,f2,f3,f4,f5⟩:=hf it (by simp);refine wpAny_pyNext_tuple_item st (show s.heap.IsTuple a bH.toArray from p) (x:=u) (by simpa using hu) fun h' CZ sb=>?_;have I1:Inv X ZB σ H { s with heap:=h' }:=I.turned (t':=s.toks) (fun b o hb e=>(sb.2 b hb).trans e) f0 f1 f3 f4 f5;obtain⟨o,e,c,d⟩:=id CZ;exact⟨u,rfl,Nj (s:={ s with heap:=h' }) e c d (by decide) ⟨x,H,I1,ru,⟨rfl,fun ys hy=>by rw [I.N9 hy hq]; exact hx⟩,CZ,fun b hb=>(hf b hb).1⟩⟩
 done:=by
  intro X hP hw hK hc i ZB s σ H E I hf st hg;subst hP hw hK;obtain⟨xs,hq,hx⟩:=hg;obtain⟨bH,rv,p,hz⟩:=I.tuple hq;obtain⟨f0,f1,f2,f3,f4,f5⟩:=hf it (by simp);have hl:=rv.length;exact wpAny_pyNext_tuple_end (I.ok.hd hc) st (show s.heap.IsTuple a bH.toArray from p) (by simp; lia) fun h' eb=>⟨rfl,I.turned (t':=s.toks) (fun b o hb e=>eb b o hb e) f0 f1 f3 f4 f5⟩
 self:=fun _ _ _ _ _ st h=>wpAny_pyIter_tupleiter st h
theorem Kt{P:bT}{w:World}{K:ak}{tg:Expr}(it:Addr)(lo:Int)(n:Nat):Turn P w K tg (Itr lo n) [it] it (fun i h=>IsRangeIter h it (lo+(i:Nat) * 1) ((n:Int) - (i:Nat)) 1) where
 mem:=by simp
 obj:=fun i h st b hb=>by
  have e:b=it:=by simpa using hb
  subst e;exact⟨_,st,fun v z=>by
   have z':Data.fields _=Data.cell v:=z;cases z'⟩
 keep:=fun i h h' st k=>k it (by simp) _ st
 item:=by
  intro X hP hw hK hc i ZB s σ H E I hf st hg;subst hP hw hK;obtain⟨f0,f1,f2,f3,f4,f5⟩:=hf it (by simp);have W:=Walks.range (prog:=X.prog) (w:=X.w) (I.ok.hd hc) it lo 1 n;refine W.item i s _ _ hg st fun v h' tk hv CZ kk=>?_;obtain⟨t,rfl⟩:=hv;have I1:Inv X ZB σ H { s with heap:=h',toks:=tk }:=I.turned (fun b o hb e=>kk b o (by simpa using hb) e) f0 f1 f3 f4 f5;refine⟨_,rfl,Nj (s:={ s with heap:=h',toks:=tk }) (n:="range_iterator") CZ rfl rfl (by decide) ⟨.int (lo+i),H,I1,⟨t,?_⟩,⟨rfl,rfl⟩,CZ,fun b hb=>(hf b hb).1⟩⟩;rw [ve]
 done:=by
  intro X hP hw hK hc i ZB s σ H E I hf st hg;subst hP hw hK;obtain⟨f0,f1,f2,f3,f4,f5⟩:=hf it (by simp);exact wpAny_pyNext_range_end (I.ok.hd hc) st (by have:n<=i:=hg; lia) fun h' eb=>⟨rfl,I.turned (t':=s.toks) (fun b o hb e=>eb b o hb e) f0 f1 f3 f4 f5⟩
 self:=fun _ _ _ _ _ st h=>wpAny_pyIter_rangeiter st h
section
variable {X:Cx} {tg:Expr}
theorem QU{ZB:List (Addr×Obj)}{σ:St}{H:Hp}{s:az}{R:It->Hp->Prop}{E:Value->az->Prop}{lo hi:Int}{t u v:Tok}{tk:Nat}(I:Inv X ZB σ H s)(h1:-(2 ^ 62)<=lo)(h2:lo < 2 ^ 62)(h3:-(2 ^ 62)<=hi)(h4:hi < 2 ^ 62)
  (q:R (Itr lo (hi - lo).toNat) H):wpAny (model X.prog X.w) X.A (CM (.ref s.heap.objs.size)) (PIE X ZB σ tg R) E { s with heap:=s.heap.push { cls:=.type "range",data:=.fields #[.int lo t,.int hi u,.int 1 v] },toks:=tk }:=by
 refine wpAny_pyIter_range (IsRange.new ..) (small_one h1 h2 h3 h4) ?_;have I1:Inv X ZB σ H { s with heap:=s.heap.push { cls:=.type "range",data:=.fields #[.int lo t,.int hi u,.int 1 v] },toks:=tk }:=I.kept fun b o e=>aN _ e
 refine⟨(s.heap.push { cls:=.type "range",data:=.fields #[.int lo t,.int hi u,.int 1 v] }).objs.size,[(s.heap.push { cls:=.type "range",data:=.fields #[.int lo t,.int hi u,.int 1 v] }).objs.size],_,_,H,rfl,
  I1.kept (t':=tk) fun b o e=>aN _ e,Kt _ lo (hi - lo).toNat,?_,fun b hb=>?_,q⟩
 ·have e1:lo+((0:Nat):Int) * 1=lo:=by simp
  have e2:(((hi - lo).toNat:Nat):Int) - ((0:Nat):Int)=Cd lo hi 1:=by rw [rangeSize_one]; split <;> lia
  show IsRangeIter _ _ (lo+((0:Nat):Int) * 1) ((((hi - lo).toNat:Nat):Int) - ((0:Nat):Int)) 1;rw [e1,e2];exact br _ rfl
 ·have e:b=(s.heap.push { cls:=.type "range",data:=.fields #[.int lo t,.int hi u,.int 1 v] }).objs.size:=by simpa using hb
  subst e;exact I1.Im (aK _) (I1.cB.fresh (aK _))
def oD(fp:List Addr)(h:Heap):List (Addr×Obj):=fp.filterMap fun b=>(h.get? b).map fun o=>(b,o)
theorem lX{fp:List Addr}{h:Heap}{b:Addr}{o:Obj}(hb:b∈fp)(e:h.get? b=some o):(b,o)∈oD fp h:=List.mem_filterMap.mpr ⟨b,hb,by rw [e]; rfl⟩
theorem OH{fp:List Addr}{h:Heap}{p:Addr×Obj}(hp:p∈oD fp h):p.1∈fp/\h.get? p.1=some p.2:=by
 obtain⟨b,hb,e⟩:=List.mem_filterMap.mp hp;cases q:h.get? b with
 | none=>rw [q] at e; cases e
 | some o =>
  rw [q] at e;have e':(b,o)=p:=bN e;subst e';exact⟨hb,q⟩
theorem Inv.pinned{ZB:List (Addr×Obj)}{σ:St}{H:Hp}{s:az}{fp:List Addr}(I:Inv X ZB σ H s)(hf:∀ b∈fp,o4 X ZB H b)(ho:∀ b∈fp,∃ o,s.heap.get? b=some o/\∀ v,o.data≠.cell v):Inv X (ZB++oD fp s.heap) σ H s :=
 I.MS fun p hp=>(List.mem_append.mp hp).elim (fun z=>I.pin p (bA _ z)) fun z=>by
  obtain⟨hb,e⟩:=OH z;obtain⟨f0,f1,f2,_⟩:=hf p.1 hb;obtain⟨o,e',d⟩:=ho p.1 hb;rw [e] at e'; cases e';exact⟨e,f0,f1,f2,d⟩
theorem Inv.sJ{ZB pl:List (Addr×Obj)}{σ:St}{H:Hp}{s:az}(I:Inv X (ZB++pl) σ H s):Inv X ZB σ H s:=I.MS fun p hp=>I.pin p (bA _ (eK _ hp))
end
abbrev R2:=V->V->Hp->VK->Prop
def NU(X:Cx)(f:Value->Value->Sem Value)(r:R2):Prop :=
 ∀ (ZB:List (Addr×Obj)) (s:az) (σ:St) (H:Hp) (x y:V) (v u:Value) (Q:VK),Inv X ZB σ H s->RelV x v->RelV y u->r x y H Q ->
  wpAny (model X.prog X.w) X.A (f v u) (EP X ZB σ Q) X.xe s
def UnR(X:Cx)(f:Value->Sem Value)(r:V->Hp->VK->Prop):Prop :=
 ∀ (ZB:List (Addr×Obj)) (s:az) (σ:St) (H:Hp) (x:V) (v:Value) (Q:VK),Inv X ZB σ H s->RelV x v->r x H Q ->
  wpAny (model X.prog X.w) X.A (f v) (EP X ZB σ Q) X.xe s
def Wg(X:Cx)(f:Value)(r:List V->Hp->VK->Prop):Prop :=
 ∀ (ZB:List (Addr×Obj)) (s:az) (σ:St) (H:Hp) (xs:List V) (us:List Value) (Q:VK),Inv X ZB σ H s->Vals xs us->r xs H Q ->
  wpAny (model X.prog X.w) X.A (call f us) (EP X ZB σ Q) X.xe s
def aev(X:Cx)(r:V->Hp->(Bool->Hp->Prop)->Prop):Prop :=
 ∀ (ZB:List (Addr×Obj)) (s:az) (σ:St) (H:Hp) (x:V) (v:Value) (Q:Bool->Hp->Prop),Inv X ZB σ H s->RelV x v->r x H Q ->
  wpAny (model X.prog X.w) X.A (truthy v) (TP X ZB σ Q) X.xe s
def rI(C:Int->Int->Prop)(g:Int->Int->V):R2:=fun x y H Q=>∃ i j,x=.int i/\y=.int j/\C i j/\Q (g i j) H
def WY(g:Int->Int->V):R2:=fun x y H Q=>∃ i j,x=.int i/\y=.int j/\Q (g i j) H
def rU(g:Int->V):V->Hp->VK->Prop:=fun x H Q=>∃ i,x=.int i/\Q (g i) H
section
variable {X:Cx} {a b c:Expr} {ta tb tc:TE} {pos:Pos}
theorem opI{f:Value->Value->Sem Value}{C:Int->Int->Prop}{g:Int->Int->Int}
  (rule:∀ (i j:Int) (t u:Tok) (s:az) (Q:Value->az->Prop) (E:Value->az->Prop),C i j->Q (.int (g i j) s.toks) { s with toks:=s.toks+1 }->wpAny (model X.prog X.w) X.A (f (.int i t) (.int j u)) Q E s) :
  NU X f (rI C fun i j=>.int (g i j)):=by
 intro ZB s σ H x y v u Q I rx ry h;obtain⟨i,j,rfl,rfl,hc,q⟩:=h;obtain⟨t,rfl⟩:=rx;obtain⟨t',rfl⟩:=ry;exact rule i j t t' s _ _ hc ⟨.int (g i j),H,I.tok _,⟨_,rfl⟩,q⟩
theorem ZC{f:Value->Value->Sem Value}{g:Int->Int->Int}
  (rule:∀ (i j:Int) (t u:Tok) (s:az) (Q:Value->az->Prop) (E:Value->az->Prop),Q (.int (g i j) s.toks) { s with toks:=s.toks+1 }->wpAny (model X.prog X.w) X.A (f (.int i t) (.int j u)) Q E s) :
  NU X f (WY fun i j=>.int (g i j)):=by
 intro ZB s σ H x y v u Q I rx ry h;obtain⟨i,j,rfl,rfl,q⟩:=h;obtain⟨t,rfl⟩:=rx;obtain⟨t',rfl⟩:=ry;exact rule i j t t' s _ _ ⟨.int (g i j),H,I.tok _,⟨_,rfl⟩,q⟩
theorem Xe{f:Value->Value->Sem Value}{g:Int->Int->Bool}
  (rule:∀ (i j:Int) (t u:Tok) (s:az) (Q:Value->az->Prop) (E:Value->az->Prop),Q (.bool (g i j)) s->wpAny (model X.prog X.w) X.A (f (.int i t) (.int j u)) Q E s) :
  NU X f (WY fun i j=>.bl (g i j)):=by
 intro ZB s σ H x y v u Q I rx ry h;obtain⟨i,j,rfl,rfl,q⟩:=h;obtain⟨t,rfl⟩:=rx;obtain⟨t',rfl⟩:=ry;exact rule i j t t' s _ _ ⟨.bl (g i j),H,I,rfl,q⟩
def aeF(i j:Int):Prop:=0 < j/\j < 1073741824
def Ys(i j:Int):Prop:=(-(2 ^ 64) < i/\i < 2 ^ 64)\/(-(2 ^ 64) < j/\j < 2 ^ 64)
theorem Ys.ok{i j:Int}(h:Ys i j):IntMulOk i j:=by
 rcases h with ⟨h1,h2⟩ | ⟨h1,h2⟩
 ·exact .of_left (intBits_le_64 h1 h2)
 ·exact .of_right (intBits_le_64 h1 h2)
theorem Xd:NU X (lL .Add) (WY fun i j=>.int (i+j)):=ZC fun _ _ _ _ _ _ _ q=>add_int q
theorem W8:NU X (lL .Sub) (WY fun i j=>.int (i - j)):=ZC fun _ _ _ _ _ _ _ q=>sub_int q
theorem W9:NU X (lL .Mult) (rI Ys fun i j=>.int (i * j)):=opI fun _ _ _ _ _ _ _ hc q=>mul_int q hc.ok
theorem UU:NU X (lL .FloorDiv) (rI aeF fun i j=>.int (i / j)):=opI fun i j _ _ _ _ _ hc q=>by
 have h1:(0:Int) < j:=hc.1;have h2:j < 1073741824:=hc.2;exact floordiv_int (by lia) (by rw [Int.fdiv_eq_ediv_of_nonneg i (by lia)]; exact q) (.inl (PyProof.noPylong_small (by lia)))
theorem Xa:NU X (lL .Mod) (rI (fun _ j=>0 < j) fun i j=>.int (i % j)):=opI fun i j _ _ _ _ _ hc q=>by
 have h1:(0:Int) < j:=hc;exact mod_int' (by lia) (by rw [Int.fmod_eq_emod_of_nonneg i (by lia)]; exact q)
theorem unI{f:Value->Sem Value}{g:Int->Int}
  (rule:∀ (i:Int) (t:Tok) (s:az) (Q:Value->az->Prop) (E:Value->az->Prop),Q (.int (g i) s.toks) { s with toks:=s.toks+1 }->wpAny (model X.prog X.w) X.A (f (.int i t)) Q E s) :
  UnR X f (rU fun i=>.int (g i)):=by
 intro ZB s σ H x v Q I rx h;obtain⟨i,rfl,q⟩:=h;obtain⟨t,rfl⟩:=rx;exact rule i t s _ _ ⟨.int (g i),H,I.tok _,⟨_,rfl⟩,q⟩
theorem Wr:UnR X (unaryOp .USub) (rU fun i=>.int (-i)):=unI fun _ _ _ _ _ q=>neg_int q
end
section
variable {X:Cx} {a b c:Expr} {ta tb tc:TE} {pos:Pos}
theorem Zy:NU X (eO .Lt) (WY fun i j=>.bl (decide (i < j))):=Xe fun _ _ _ _ _ _ _ q=>lt_int q
theorem Zz:NU X (eO .LtE) (WY fun i j=>.bl (decide (i<=j))):=Xe fun _ _ _ _ _ _ _ q=>le_int q
theorem ZA:NU X (eO .Gt) (WY fun i j=>.bl (decide (j < i))):=Xe fun _ _ _ _ _ _ _ q=>gt_int q
theorem gy(b:Expr){op:CmpOp}(h:op≠.In:=by decide)(h2:op≠.NotIn:=by decide):xZ op b=false:=by
 have e1:(op == CmpOp.In)=false:=by cases op <;> first | rfl | exact absurd rfl h
 have e2:(op == CmpOp.NotIn)=false:=by cases op <;> first | rfl | exact absurd rfl h2
 cases b with
 | Set es k _ =>
  show (k == 0&&(op == .In||op == .NotIn)&&es.all (constantsAlone 8))=false;rw [e1,e2,Bool.or_false,zE,sk]
 | _=>rfl
def Yp(K:ak)(x:V)(H:Hp)(k:Bool):Prop :=
 match x with
 | .dh=>k=false
 | .bl b=>k=b
 | .int i=>k=(i != 0)
 | .str y=>y.length<=bx/\k=((y.length:Int) != 0)
 | .Yl y=>y.size<=bx/\k=((y.size:Int) != 0)
 | .ref p=>(∃ xs,rW K H p xs/\k=!xs.isEmpty)\/(∃ xs,BM K H p xs/\k=!xs.isEmpty)\/∃ WP,H p=some (.dK WP)/\k=!WP.isEmpty
 | _=>False
theorem Le{κ:Type}{WP:List (κ×V)}{vs:List (κ×Value)}(r:KV WP vs):(!vs.isEmpty)=!WP.isEmpty:=by
 cases r <;> rfl
theorem Bq{xs:List V}{bH:List Value}(r:Vals xs bH):(!bH.toArray.isEmpty)=!xs.isEmpty:=by
 cases r <;> simp
theorem Bh:(bx:Nat) < 2 ^ 63:=by rw [cC]; decide
theorem Wv:aev X (fun x H Q=>∃ k,Yp X.K x H k/\Q k H):=by
 intro ZB s σ H x v Q I rx h;obtain⟨k,e,q⟩:=h;have hl:=Bh;have hs:bx=16777216:=cC;cases x with
 | dh =>
  cases rx;have e':k=false:=e;subst e';exact truthy_none ⟨H,I,q⟩
 | bl b =>
  cases rx;have e':k=b:=e;subst e';exact pN ⟨H,I,q⟩
 | int i =>
  obtain⟨t,rfl⟩:=rx;have e':k=(i != 0):=e;subst e';exact PySem.P.truthy_int ⟨H,I,q⟩
 | str y =>
  obtain⟨t,rfl⟩:=rx;obtain⟨hy,e'⟩:y.length<=bx/\k=((y.length:Int) != 0):=e;subst e';exact PySem.P.truthy_str (by lia) ⟨H,I.tok _,q⟩
 | Yl y =>
  obtain⟨t,rfl⟩:=rx;obtain⟨hy,e'⟩:y.size<=bx/\k=((y.size:Int) != 0):=e;subst e';exact PySem.W.truthy_bytes (by lia) ⟨H,I.tok _,q⟩
 | ref p =>
  cases rx;have e':(∃ xs,rW X.K H p xs/\k=!xs.isEmpty)\/(∃ xs,BM X.K H p xs/\k=!xs.isEmpty)\/∃ WP,H p=some (.dK WP)/\k=!WP.isEmpty:=e;rcases e' with ⟨xs,hx,e'⟩ | ⟨xs,hx,e'⟩ | ⟨WP,hx,e'⟩
  ·subst e';obtain⟨bH,r,pl,hz⟩:=I.list hx;have hlen:=r.length;exact wpAny_truthy_list pl.isList (by simp only [a8]; lia) ⟨H,I.tok _,by rw [Bq r]; exact q⟩
  ·subst e';obtain⟨bH,r,pl,hz⟩:=I.tuple hx;have hlen:=r.length;exact truthy_tuple pl (by simp only [a8]; lia) ⟨H,I.tok _,by rw [Bq r]; exact q⟩
  ·subst e';obtain⟨hz,hS,vs,r,m⟩:WP.length<=bx/\(p == fv)=false/\∃ vs,KV WP vs/\s.heap.DictOf (cA X.prog X.w) p vs:=I.cB p _ hx;have hlen:WP.length=vs.length:=gX r;exact JI hS m (by lia) ⟨H,I.tok _,by rw [Le r]; exact q⟩
 | _=>exact(show False from e).elim
theorem KW:NU X (lL .Add) (fun x y H Q=>∃ i j,x=.str i/\y=.str j/\i.length+j.length<=bx/\Q (.str (i++j)) H):=by
 intro ZB s σ H x y v u Q I rx ry h;obtain⟨i,j,rfl,rfl,hz,q⟩:=h;obtain⟨t,rfl⟩:=rx;obtain⟨t',rfl⟩:=ry;exact add_str (fun t' tk=>⟨.str (i++j),H,I.tok _,⟨_,rfl⟩,q⟩) hz
theorem vals1{x:V}{us:List Value}(r:Vals [x] us):∃ u,us=[u]/\RelV x u:=by
 cases r with
 | cons r1 r2=>cases r2; exact⟨_,rfl,r1⟩
theorem vals2{x y:V}{us:List Value}(r:Vals [x,y] us):∃ u w',us=[u,w']/\RelV x u/\RelV y w':=by
 cases r with
 | cons r1 r2 =>
  cases r2 with
  | cons r3 r4=>cases r4; exact⟨_,_,rfl,r1,r3⟩
def aaZ(K:ak)(x:V)(H:Hp)(n:Nat):Prop :=
 match x with
 | .str y=>y.length<=bx/\n=y.length
 | .Yl y=>y.size<=bx/\n=y.size
 | .ref p=>(∃ xs,rW K H p xs/\n=xs.length)\/∃ xs,BM K H p xs/\n=xs.length
 | _=>False
theorem S0:Wg X (.builtin "len") (fun xs H Q=>∃ x n,xs=[x]/\aaZ X.K x H n/\Q (.int n) H):=by
 intro ZB s σ H xs us Q I r h;obtain⟨x,n,rfl,e,q⟩:=h;obtain⟨u,rfl,rx⟩:=vals1 r;have hl:=Bh;have hs:bx=16777216:=cC;cases x with
 | str y =>
  obtain⟨t,rfl⟩:=rx;obtain⟨hy,e'⟩:y.length<=bx/\n=y.length:=e;subst e';exact len_str (by lia) ⟨.int _,H,I.tok _,⟨_,rfl⟩,q⟩
 | Yl y =>
  obtain⟨t,rfl⟩:=rx;obtain⟨hy,e'⟩:y.size<=bx/\n=y.size:=e;subst e';exact PySem.W.len_bytes (by lia) ⟨.int _,H,I.tok _,⟨_,rfl⟩,q⟩
 | ref p =>
  cases rx;have e':(∃ xs,rW X.K H p xs/\n=xs.length)\/∃ xs,BM X.K H p xs/\n=xs.length:=e;rcases e' with ⟨xs,hx,e'⟩ | ⟨xs,hx,e'⟩
  ·subst e';obtain⟨bH,r',pl,hz⟩:=I.list hx;have hlen:=r'.length;exact Calls.call_len_list pl.isList (by simp only [a8]; lia) ⟨.int xs.length,H,I.tok _,⟨_,by simp only [a8]; rw [hlen]⟩,q⟩
  ·subst e';obtain⟨bH,r',pl,hz⟩:=I.tuple hx;have hlen:=r'.length;exact len_tuple pl (by simp only [a8]; lia) ⟨.int xs.length,H,I.tok _,⟨_,by simp only [a8]; rw [hlen]⟩,q⟩
 | _=>exact(show False from e).elim
end
structure ajX(h:Heap)(x dx C:Addr)(mA:Str->Option Value):Prop where
 obj:h.get? x=some (PySem.W.instObj C dx)
 ns:h.Ns1 dx mA
 ne:dx≠x
theorem CG.some_of{v:V}{o:Option Value}(r:CG (some v) o):∃ u,o=some u/\RelV v u:=by
 cases o with
 | none=>exact(show False from r).elim
 | some u=>exact⟨u,rfl,r⟩
structure Cls(K:ak)(C:Addr):Prop where
 pg:PySem.W.plainGet K C Str.empty=true
 hd:PySem.W.hasDictIn K C=true
 po:PySem.W.plainOver K C=true
 sa:e7 K (.ref C) "__setattr__" = some (some (.builtin "object.__setattr__"))
structure Con(K:ak)(C:Addr)(f:Str)(v:V)(u:Value):Prop where
 at_:e7 K (.ref C) f=some (some u)
 rel:RelV v u
 get:mU K u "__get__" = some none
 cp:PySem.W.copiedNames.contains f=false
structure Meth(K:ak)(C:Addr)(m:Str)(f:Addr):Prop where
 at_:e7 K (.ref C) m=some (some (.ref f))
 fn:PySem.W.isFn K (.ref f)=true
 kp:ji K (.ref f)=true
section
variable {X:Cx} {ZB:List (Addr×Obj)} {σ:St} {H:Hp} {s:az} {A:eu} {E:Value->az->Prop} {Q:Value->az->Prop} {c:Value} {b:Bool}
inductive BL (K:ak) (H:Hp):V->Value->Prop where
 | dh:BL K H .dh (.type "NoneType")
 | bl (x:Bool):BL K H (.bl x) (.type "bool")
 | int (i:Int):BL K H (.int i) (.type "int")
 | str (x:Str):BL K H (.str x) (.type "str")
 | flt (x:UInt64):BL K H (.flt x) (.type "float")
 | lst {a:Addr} {xs:List V} (e:H a=some (.lst xs)):BL K H (.ref a) (.type "list")
 | lB {a:Addr} {o:Obj} {xs:List V} (e:H a=some (.lB o (.lst xs))):BL K H (.ref a) (.type "list")
 | tup {a:Addr} {xs:List V} (e:H a=some (.tup xs)):BL K H (.ref a) (.type "tuple")
 | dK {a:Addr} {WP:List (Key×V)} (e:H a=some (.dK WP)):BL K H (.ref a) (.type "dict")
 | dT {a:Addr} {WP:List (List Key×V)} (e:H a=some (.dT WP)):BL K H (.ref a) (.type "dict")
 | ins {a C dx:Addr} {fs:List (Str×V)} (e:H a=some (.ins C dx fs)) (cl:Cls K C) (ha:e7 K (.ref C) "__class__" = some (some (.builtin "object.__class__")))
   (hn:mU K (.builtin "object.__class__") "__get__" = some (some (.builtin "getset_descriptor.__get__"))) (htk:vc K (.builtin "object.__class__")=some true)
   (hm:lO K C (.type "object")=some true):BL K H (.ref a) (.ref C)
end
structure lM(k:Nat)(A:eu):Prop where
 hd:A.handled=none
 dp:A.depth+3 * k+5 < recursionLimit
 un:A.units+16 * k+200 < cLine
theorem lM.mono{j k:Nat}{A:eu}(r:lM k A)(h:j<=k):lM j A:=⟨r.hd,by have:=r.dp; lia,by have:=r.un; lia⟩
theorem lM.deeper{k:Nat}{A:eu}(r:lM (k+1) A)(env:Env):lM k (A.deeper env) :=
 ⟨r.hd,by have:=r.dp; show A.depth+1+3 * k+5 < _; lia,by have:=r.un; show A.units+3+16 * k+200 < _; lia⟩
theorem lM.depth{k:Nat}{A:eu}(r:lM k A):A.depth < recursionLimit:=by have:=r.dp; lia
theorem lM.units{k:Nat}{A:eu}(r:lM k A):A.units+64 < cLine:=by have:=r.un; lia
theorem lM.Qo{k:Nat}{A:eu}(r:lM k A):A.units < cLine:=by have:=r.un; lia
abbrev Sp:=List V->Hp->VK->XK->Prop
abbrev PC:=List Env->Hp->az->XK->Value->az->Prop
structure Tn(P:bT)(w:World)(K:ak)(mg:Str->Option Value)(base:Heap)(A:eu)(outer:List Env)(s:az)(H:Hp):Prop where
 frames:A.frames=some outer
 mod:Mod K mg base
 bs:∀ b o,base.get? b=some o->s.heap.get? b=some o/\H b=none
 S5:base.objs.size<=s.heap.objs.size
 yB:s.heap.FunFrames base outer
 TX:∀ b∈uI outer,H b=none
 cB:sf P w H s.heap
 bare:AA s.gens
def CE(outer:List Env)(P:bT)(w:World)(H:Hp)(s:az)(Q:VK)(u:Value)(s':az):Prop :=
 ∃ v H',s'.os=s.os/\AA s'.gens/\Un (uI outer) [] H H' s.heap s'.heap/\sf P w H' s'.heap/\RelV v u/\Q v H'
def CR(CX:PC)(outer:List Env)(P:bT)(w:World)(H:Hp)(s:az)(Q:VK)(E:XK)(r:Result)(s':az):Prop :=
 match r with
 | .ok (.ret u)=>CE outer P w H s Q u s'
 | .ok _=>False
 | .error e=>CX outer H s E e s'
structure gf(P:bT)(w:World)(K:ak)(mg:Str->Option Value)(base:Heap)(CX:PC)(k:Nat)(f:Addr)(fd:aG)(ps:List Str)(sp:Sp):Prop where
 len:∀ vs H Q E,sp vs H Q E->vs.length=ps.length
 run:∀ (A:eu) (outer:List Env) (s:az) (H:Hp) (args:Args) (us:List Value) (vs:List V) (Q:VK) (E:XK),lM k A->Tn P w K mg base A outer s H->Qh s fd args (ps.zip us)->Vals vs us->sp vs H Q E ->
  xY (model P w) A (.call (.ref f) args) (CR CX outer P w H s Q E) s
section
variable {X:Cx} {ZB:List (Addr×Obj)} {σ:St} {H:Hp} {s s':az}
theorem Inv.aaH(I:Inv X ZB σ H s):Tn X.prog X.w X.K X.mg X.base X.A X.stack s H :=
 ⟨I.ok.frames,I.ok.mod,I.bs,cw I.ok.S5 I.sz,I.stack,I.Ew,I.cB,I.bare⟩
theorem Inv.after{Q:VK}{u:Value}(I:Inv X ZB σ H s)(h:CE X.stack X.prog X.w H s Q u s'):EP X ZB σ Q u s':=by
 obtain⟨v,H',os,bare,un,cB,r,q⟩:=h;obtain⟨hh,g,d,t,Zw⟩:=s';obtain rfl:Zw=s.os:=os;exact⟨v,H',I.call (h':=hh) (g':=g) (d':=d) (t':=t) (ch:=[]) un cB bare (fun b z=>absurd z (by simp)),r,q⟩
end
def Binds(K:ak)(fd:aG)(ps:List Str)(ds:List Value):Prop :=
 ∀ (s:az) (us:List Value),K.In s.heap->(us++ds).length=ps.length->Qh s fd ⟨us,[]⟩ (ps.zip (us++ds))
theorem Binds.all{K:ak}{fd:aG}{ps:List Str}(h:∀ us:List Value,us.length=ps.length->bindArgs fd ⟨us,[]⟩=pure (ps.zip us)):Binds K fd ps []:=fun s us _ hl=>by
 rw [bL] at hl ⊢;exact .of_eq (h us hl)
def Passes(CX:PC)(X:Cx)(E:XK):Prop:=∀ (ZB:List (Addr×Obj)) (σ:St) (H:Hp) (s:az) (e:Value) (s':az),Inv X ZB σ H s->CX X.stack H s E e s'->X.xe e s'
section
variable {X:Cx} {CX:PC} {k:Nat} {f C:Addr} {fd:aG} {ps:List Str} {sp:Sp} {dvs:List V} {ds:List Value} {E:XK} {x m:Str} {p pos apos:Pos} {e o:Expr} {es:List Expr} {ta:TE} {t:TA}
theorem QJ{ZB:List (Addr×Obj)}{σ:St}{H:Hp}{s:az}{Q:VK}{us:List Value}{vs:List V}(F:gf X.prog X.w X.K X.mg X.base CX k f fd ps sp)(hr:lM k X.A)(hb:Binds X.K fd ps ds)(hd:Vals dvs ds)(hx:Passes CX X E)
  (I:Inv X ZB σ H s) (r:Vals vs us) (h:sp (vs++dvs) H Q E):wpAny (model X.prog X.w) X.A (call (.ref f) us) (EP X ZB σ Q) X.xe s:=by
 have r2:Vals (vs++dvs) (us++ds):=r.append hd;have hl:(us++ds).length=ps.length:=by rw [<-r2.length]; exact F.len _ _ _ _ h
 refine JK (p9 (F.run X.A X.stack s H ⟨us,[]⟩ (us++ds) (vs++dvs) Q E hr I.aaH (hb s us I.B5 hl) r2 h) fun r s' hq=>?_);cases r with
 | error e=>exact hx ZB σ H s e s' I hq
 | ok fl =>
  cases fl with
  | ret u=>exact I.after hq
  | next=>exact bY hq
  | brk=>exact bY hq
  | cont=>exact bY hq
structure Mk(K:ak)(C f:Addr):Prop where
 makes:PySem.W.makesIn K C=true
 init:e7 K (.ref C) "__init__" = some (some (.ref f))
 fn:PySem.W.isFn K (.ref f)=true
 kp:ji K (.ref C)=true
end
section
variable {X:Cx} {CX:PC} {k:Nat} {f C:Addr} {fd:aG} {ps ks:List Str} {sp:Sp} {E:XK} {x m:Str} {p pos apos agV:Pos} {e o:Expr} {es:List Expr} {kws:List Qg} {te ta:TE} {t tk:TA} {nm:Option Str}
structure aez(K:ak)(fd:aG)(ps ks:List Str)(g:List Value->List Value->List Value)(gV:List V->List V->List V):Prop where
 to:∀ (s:az) (us ws:List Value),K.In s.heap->(g us ws).length=ps.length->Qh s fd ⟨us,ks.zip ws⟩ (ps.zip (g us ws))
 rel:∀ {vs:List V} {us:List Value} {zs:List V} {ws:List Value},Vals vs us->Vals zs ws->Vals (gV vs zs) (g us ws)
variable {g:List Value->List Value->List Value} {gV:List V->List V->List V}
end
structure cx(N P:List Str)(sc:Scope):Prop where
 kind:sc.kind=.function
 co:sc.isCoroutine=false
 gen:sc.isGenerator=false
 nd:N.Nodup
 pre:N.take P.length=P
 par:∀ x∈P,sc.names.lookup x=some .local\/sc.names.lookup x=some .cell
 Xk:∀ y∈sc.names,y.2≠.free
theorem DR{kindOf:Str->Option uO}{x:Str}:∀ {binds:List (Str×Value)} {m:Str->Option Value},(∀ v,(x,v)∉binds)->bindL kindOf binds m x=m x
 | [],_,_=>rfl
 | (n,v) :: r,m,h=>by
  unfold bindL;rw [DR fun w hw=>h w (ax _ hw)];split
  ·have:x≠n:=by rintro rfl; exact h v aA
   simp [this]
  ·rfl
theorem DT{kindOf:Str->Option uO}{x:Str}:∀ {binds:List (Str×Value)} {m:Str->Option Value},(∀ v,(x,v)∉binds)->bindC kindOf binds m x=m x
 | [],_,_=>rfl
 | (n,v) :: r,m,h=>by
  unfold bindC;rw [DT fun w hw=>h w (ax _ hw)];split
  ·rfl
  ·have:x≠n:=by rintro rfl; exact h v aA
   simp [this]
theorem DS{kindOf:Str->Option uO}{x:Str}{v:Value}:∀ {P:List Str} {vs:List Value} {i:Nat} {m:Str->Option Value},P.Nodup->P[i]?=some x->vs[i]?=some v->kindOf x=some .local ->
  bindL kindOf (P.zip vs) m x=some v
 | [],_,_,_,_,h,_,_=>by simp at h
 | _ :: _,[],_,_,_,_,h,_=>by simp at h
 | p :: P,w :: vs,0,m,nd,h1,h2,hk=>by
  simp at h1 h2; subst h1; subst h2;show bindL kindOf ((p,w) :: P.zip vs) m p=_;unfold bindL;rw [DR fun v hv=>(List.nodup_cons.mp nd).1 (Jx hv).1,if_pos hk];simp
 | p :: P,w :: vs,i+1,m,nd,h1,h2,hk=>by
  show bindL kindOf ((p,w) :: P.zip vs) m x=_;unfold bindL;exact DS (i:=i) (List.nodup_cons.mp nd).2 (by simpa using h1) (by simpa using h2) hk
theorem DU{kindOf:Str->Option uO}{x:Str}{v:Value}:∀ {P:List Str} {vs:List Value} {i:Nat} {m:Str->Option Value},P.Nodup->P[i]?=some x->vs[i]?=some v->kindOf x≠some .local ->
  bindC kindOf (P.zip vs) m x=some v
 | [],_,_,_,_,h,_,_=>by simp at h
 | _ :: _,[],_,_,_,_,h,_=>by simp at h
 | p :: P,w :: vs,0,m,nd,h1,h2,hk=>by
  simp at h1 h2; subst h1; subst h2;show bindC kindOf ((p,w) :: P.zip vs) m p=_;unfold bindC;rw [DT fun v hv=>(List.nodup_cons.mp nd).1 (Jx hv).1,if_neg hk];simp
 | p :: P,w :: vs,i+1,m,nd,h1,h2,hk=>by
  show bindC kindOf ((p,w) :: P.zip vs) m x=_;unfold bindC;exact DU (i:=i) (List.nodup_cons.mp nd).2 (by simpa using h1) (by simpa using h2) hk
def start(N:List Str)(vs:List V):St:=vs.map some++aI (N.length - vs.length) none
def yP(CX:PC)(P:bT)(w:World)(K:ak)(mg:Str->Option Value)(base:Heap)(N:List Str)(qual:Str)(scope:Scope)(f:Addr)(cd:Value)(A:eu)(outer:List Env)(s:az)(H:Hp)(E:XK):Cx where
 prog:=P
 w:=w
 K:=K
 mg:=mg
 base:=base
 A:=A.deeper (Au qual scope s.heap.objs.size f cd)
 N:=N
 jv:=s
 PA:=H
 env:=Au qual scope s.heap.objs.size f cd
 outer:=outer
 stack:=Au qual scope s.heap.objs.size f cd :: outer
 ex:=[]
 calm:=true
 fn:=fun _=>true
 pn:=[]
 xe:=fun e s'=>wpAny (model P w) (A.deeper (Au qual scope s.heap.objs.size f cd)) (leaving (Au qual scope s.heap.objs.size f cd) e) (fun _ WN=>CX outer H s E e WN) (fun e' WN=>CX outer H s E e' WN) s'
theorem IZ{sc:Scope}{n:Nat}{x:Str}(h:sc.names.lookup x=some .cell):∃ c,(cellsFrom n sc.names []).lookup x=some c:=by
 have q:=Me sc.names n [] (.inl h);exact Option.isSome_iff_exists.mp q
theorem OV{CX:PC}{P:bT}{w:World}{K:ak}{mg:Str->Option Value}{base:Heap}{N ps:List Str}{qual:Str}{scope:Scope}{f:Addr}{cd:Value}{A:eu}{outer:List Env}{s s1:az}{H:Hp}{E:XK}{us:List Value}{vs:List V}
  (S:cx N ps scope) (hd:A.handled=none) (e0:Tn P w K mg base A outer s H) (hl:vs.length=ps.length) (r:Vals vs us)
  (x:InCallC s s.heap.objs.size (bindL (Au qual scope s.heap.objs.size f cd).kindOf (ps.zip us) fun _=>none) (cellsFrom (s.heap.objs.size+1) scope.names []) (bindC (Au qual scope s.heap.objs.size f cd).kindOf (ps.zip us) fun _=>none) s1) :
  Inv (yP CX P w K mg base N qual scope f cd A outer s H E) [] (start N vs) H s1:=by
 have Bt:ps.length<=N.length:=by have:=congrArg dF S.pre; rw [eA] at this; lia
 obtain⟨h1,tk,rfl,hk⟩:=x.done;have ZM:∀ b:Addr,b∉(yP CX P w K mg base N qual scope f cd A outer s H E).ex:=fun b z=>absurd (show b∈([]:List Addr) from z) (by simp);refine⟨⟨e0.mod,S.kind,rfl,rfl,aK _,fun y z c h1 h2=>?_,fun y hy=>?_,fun y c _ h=>?_,fun _=>hd,Around.frames_deeper e0.frames,.inr ⟨rfl,rfl⟩,fun b z=>absurd z (ZM b),e0.bs,e0.S5,fun b _ _=>ZM b,fun b z=>absurd z (ZM b),e0.yB,e0.TX⟩,
  rfl,e0.bare,Un.kept hk,⟨_,x.toInCall.ns,fun i y v h1 h2 h3=>?_⟩,fun y c h=>⟨_,x.cell y c h⟩,e0.cB.fresh (aK _),fun y c h=>?_,fun p hp=>absurd (show p∈([]:List (Addr×Obj)) from hp) (by simp),e0.cB.kept hk,?_⟩
 ·exact name_of_addr x.apart (je h1) (je h2)
 ·have hy:scope.names.lookup y=some .cell\/scope.names.lookup y=some .free:=hy;rcases hy with hy | hy
  ·exact IZ hy
  ·exact absurd rfl (S.Xk _ (je hy))
 ·exact x9 (x.above y c (je h))
 ·have hi:i < vs.length:=by
   unfold start at h2;by_cases hi:i < vs.length
   ·exact hi
   ·rw [cE (by simpa using hi)] at h2;rw [gZ] at h2;split at h2 <;> cases h2
  have ha:vs[i]?=some v:=by
   unfold start at h2;rw [dG (by simpa using hi),bu] at h2;cases e:vs[i]? with
   | none=>rw [e] at h2; cases h2
   | some a=>rw [e] at h2; cases h2; rfl
  obtain⟨u,hu,rv⟩:=r.get ha;have hp:ps[i]?=some y:=by
   rw [<-S.pre,lP (by lia)]; exact h1
  have ndP:ps.Nodup:=by rw [<-S.pre]; exact S.nd.sublist (List.take_sublist _ _)
  refine⟨u,rv,?_⟩;rcases S.par y (dJ hp) with k | k
  ·exact .inl ⟨k,DS ndP hp hu k⟩
  ·obtain⟨c,e⟩:=IZ (n:=s.heap.objs.size+1) k;refine .inr ⟨.inl k,c,e,?_⟩;have q:=x.cell y c e;rw [DU ndP hp hu (by show scope.names.lookup y≠_; rw [k]; decide)] at q;exact q
 ·exact e0.cB.fresh (x9 (x.above y c (je h)))
 ·unfold start;show _=N.length;rw [aw,ag,bE];lia
theorem V6{CX:PC}{P:bT}{w:World}{K:ak}{mg:Str->Option Value}{base:Heap}{k:Nat}{f:Addr}{name qual:Str}{params:Arguments}{body:List Stmt}{scope:Scope}{dV kV doc pm oh ct oc:Value}{an od:Option Addr}
  {PS:Array (Option Value)} {N ps:List Str} {sp:Sp} (lk:K.lookup f=some ⟨oc,od,.func (lH name qual params body scope dV kV doc pm an oh ct),PS⟩) (Gs:GF K oh qual=true) (S:cx N ps scope)
  (len:∀ vs H Q E,sp vs H Q E->vs.length=ps.length)
  (Sb:∀ (A:eu) (outer:List Env) (s:az) (H:Hp) (vs:List V) (Q:VK) (E:XK),lM k (A.deeper (Au qual scope s.heap.objs.size f oh))->sp vs H Q E ->
   ∃ t,YO (yP CX P w K mg base N qual scope f oh A outer s H E) body t/\t { nx:=fun _ H'=>Q .dh H',rt:=Q } (start N vs) H) :
  gf P w K mg base CX (k+1) f (lH name qual params body scope dV kV doc pm an oh ct) ps sp:=by
 refine⟨len,fun A outer s H args us vs Q E hr e0 hb r RS=>?_⟩;have hl:=len _ _ _ _ RS;have KX:K.In s.heap:=e0.mod.RC.keeps fun b o e=>(e0.bs b o e).1;have lim:s.heap.NoLimit:=e0.mod.nolimit.keeps fun b o e=>(e0.bs b o e).1;have Dy:∀ y∈ps.zip us,scope.names.lookup y.1=some .local\/(scope.names.lookup y.1=some .cell/\((cellsFrom (s.heap.objs.size+1) scope.names []).lookup y.1).isSome=true):=fun ⟨n,v⟩ hy=>by
  rcases S.par n (Jx hy).1 with q | q
  ·exact .inl q
  ·exact .inr ⟨q,Me _ _ _ (.inl q)⟩
 refine codeAny_call_function hr.depth (KX _ _ lk) rfl S.co S.gen rfl (PySem.W.codeRec_of KX Gs) (hb _ _ _ _ ?_);refine wpAny_newFunctionEnv_cells S.kind Dy fun env he s1 x=>?_;subst he;refine⟨lim.keeps x.toInCall.keep,codeAny_func ?_⟩;obtain⟨t,ht,hq⟩:=Sb A outer s H vs Q E (hr.deeper _) RS;have I:Inv (yP CX P w K mg base N qual scope f oh A outer s H E) [] (start N vs) H s1:=OV S hr.hd e0 hl r x;refine jq (ht [] s1 (start N vs) H _ I hq) (fun fl s' hs=>?_) fun e s' hs=>hs;have fin:∀ {j5:St} {H':Hp} {v:V} {u:Value},Inv (yP CX P w K mg base N qual scope f oh A outer s H E) [] j5 H' s'->RelV v u->Q v H'->CE outer P w H s Q u s' :=
  fun {j5 H' v u} J rv q=>⟨v,H',J.os,J.bare,J.base,J.cB,rv,q⟩
 cases fl with
 | ret u =>
  obtain⟨v,j5,H',J,rv,q⟩:=hs;exact fin J rv q
 | next =>
  obtain⟨j5,H',J,q⟩:=hs;exact fin (v:=V.dh) (u:=eX) J rfl q
 | brk =>
  obtain⟨_,_,_,q⟩:=hs;exact bY q
 | cont =>
  obtain⟨_,_,_,q⟩:=hs;exact bY q
end L2
namespace HT
open PySem PyProof.Rows
def lexLt:List Int->List Int->Bool
 | [],[]=>false
 | [],_ :: _=>true
 | _ :: _,[]=>false
 | x :: xs,y :: ys=>if x=y then lexLt xs ys else decide (x < y)
theorem Lc(x y:Int)(xs ys:List Int):lexLt (x :: xs) (y :: ys)=if x=y then lexLt xs ys else decide (x < y):=rfl
theorem Ck:lexLt [] []=false:=rfl
theorem Bk(y:Int)(ys:List Int):lexLt [] (y :: ys)=true:=rfl
theorem Bl(x:Int)(xs:List Int):lexLt (x :: xs) []=false:=rfl
theorem Sy(A:eu)(s:az)(a:Int)(t:Tok)(c:Int)(u:Tok):∃ e,SeqAt.EqAt A s (.int a t) (.int c u) e/\(e=true↔a=c) :=
 ⟨(a == c),SeqAt.EqAt.int_int a t c u,by simp⟩
theorem Ho(A:eu)(s:az)(a:Int)(t:Tok)(c:Int)(u:Tok)(prog:bT)(w:World)(E:Value->az->Prop)(Q:Value->az->Prop)(h:Q (.bool (decide (a < c))) s) :
  wpAny (model prog w) A (richCompare .Lt (.int a t) (.int c u)) Q E s :=
 (PyProof.Rows.lt_int h:wpAny (model prog w) A (eO .Lt (.int a t) (.int c u)) Q E s)
section
open PySem.SeqAt
open PySem.AutoSeq1 (wpAny_loadPart')
open PySem.MeetsSeq PySem.MeetsSeq2 PySem.MeetsSeq3
theorem Cf(l b:Addr)(W1 pT:Array Value)(n n2:Nat)(dd ND:Option Addr)(sl Hb:Array (Option Value))(ns ms:List Int)(hi:qH W1.toList ns)(hj:qH pT.toList ms) :
  Meets (Builtin.«tuple.__lt__» ⟨[.ref l,.ref b],[]⟩)
   (fun _ R s=>s.heap.get? l=some { cls:=.type "tuple",dict:=dd,data:=.seq W1 n,slots:=sl }/\s.heap.get? b=some { cls:=.type "tuple",dict:=ND,data:=.seq pT n2,slots:=Hb } /\
    R (.ok (.ret (.bool (lexLt ns ms)))) s) :=
 .of_wp fun prog w A R s h=>by
  obtain⟨hp,g,d,tk,os⟩:=s; obtain⟨hl,hb,h⟩:=h;have f2:=rN;have z1:W1.size=ns.length:=by rw [<-hi.length]; simp
  have z2:pT.size=ms.length:=by rw [<-hj.length]; simp
  wp_walk using cH hl,cH hb,j9 _ (fun rest b s'=>b.1=none/\s'=⟨hp,g,d,tk,os⟩/\∃ (vs ws:List Value) (Yy YB:List Int),rest=vs.zip ws /\
   qH vs Yy/\qH ws YB/\Yy.length+pT.size=YB.length+W1.size/\R (.ok (.ret (.bool (lexLt Yy YB)))) ⟨hp,g,d,tk,os⟩) _
  case turn =>
   rintro⟨y,x⟩ rest b s' ⟨Ii,rfl,vs,ws,Yy,YB,hz,YE,hwi,hlen,hR⟩;cases YE with
   | nil=>rw [List.zip_nil_left] at hz; cases hz
   | cons a t adw =>
    cases hwi with
    | nil=>rw [List.zip_nil_right] at hz; cases hz
    | cons c u adt =>
     rw [List.zip_cons_cons] at hz;injection hz with hyx RW
     injection hyx with hy hx
     subst hy hx;rw [Lc] at hR;simp only [aj] at hlen;obtain⟨e,he,aai⟩:=Sy A.in1 ⟨hp,g,d,tk,os⟩ a t c u;refine af (he prog w _ _ ?_);cases e with
     | true =>
      rw [if_pos (aai.mp rfl)] at hR
      wp_walk
      exact⟨rfl,rfl,_,_,_,_,RW,adw,adt,by lia,hR⟩
     | false =>
      rw [if_neg (fun q=>absurd (aai.mpr q) eV)] at hR;have Z8:=Ho A.in1 ⟨hp,g,d,tk,os⟩ a t c u prog w
      wp_walk using Z8
      exact⟨_,rfl,by simpa using hR⟩
  case fin =>
   rintro⟨b1,b2⟩ s' ⟨Ii,rfl,vs,ws,Yy,YB,hz,YE,hwi,hlen,hR⟩;simp only at Ii;subst Ii;have hv:lexLt Yy YB=decide (W1.size < pT.size):=by
    cases YE with
    | nil =>
     cases hwi with
     | nil =>
      simp only [ay] at hlen;rw [Ck];exact(decide_eq_false (by lia)).symm
     | cons c u hw =>
      simp only [ay,aj] at hlen;rw [Bk];exact(decide_eq_true (by lia)).symm
    | cons a t hv =>
     cases hwi with
     | nil =>
      simp only [ay,aj] at hlen;rw [Bl];exact(decide_eq_false (by lia)).symm
     | cons c u hw =>
      rw [List.zip_cons_cons] at hz;cases hz
   rw [hv] at hR
   wp_walk
   exact⟨_,rfl,by simpa [wd] using hR⟩
  case h =>
   exact⟨rfl,rfl,W1.toList,pT.toList,ns,ms,rfl,hi,hj,by lia,h⟩
end
section
variable {prog:bT} {w:World} {A:eu} {E:Value->az->Prop} {s:az}
theorem K8{l b:Addr}{W1 pT:Array Value}{ns ms:List Int}{Q:Value->az->Prop}(hl:IsTup s.heap l W1)(hb:IsTup s.heap b pT)(hi:qH W1.toList ns)(hj:qH pT.toList ms)
  (hu:A.units < cLine) (h:Q (.bool (lexLt ns ms)) s):wpAny (model prog w) A (eO .Lt (.ref l) (.ref b)) Q E s:=by
 obtain⟨⟨cls,dd,data,sl⟩,ho,hc,n,hd⟩:=id hl;obtain⟨⟨SX,ND,data2,Hb⟩,Ib,Ih,n2,hd2⟩:=id hb;simp only at hc hd Ih hd2;subst hc hd Ih hd2;exact zx (op:=.Lt) ⟨_,ho,rfl⟩ ⟨_,Ib,rfl⟩ nG uw (sD _ _) (Cf l b W1 pT n n2 dd ND sl Hb ns ms hi hj)
  ⟨ho,Ib,show B9 (lexLt ns ms)≠Value.notImplemented/\Q (.bool (lexLt ns ms)) s from⟨(fun x=>nomatch x),h⟩⟩ hu
theorem Vy{t b:Addr}{vs ws:List Value}{Q:Value->az->Prop}(ht:IsTup s.heap t vs.toArray)(hb:IsTup s.heap b ws.toArray)(hv:vs≠[])
  (h1:ws=[]->Q (.ref t) s) (h2:ws≠[]->Q (.ref s.heap.objs.size) { s with heap:=s.heap.push { cls:=.type "tuple",data:=.seq (vs++ws).toArray } })
  (hsz:vs.length+ws.length<=bx):wpAny (model prog w) A (lL .Add (.ref t) (.ref b)) Q E s:=by
 obtain⟨⟨cls,dd,data,sl⟩,ho,hc,n,hd⟩:=id ht;obtain⟨⟨SX,ND,data2,Hb⟩,Ib,Ih,n2,hd2⟩:=id hb;simp only at hc hd Ih hd2;subst hc hd Ih hd2;have e:vs.toArray++ws.toArray=(vs++ws).toArray:=by simp
 by_cases hw:ws=[]
 ·exact concat_meets ⟨_,ho,rfl⟩ ⟨_,Ib,rfl⟩ noFill_tuple_add seq_tuple_add Mf JT (Jw _ _)
   (tuple_addW1 t b vs.toArray ws.toArray n n2 dd ND sl Hb (by simpa using hv) (by simp [hw])) ⟨ho,Ib,h1 hw⟩
 ·refine concat_meets ⟨_,ho,rfl⟩ ⟨_,Ib,rfl⟩ noFill_tuple_add seq_tuple_add Mf JT (Jw _ _)
   (tuple_addW2 t b vs.toArray ws.toArray n n2 dd ND sl Hb (by simpa using hv) (by simpa using hw) (by rw [a8,a8]; exact hsz)) ⟨ho,Ib,?_⟩
  rw [e];exact h2 hw
def kE(n d:Nat):Option Int->Nat
 | none=>d
 | some v=>if v < 0 then (v+(n:Int)).toNat else min v.toNat n
theorem WM(n d:Nat)(hd:d<=n)(o:Option Int):kE n d o<=n:=by
 cases o with
 | none=>exact hd
 | some v =>
  show (if v < 0 then (v+(n:Int)).toNat else min v.toNat n)<=n;by_cases hv:v < 0
  ·rw [if_pos hv]; lia
  ·rw [if_neg hv]; exact Nat.min_le_right _ _
theorem NJ(v:Int)(n d:Nat):(if v < 0 then max (v+(n:Int)) 0 else min v (n:Int))=((kE n d (some v):Nat):Int):=by
 show (if v < 0 then max (v+(n:Int)) 0 else min v (n:Int))=(((if v < 0 then (v+(n:Int)).toNat else min v.toNat n):Nat):Int);by_cases hv:v < 0
 ·simp only [if_pos hv]; lia
 ·simp only [if_neg hv]; lia
theorem LR(lo hi:Option Int)(n:Nat):oX lo hi 1 (n:Int)=(((kE n 0 lo:Nat):Int),((kE n n hi:Nat):Int)):=by
 have h1:¬ ((1:Int) < 0):=by lia
 unfold oX;simp only [h1,if_false];refine Prod.ext ?_ ?_
 ·cases lo with
  | none=>rfl
  | some v=>exact NJ v n 0
 ·cases hi with
  | none=>rfl
  | some v=>exact NJ v n n
theorem KQ(i j:Nat):jY (i:Int) (j:Int) 1=j - i:=by
 unfold jY;have h1:(1:Int) > 0:=by lia
 simp only [h1,if_true,Int.ediv_one];split <;> lia
theorem AK{v:Value}{o:Option Int}{Q:Option Int->az->Prop}(p:IsPart v o)(h:Q o s):wpAny (model prog w) A (Builtin.Slice.slicePartIndex v) Q E s:=by
 cases p with
 | none=>exact slicePart_none h
 | int i t=>exact slicePart_int h
theorem yi{sl:Addr}{vl vu:Value}{lo hi:Option Int}{n:Nat}{Q:Int×Int×Nat->az->Prop}(hs:s.heap.IsSliceOf sl vl vu .none)(pl:IsPart vl lo)(pu:IsPart vu hi)
  (h:Q (((kE n 0 lo:Nat):Int),1,kE n n hi - kE n 0 lo) s):wpAny (model prog w) A (zS (.ref sl) (pure (n:Int))) Q E s:=by
 obtain⟨os,Z9,hcs,hds⟩:=id hs;unfold zS Builtin.Slice.sliceFields;refine af (af (P0 Z9 hds (x:=vl) rfl (af (P0 Z9 hds (x:=vu) rfl (af (P0 Z9 hds (x:=.none) rfl (aq ?_)))))));refine af (slicePart_none ?_);show wpAny _ _ (if ((1:Int) == 0)=true then _ else _) _ _ s;rw [if_neg (by decide)];refine af (AK pl (af (AK pu (af (aq ?_)))));show wpAny _ _ (match oX lo hi 1 (n:Int) with | (lo,hi)=>pure (lo,(1:Int),jY lo hi 1)) _ _ s;rw [LR lo hi n];show wpAny _ _ (pure (((kE n 0 lo:Nat):Int),(1:Int),jY ((kE n 0 lo:Nat):Int) ((kE n n hi:Nat):Int) 1)) _ _ s;rw [KQ];exact aq h
theorem Q7(xs:Array Value)(i k:Nat):((aY k).filterMap fun (m:Nat)=>xs[((i:Int)+(m:Int) * 1).toNat]?).toArray=((xs.toList.drop i).take k).toArray:=by
 have e:(fun (m:Nat)=>xs[((i:Int)+(m:Int) * 1).toNat]?)=fun m=>xs[i+m]?:=by
  funext m;have:((i:Int)+(m:Int) * 1).toNat=i+m:=by lia
  rw [this]
 rw [e];have:=pick_run xs i k;rw [List.filterMap_map] at this;have e2:((fun x=>xs[x]?)∘fun x=>i+x)=fun m=>xs[i+m]?:=rfl;rw [e2] at this;rw [this]
theorem xk{t sl:Addr}{W1:Array Value}{vl vu:Value}{lo hi:Option Int}{Q:Value->az->Prop}(ht:IsTup s.heap t W1)(hs:s.heap.IsSliceOf sl vl vu .none)(pl:IsPart vl lo)(pu:IsPart vu hi)
  (hw:¬ (kE W1.size 0 lo=0/\kE W1.size W1.size hi=W1.size))
  (h:Q (.ref s.heap.objs.size) { s with heap:=s.heap.push { cls:=.type "tuple",data:=.seq ((W1.toList.drop (kE W1.size 0 lo)).take (kE W1.size W1.size hi - kE W1.size 0 lo)).toArray } })
  (hsz:W1.size<=bx):wpAny (model prog w) A (getItem (.ref t) (.ref sl)) Q E s:=by
 have Ni:sizeOk (.seq ((W1.toList.drop (kE W1.size 0 lo)).take (kE W1.size W1.size hi - kE W1.size 0 lo)).toArray):=by
  show ((W1.toList.drop (kE W1.size 0 lo)).take (kE W1.size W1.size hi - kE W1.size 0 lo)).toArray.size<=bx;rw [a8];exact cw (cw (List.length_take_le' _ _) (by rw [c6,bz]; exact PJ _ _)) hsz
 have hj:kE W1.size W1.size hi<=W1.size:=WM _ _ (aK _) hi;obtain⟨os,Z9,hcs,hds⟩:=id hs;have hTs:s.TypeIs (.ref sl) "slice":=⟨os,Z9,hcs⟩;unfold getItem
 try with_reducible refine eD ?_
 first | refine af (aq ?_) | skip
 refine af (wpAny_sequenceKey ht.typeIs (by decide) ?_);refine af (gq (name:=oT "__getitem__") ht.typeIs xQ
  (da xQ ht.typeIs entry_tuple_getitem ?_ (args_tuple_getitem _ _)))
 show wpAny _ _ (Builtin.Tuple.tupleItemsOf (.ref t) >>= _) _ _ s;refine af (tupleItemsOf_ ht ?_);refine af (Mb hTs ?_);rw [if_pos (by decide)];refine af (yi hs pl pu ?_);have R4:¬ ((((kE W1.size 0 lo:Nat):Int) == 0&&(1:Int) == 1&&(kE W1.size W1.size hi - kE W1.size 0 lo) == W1.size)=true):=by
  intro q;rw [aQ,aQ] at q;have q1:((kE W1.size 0 lo:Nat):Int)=0:=eq_of_beq q.1.1;have q2:kE W1.size W1.size hi - kE W1.size 0 lo=W1.size:=eq_of_beq q.2;exact hw ⟨by lia,by lia⟩
 show wpAny _ _ (if (((kE W1.size 0 lo:Nat):Int) == 0&&(1:Int) == 1&&(kE W1.size W1.size hi - kE W1.size 0 lo) == W1.size)=true then _ else _) _ _ s;rw [if_neg R4,Q7]
 first
  | exact af (m:=ku _) (c9 (aq ⟨_,rfl,aq h⟩) Ni)
  | exact af (m:=ku _) (c9 (af (aq (aq ⟨_,rfl,aq h⟩))) Ni)
  | exact af (af (m:=ku _) (c9 (aq (aq ⟨_,rfl,aq h⟩)) Ni))
  | exact af (af (m:=ku _) (c9 (aq ⟨_,rfl,aq h⟩) Ni))
end
end HT
namespace L2
open PySem PySem.Spec PyProof.Rows
abbrev TO:=St->Hp->(Option Int->Hp->Prop)->Prop
theorem intsAre_of{ns:List Int}:∀ {us:List Value},Vals (ns.map V.int) us->qH us ns:=by
 induction ns with
 | nil=>intro us r; rw [aX] at r; cases r; exact .nil
 | cons n ns ih =>
  intro us r;rw [av] at r;cases r with
  | cons r1 r2 =>
   obtain⟨t,e⟩:=r1;subst e;exact .cons n t (ih r2)
section
variable {X:Cx} {e:Expr} {te:TE} {lo hi:Option Expr} {tl th:TO} {pos p2:Pos}
def SlR(X:Cx)(r:V->Option Int->Option Int->Hp->VK->Prop):Prop :=
 ∀ (ZB:List (Addr×Obj)) (s:az) (σ:St) (H:Hp) (x:V) (v vl vu:Value) (lo hi:Option Int) (sl:Addr) (Q:VK),Inv X ZB σ H s->RelV x v->s.heap.IsSliceOf sl vl vu .none->IsPart vl lo->IsPart vu hi->r x lo hi H Q ->
  ∃ T id,typeLookup (.type T) "__getitem__" = pure (some (.builtin id))/\s.TypeIs v T/\wpAny (model X.prog X.w) X.A (getItem v (.ref sl)) (EP X ZB σ Q) X.xe s
def IV(xs:List V)(lo hi:Option Int):List V:=(xs.drop (HT.kE xs.length 0 lo)).take (HT.kE xs.length xs.length hi - HT.kE xs.length 0 lo)
theorem zu(xs:List V)(lo hi:Option Int):(IV xs lo hi).length<=xs.length:=by
 unfold IV;rw [eA,c6];lia
def acq(K:ak):V->Option Int->Option Int->Hp->VK->Prop:=fun x lo hi H Q=>∃ a xs,x=.ref a/\BM K H a xs /\
 ¬ (HT.kE xs.length 0 lo=0/\HT.kE xs.length xs.length hi=xs.length)/\∀ p,H p=none->Q (.ref p) (upd H p (.tup (IV xs lo hi)))
theorem WK:SlR X (acq X.K):=by
 intro ZB s σ H x v vl vu lo hi sl Q I rx hs pl pu h;obtain⟨a,xs,rfl,hx,hw,q⟩:=h;cases rx;obtain⟨bH,r,ht,hz⟩:=I.tuple hx;have hlen:bH.toArray.size=xs.length:=by rw [a8]; exact r.length.symm
 refine⟨"tuple",_,PyProof.Rows.slot_tuple_getitem.lookup,ht.typeIs,?_⟩;refine HT.xk ht hs pl pu (by rw [hlen]; exact hw) ?_ (by rw [hlen]; exact hz);rw [hlen];refine⟨.ref s.heap.objs.size,_,I.laid (t':=s.toks) (o:=.tup (IV xs lo hi)) (fun b ob q=>aN _ q) (aK _) ?_,rfl,q _ (I.cB.fresh (aK _))⟩;exact⟨cw (zu xs lo hi) hz,_,(r.drop (HT.kE xs.length 0 lo)).take (HT.kE xs.length xs.length hi - HT.kE xs.length 0 lo),IsTup.new _ _⟩
def acs(K:ak):R2:=fun x y H Q=>∃ a b ns ms,x=.ref a/\y=.ref b/\BM K H a (ns.map V.int)/\BM K H b (ms.map V.int)/\Q (.bl (HT.lexLt ns ms)) H
theorem Xb(hu:X.A.units < cLine):NU X (eO .Lt) (acs X.K):=by
 intro ZB s σ H x y v u Q I rx ry h;obtain⟨a,b,ns,ms,rfl,rfl,ha,hb,q⟩:=h;cases rx;cases ry;obtain⟨bH,r1,p1,_⟩:=I.tuple ha;obtain⟨yy,r2,p2,_⟩:=I.tuple hb;have i1:qH bH.toArray.toList ns:=intsAre_of r1;have i2:qH yy.toArray.toList ms:=intsAre_of r2;exact HT.K8 p1 p2 i1 i2 hu ⟨.bl (HT.lexLt ns ms),H,I,rfl,q⟩
def Zr(K:ak):R2:=fun x y H Q=>∃ a b xs ys,x=.ref a/\y=.ref b/\BM K H a xs/\BM K H b ys/\xs≠[]/\xs.length+ys.length<=bx /\
 (ys=[]->Q (.ref a) H)/\(ys≠[]->∀ p,H p=none->Q (.ref p) (upd H p (.tup (xs++ys))))
theorem Vals.E1{xs:List V}{us:List Value}(r:Vals xs us):us=[]↔xs=[]:=by
 cases r with
 | nil=>simp
 | cons _ _=>simp
theorem UW:NU X (lL .Add) (Zr X.K):=by
 intro ZB s σ H x y v u Q I rx ry h;obtain⟨a,b,xs,ys,rfl,rfl,ha,hb,hx,hz,q1,q2⟩:=h;cases rx;cases ry;obtain⟨bH,r1,p1,_⟩:=I.tuple ha;obtain⟨yy,r2,p2,_⟩:=I.tuple hb;refine HT.Vy p1 p2 (fun z=>hx (r1.E1.mp z)) (fun z=>⟨.ref a,H,I,rfl,q1 (r2.E1.mp z)⟩) (fun z=>?_) (by rw [<-r1.length,<-r2.length]; exact hz);refine⟨.ref s.heap.objs.size,_,I.laid (t':=s.toks) (o:=.tup (xs++ys)) (fun b ob q=>aN _ q) (aK _) ?_,rfl,q2 (fun w=>z (r2.E1.mpr w)) _ (I.cB.fresh (aK _))⟩;exact⟨by rw [aw]; exact hz,_,r1.append r2,IsTup.new _ _⟩
end
def Fb(n:Nat)(i:Int):Option Nat:=if 0<=i then (if i < n then some i.toNat else none) else if -(n:Int)<=i then some (i+n).toNat else none
def pL{α:Type}(xs:List α)(i:Int):Option α:=(Fb xs.length i).bind fun j=>xs[j]?
theorem Na{n:Nat}{i:Int}{j:Nat}(h:Fb n i=some j):seqIndex? i n=some j/\j < n/\-(n:Int)<=i/\i < n:=by
 unfold Fb at h;by_cases h0:0<=i
 ·rw [if_pos h0] at h;by_cases h1:i < n
  ·rw [if_pos h1] at h;have e:i.toNat=j:=bN h;exact⟨by rw [seqIndex_of h0 h1,e],by lia,by lia,h1⟩
  ·rw [if_neg h1] at h; cases h
 ·rw [if_neg h0] at h;by_cases h1:-(n:Int)<=i
  ·rw [if_pos h1] at h;have e:(i+n).toNat=j:=bN h;exact⟨by rw [seqIndex_neg (by lia) h1,e],by lia,h1,by lia⟩
  ·rw [if_neg h1] at h; cases h
theorem NO{α:Type}{xs:List α}{i:Int}{v:α}(h:pL xs i=some v):∃ j,seqIndex? i xs.length=some j/\xs[j]?=some v/\j < xs.length/\-(xs.length:Int)<=i/\i < xs.length:=by
 unfold pL at h;cases e:Fb xs.length i with
 | none=>rw [e] at h; cases h
 | some j =>
  rw [e] at h;obtain⟨h1,h2,h3,h4⟩:=Na e;exact⟨j,h1,h,h2,h3,h4⟩
def VD(b:Expr):Prop:=∀ o i,subscripted b false o i=operate [o,i] (getItem o i)
def IxR(X:Cx)(r:R2):Prop :=
 ∀ (value slice:Expr) (ZB:List (Addr×Obj)) (s:az) (σ:St) (H:Hp) (x y:V) (v u:Value) (Q:VK),Inv X ZB σ H s->RelV x v->RelV y u->r x y H Q ->
  subscripted slice false v u=operate [v,u] (getItem v u)->wpAny (model X.prog X.w) X.A (subscriptTail value slice v u) (EP X ZB σ Q) X.xe s
def MtR(X:Cx)(id:String)(r:V->List V->Hp->VK->Prop):Prop :=
 ∀ (ZB:List (Addr×Obj)) (s:az) (σ:St) (H:Hp) (x:V) (xs:List V) (v:Value) (us:List Value) (Q:VK),Inv X ZB σ H s->RelV x v->Vals xs us->r x xs H Q ->
  wpAny (model X.prog X.w) X.A (call (.builtin id) (v :: us)) (EP X ZB σ Q) X.xe s
section
variable {X:Cx} {a b:Expr} {ta tb:TE} {pos:Pos}
def acv(K:ak):R2:=fun x y H Q=>∃ p xs i v,x=.ref p/\y=.int i/\rW K H p xs/\pL xs i=some v/\Q v H
def acu(K:ak):R2:=fun x y H Q=>∃ p xs i v,x=.ref p/\y=.int i/\BM K H p xs/\pL xs i=some v/\Q v H
theorem M9:IxR X (acv X.K):=by
 intro value slice ZB s σ H x y v u Q I rx ry h hs;obtain⟨p,xs,i,z,rfl,rfl,hq,he,q⟩:=h;cases rx;obtain⟨t,rfl⟩:=ry;obtain⟨bH,r,pl,hz⟩:=I.list hq;obtain⟨j,h1,h2,h3,h4,h5⟩:=NO he;obtain⟨w,ew,vn⟩:=r.get h2;have hl:=r.length;have hn:=Bh;have fin:EP X ZB σ Q w s:=⟨z,H,I,vn,q⟩;by_cases h0:0<=i
 ·have hj:i.toNat=j:=by
   rw [seqIndex_of h0 h5] at h1;exact bN h1
  exact item_listR pl.isList h0 (by lia) (by rw [hj]; simpa using ew) fin hs
 ·have hj:(i+(bH.toArray.size:Int)).toNat=j:=by
   rw [seqIndex_neg (by lia) h4] at h1;rw [a8,<-hl];exact bN h1
  exact subscriptTail_builtinR (x:=w) pl.isList.typeIs slot_list_getitem.lookup
   (wpAny_getItem_list_neg (Q:=fun r s'=>r=w/\EP X ZB σ Q r s') pl.isList (by lia) (by rw [a8] <;> lia) (by lia) (by rw [hj]; simpa using ew) ⟨rfl,fin⟩) hs
theorem XE:IxR X (acu X.K):=by
 intro value slice ZB s σ H x y v u Q I rx ry h hs;obtain⟨p,xs,i,z,rfl,rfl,hq,he,q⟩:=h;cases rx;obtain⟨t,rfl⟩:=ry;obtain⟨bH,r,pl,hz⟩:=I.tuple hq;obtain⟨j,h1,h2,h3,h4,h5⟩:=NO he;obtain⟨w,ew,vn⟩:=r.get h2;have hl:=r.length;have hn:=Bh;have fin:EP X ZB σ Q w s:=⟨z,H,I,vn,q⟩;exact subscriptTail_builtinR (x:=w) pl.typeIs slot_tuple_getitem.lookup
  (getItem_tuple (j:=j) (Q:=fun r s'=>r=w/\EP X ZB σ Q r s') pl (by lia) (by lia) (by rw [a8,<-hl]; exact h1) (by simpa using ew) ⟨rfl,fin⟩) hs
theorem K7 (bH:List Value) (n j:Nat) (u:Value):jU (·.setIfInBounds j u) { cls:=.type "list",data:=.seq bH.toArray n } = { cls:=.type "list",data:=.seq (bH.set j u).toArray n }:=by
 simp [jU]
theorem Inv.lst{ZB:List (Addr×Obj)}{σ:St}{H:Hp}{s:az}{p:Addr}{xs:List V}(I:Inv X ZB σ H s)(h:H p=some (.lst xs)) :
  ∃ (bH:List Value) (n:Nat),Vals xs bH/\s.heap.get? p=some { cls:=.type "list",data:=.seq bH.toArray n }/\xs.length<=bx:=by
 obtain⟨z,bH,n,r,e⟩:=I.cB p _ h;exact⟨bH,n,r,e,z⟩
theorem Inv.Xu{ZB:List (Addr×Obj)}{σ:St}{H:Hp}{s:az}{p:Addr}{xs ys:List V}{bH its':List Value}{n n':Nat}{f:Obj->Obj}(I:Inv X ZB σ H s)(h:H p=some (.lst xs))
  (ho:s.heap.get? p=some { cls:=.type "list",data:=.seq bH.toArray n }) (hf:f { cls:=.type "list",data:=.seq bH.toArray n } = { cls:=.type "list",data:=.seq its'.toArray n' }) (r:Vals ys its') (hz:ys.length<=bx) (t:Nat) :
  Inv X ZB σ (upd H p (.lst ys)) { s with heap:=s.heap.update p f,toks:=t }:=by
 have e:(s.heap.update p f).get? p=some { cls:=.type "list",data:=.seq its'.toArray n' }:=by
  rw [fN f ho (by rw [hf] <;> rfl),hf]
 refine I.write (x:=p) (e:=p) (by rw [h]; trivial) (.inl rfl) (fun b u hb q=>(v3 _ _ (fB hb)).trans q) ⟨_,e⟩ ?_;exact⟨hz,its',n',r,e⟩
def Zp:V->V->V->Hp->(Hp->Prop)->Prop:=fun o i v H Q=>∃ p xs k j,o=.ref p/\i=.int k/\H p=some (.lst xs)/\Fb xs.length k=some j/\Q (upd H p (.lst (xs.set j v)))
theorem set_list:aey X Zp:=by
 intro ZB s σ H o i v ov iv u Q I ro ri rv h;obtain⟨p,xs,k,j,rfl,rfl,hp,hj,q⟩:=h;cases ro;obtain⟨t,rfl⟩:=ri;obtain⟨bH,n,r,ho,hz⟩:=I.lst hp;obtain⟨h1,h2,h3,h4⟩:=Na hj;have hl:=r.length;have hn:=Bh;have I':Inv X ZB σ (upd H p (.lst (xs.set j v))) { s with heap:=s.heap.update p (jU (·.setIfInBounds j u)) } :=
  I.Xu hp ho (K7 bH n j u) (r.set rv j) (by rw [bO]; exact hz) s.toks
 by_cases h0:0<=k
 ·have hk:k.toNat=j:=by
   rw [seqIndex_of h0 h4] at h1;exact bN h1
  exact PySem.W.ki_setAt ho h0 (by lia) (by rw [a8,<-hl]; exact h4) (by rw [hk]; exact⟨_,I',q⟩)
 ·have hk:(k+(bH.toArray.size:Int)).toNat=j:=by
   rw [seqIndex_neg (by lia) h3] at h1;rw [a8,<-hl];exact bN h1
  exact PySem.W.ki_setBack ho (by lia) (by rw [a8,<-hl]; exact h3) (by lia) (by rw [hk]; exact⟨_,I',q⟩)
theorem EA(lo hi:Option Int)(n:Nat):(su lo hi none n).1=((HT.kE n 0 lo:Nat):Int)/\(su lo hi none n).2.1=((HT.kE n n hi:Nat):Int)/\(su lo hi none n).2.2=1:=by
 refine⟨?_,?_,rfl⟩
 ·cases lo with
  | none=>simp [su,HT.kE]
  | some i =>
   simp only [su,HT.kE,Option.getD_none,show (1:Int) > 0 by decide,if_true];by_cases h:i < 0
   ·simp only [h,if_true] <;> lia
   ·simp only [h,if_false] <;> lia
 ·cases hi with
  | none=>simp [su,HT.kE]
  | some i =>
   simp only [su,HT.kE,Option.getD_none,show (1:Int) > 0 by decide,if_true];by_cases h:i < 0
   ·simp only [h,if_true] <;> lia
   ·simp only [h,if_false] <;> lia
theorem Ci(bH:List Value)(lo hi:Option Int):slicePick bH.toArray lo hi none=((bH.drop (HT.kE bH.length 0 lo)).take (HT.kE bH.length bH.length hi - HT.kE bH.length 0 lo)).toArray:=by
 obtain⟨h1,h2,h3⟩:=EA lo hi bH.toArray.size;unfold slicePick;rw [h1,h2,h3];simp only [sliceRange_one,pick_run,a8] <;> rfl
def acr(K:ak):V->Option Int->Option Int->Hp->VK->Prop:=fun x lo hi H Q=>∃ a xs,x=.ref a/\rW K H a xs/\∀ p,H p=none->Q (.ref p) (upd H p (.lst (IV xs lo hi)))
theorem MC:SlR X (acr X.K):=by
 intro ZB s σ H x v vl vu lo hi sl Q I rx hs pl pu h;obtain⟨a,xs,rfl,hx,q⟩:=h;cases rx;obtain⟨bH,r,ht,hz⟩:=I.list hx;have hlen:=r.length;refine⟨"list",_,slot_list_getitem.lookup,ht.isList.typeIs,?_⟩;refine wpAny_getItem_list_slice ht.isList hs pl pu .none (by simp) ?_ (by rw [a8] <;> lia);rw [Ci,<-hlen];refine⟨.ref s.heap.objs.size,_,I.laid (t':=s.toks) (o:=.lst (IV xs lo hi)) (fun b ob q=>aN _ q) (aK _) ?_,rfl,q _ (I.cB.fresh (aK _))⟩;exact⟨cw (zu xs lo hi) hz,_,0,(r.drop (HT.kE xs.length 0 lo)).take (HT.kE xs.length xs.length hi - HT.kE xs.length 0 lo),br _ rfl⟩
theorem FL:Wg X (.type "list") (fun xs H Q=>∃ p ys,xs=[.ref p]/\(rW X.K H p ys\/BM X.K H p ys)/\∀ l,H l=none->Q (.ref l) (upd H l (.lst ys))):=by
 intro ZB s σ H xs us Q I r h;obtain⟨p,ys,rfl,hq,q⟩:=h;obtain⟨u,rfl,rx⟩:=vals1 r;cases rx;have fin:∀ (bH:List Value),Vals ys bH->ys.length<=bx->∀ (h':Heap) (c':Nat),(∀ b o',s.heap.get? b=some o'->h'.get? b=some o') ->
   h'.get? s.heap.objs.size=some { cls:=.type "list",dict:=none,data:=.seq bH.toArray c',slots:=#[] }->EP X ZB σ Q (.ref s.heap.objs.size) { s with heap:=h' }:=fun bH r' hz h' c' kp e =>
  ⟨.ref s.heap.objs.size,_,I.laid (t':=s.toks) kp (aK _) (show ij X.prog X.w _ h' _ (.lst ys) from⟨hz,bH,c',r',e⟩),rfl,q _ (I.cB.fresh (aK _))⟩
 rcases hq with hq | hq
 ·obtain⟨bH,r',pl,hz⟩:=I.list hq;have hlen:=r'.length;obtain⟨o,ho,hc,n,hd⟩:=pl.isList;exact call_list_seq p (.inl rfl) ho hc hd (fun h' c' kp e=>fin bH r' hz h' c' kp e) (by simp only [a8] <;> lia)
 ·obtain⟨bH,r',pl,hz⟩:=I.tuple hq;have hlen:=r'.length;obtain⟨o,ho,hc,n,hd⟩:=pl;exact call_list_seq p (.inr rfl) ho hc hd (fun h' c' kp e=>fin bH r' hz h' c' kp e) (by simp only [a8] <;> lia)
def tyV(K:ak)(T:String)(x:V)(H:Hp):Prop:=match x with
 | .str _=>T = "str"
 | .int _=>T = "int"
 | .ref p=>(T = "list"/\∃ xs,rW K H p xs)\/(T = "tuple"/\∃ o,K.lookup p=some o/\o.cls=.type "tuple"/\o.dict=none) \/
   (T = "dict"/\((∃ WP,H p=some (.dK WP))\/∃ WP,H p=some (.dT WP)))\/(T = "set"/\∃ S n,H p=some (.set S n))
 | _=>False
theorem El{ZB:List (Addr×Obj)}{σ:St}{H:Hp}{s:az}{T:String}{x:V}{v:Value}(I:Inv X ZB σ H s)(r:RelV x v)(ty:tyV X.K T x H) :
  s.TypeIs v T/\∀ a,v=.ref a->∃ ob,s.heap.get? a=some ob/\ob.dict=none:=by
 cases x with
 | str z =>
  obtain⟨t,rfl⟩:=r;cases (show T = "str" from ty);exact⟨typeIs_str s z t,fun _ e=>nomatch e⟩
 | int i =>
  obtain⟨t,rfl⟩:=r;cases (show T = "int" from ty);exact⟨typeIs_int s i t,fun _ e=>nomatch e⟩
 | ref p =>
  cases r;rcases ty with ⟨rfl,xs,hq⟩ | ⟨rfl,o,hk,hc,hd⟩ | ⟨rfl,hk⟩ | ⟨rfl,S,n,hk⟩
  ·obtain⟨bH,_,pl,_⟩:=I.list hq;refine⟨pl.isList.typeIs,fun a e=>?_⟩;cases e;obtain⟨o,n,e,c,hd,_⟩:=pl;exact⟨o,e,hd⟩
  ·refine⟨⟨o,I.B5 p o hk,hc⟩,fun a e=>?_⟩;cases e;exact⟨o,I.B5 _ o hk,hd⟩
  ·have z:∃ o,s.heap.get? p=some o/\o.ExactDict:=by
    rcases hk with ⟨WP,hk⟩ | ⟨WP,hk⟩
    ·obtain⟨_,_,_,_,o,_,_,e,ex,_⟩:=I.cB p _ hk;exact⟨o,e,ex⟩
    ·obtain⟨_,_,_,_,o,_,_,e,ex,_⟩:=I.cB p _ hk;exact⟨o,e,ex⟩
   obtain⟨o,e,ex⟩:=z;refine⟨⟨o,e,ex.1⟩,fun a e2=>?_⟩;cases e2;exact⟨o,e,ex.2.1⟩
  ·obtain⟨o,_,_,_,e,ex,_⟩:=I.cB p _ hk;refine⟨⟨o,e,ex.1⟩,fun a e2=>?_⟩;cases e2;exact⟨o,e,ex.2.1⟩
 | _=>exact bY ty
variable {o e:Expr} {es:List Expr} {to:TE} {t:TA} {name:Str} {apos jh:Pos} {T id:String} {r:V->List V->Hp->VK->Prop}
/- xs.append(e),list.index on a ZQ tuple .. are MtR facts of 06m -/
end
def MtM(X:Cx)(id:String)(r:V->List V->Hp->VK->Prop):Prop :=
 ∀ (ZB:List (Addr×Obj)) (s:az) (σ:St) (H:Hp) (x:V) (xs:List V) (v:Value) (us:List Value) (Q:VK),Inv X ZB σ H s->RelV x v->Vals xs us->r x xs H Q ->
  wpAny (model X.prog X.w) X.A (call (.builtin id) (v :: us)) (EP X ZB σ Q) X.xe s
theorem Vals.one:∀ {x:V} {us:List Value},Vals [x] us->∃ u,us=[u]/\RelV x u:=by
 intro x us h;cases h with
 | cons r t=>cases t; exact⟨_,rfl,r⟩
section
variable {X:Cx} {ZB:List (Addr×Obj)} {σ:St} {H:Hp} {s:az} {l b:Addr} {xs ys zs:List V}
theorem Inv.Xw{bH its':List Value}{n:Nat}{f:Array Value->Array Value}{t':Nat}(I:Inv X ZB σ H s)(hH:H l=some (.lst xs))
  (e:s.heap.get? l=some { cls:=.type "list",data:=.seq bH.toArray n }) (hf:f bH.toArray=its'.toArray) (hv:Vals ys its') (hz:ys.length<=bx) :
  Inv X ZB σ (upd H l (.lst ys)) { s with heap:=s.heap.update l (jU f),toks:=t' }:=by
 have q:=PySem.IsL.update e f;rw [hf] at q;refine I.write (x:=l) (e:=l) (by rw [hH]; exact trivial) (.inl rfl) (fun b' u hb hu=>(v3 s.heap (jU f) (fB hb)).trans hu) ⟨_,q⟩ ?_;exact⟨hz,its',_,hv,q⟩
theorem Inv.ada{bH:List Value}{t':Nat}(I:Inv X ZB σ H s)(hv:Vals ys bH)(hz:ys.length<=bx) :
  Inv X ZB σ (upd H s.heap.objs.size (.lst ys)) { s with heap:=s.heap.push { cls:=.type "list",data:=.seq bH.toArray },toks:=t' } :=
 I.laid (fun _ _ q=>aN _ q) (aK _) ⟨hz,bH,0,hv,br _ rfl⟩
theorem Inv.Xv (I:Inv X ZB σ H s) (hH:H l=some (.lst xs)):xs.length<=bx/\∃ (bH:List Value) (n:Nat),Vals xs bH/\xs.length=bH.length/\s.heap.get? l=some { cls:=.type "list",data:=.seq bH.toArray n }:=by
 obtain⟨z,bH,n,r,e⟩:=I.cB l _ hH;exact⟨z,bH,n,r,r.length,e⟩
theorem Rk{n:Nat}(h:n<=bx):kC n=false:=by
 unfold kC;exact decide_eq_false (by lia)
end
section
variable {X:Cx}
def UI:V->List V->Hp->VK->Prop:=fun x vs H Q=>∃ l xs y,x=.ref l/\vs=[y]/\H l=some (.lst xs)/\xs.length < bx/\Q .dh (upd H l (.lst (xs++[y])))
theorem Dp:MtM X "list.append" UI:=by
 intro ZB s σ H x vs v us Q I rx rv h;obtain⟨l,xs,y,rfl,rfl,hH,hz,q⟩:=h;cases rx;obtain⟨u,rfl,ru⟩:=rv.one;obtain⟨z,bH,n,r,hl,e⟩:=I.Xv hH;refine BX F.slot_list_append ⟨_,e,rfl⟩ F.entry_list_append (F.args_list_append_2 _ _) (PySem.list_append l bH.toArray n u (by rw [a8]; lia)) ⟨e,?_⟩;refine⟨.dh,_,I.Xw (its':=bH++[u]) hH e (by simp) (r.append (.cons ru .nil)) ?_,rfl,q⟩;rw [aw,bg];lia
end
section
variable {κ:Type} [DecidableEq κ]
def nJ(WP:List (κ×V))(k:κ):Option V:=(WP.find? fun kv=>decide (kv.1=k)).map (·.2)
def putK(WP:List (κ×V))(k:κ)(v:V):List (κ×V) :=
 if (WP.any fun kv=>decide (kv.1=k))=true then WP.map (fun kv=>if kv.1=k then (kv.1,v) else kv) else WP++[(k,v)]
theorem sH{p:κ×V}{r:List (κ×V)}{k:κ}(e:p.1=k):nJ (p :: r) k=some p.2:=by simp [nJ,ip,e]
theorem sI{p:κ×V}{r:List (κ×V)}{k:κ}(e:¬ p.1=k):nJ (p :: r) k=nJ r k:=by simp [nJ,ip,e]
theorem GU(k:κ):∀ WP:List (κ×V),(WP.any fun kv=>decide (kv.1=k))=(nJ WP k).isSome
 | []=>rfl
 | p :: r=>by
  rw [kL];by_cases e:p.1=k
  ·simp only [sH e,decide_eq_true e,Bool.true_or,Option.isSome_some]
  ·rw [sI e,decide_eq_false e,PM]; exact GU k r
theorem zi(WP:List (κ×V))(k:κ)(v:V):(putK WP k v).length<=WP.length+1:=by
 unfold putK;split
 ·rw [ag]; lia
 ·rw [aw,aj,ay]; lia
theorem CG.qo{o:Option V}{u:Option Value}(r:CG o u):o.isSome=u.isSome:=by
 cases o with
 | none=>cases u with
  | none=>rfl
  | some _=>exact(show False from r).elim
 | some _=>cases u with
  | none=>exact(show False from r).elim
  | some _=>rfl
theorem KV.val{WP:List (κ×V)}{vs:List (κ×Value)}(r:KV WP vs)(k:κ):CG (nJ WP k) (P1 vs k):=by
 unfold KV at r;induction r with
 | nil=>exact i4
 | @cons p q ps qs h t ih =>
  obtain⟨h1,h2⟩:=h;by_cases e:p.1=k
  ·have e':q.1=k:=h1.symm.trans e;have b:P1 (q :: qs) k=some q.2:=by simp [P1,ip,e']
   rw [sH e,b]; exact h2
  ·have e':¬ q.1=k:=fun z=>e (h1.trans z);have b:P1 (q :: qs) k=P1 qs k:=by simp [P1,ip,e']
   rw [sI e,b]; exact ih
theorem KV.any{WP:List (κ×V)}{vs:List (κ×Value)}(r:KV WP vs)(k:κ):(WP.any fun kv=>decide (kv.1=k))=vs.any fun kv=>decide (kv.1=k):=by
 unfold KV at r;induction r with
 | nil=>rfl
 | cons h t ih=>rw [kL,kL,ih,h.1]
theorem KV.WS{WP:List (κ×V)}{vs:List (κ×Value)}(r:KV WP vs)(k:κ){y:V}{u:Value}(ry:RelV y u) :
  KV (WP.map fun kv=>if kv.1=k then (kv.1,y) else kv) (vs.map fun kv=>if kv.1=k then (kv.1,u) else kv):=by
 unfold KV at r ⊢;induction r with
 | nil=>exact .nil
 | @cons p q ps qs h t ih =>
  rw [av,av];refine .cons ?_ ih;obtain⟨h1,h2⟩:=h;by_cases e:p.1=k
  ·rw [if_pos e,if_pos (h1.symm.trans e)]; exact⟨h1,ry⟩
  ·rw [if_neg e,if_neg (fun z=>e (h1.trans z))]; exact⟨h1,h2⟩
theorem KV.put{WP:List (κ×V)}{vs:List (κ×Value)}(r:KV WP vs)(k:κ){y:V}{u:Value}(ry:RelV y u):KV (putK WP k y) (stored vs k u):=by
 unfold putK stored;rw [r.any k];by_cases e:(vs.any fun kv=>decide (kv.1=k))=true
 ·rw [if_pos e,if_pos e]; exact r.WS k ry
 ·rw [if_neg e,if_neg e]; exact Paired.snoc r ⟨rfl,ry⟩
theorem KV.length{WP:List (κ×V)}{vs:List (κ×Value)}(r:KV WP vs):WP.length=vs.length:=gX r
end
theorem Bp{P:bT}{w:World}{k:Key}{u:Value}(r:RelV (kV k) u):(cA P w).is k u=true:=by
 cases k with
 | inl i=>obtain⟨t,e⟩:=(show ∃ t,u=Value.int i t from r); subst e; exact HC P w i t
 | inr x=>obtain⟨t,e⟩:=(show ∃ t,u=Value.str x t from r); subst e; exact HB P w x t
theorem Dv{P:bT}{w:World}:∀ {ks:List Key} {us:List Value},Vals (ks.map kV) us->ItemsAre (cA P w) ks us
 | [],_,r=>by rw [aX] at r; cases r; exact .nil
 | k :: ks,_,r=>by
  rw [av] at r;cases r with
  | cons h t=>exact .cons (Bp h) (Dv t)
abbrev KT(H:Hp):List (List Key×V)->List (List Key×Addr×Value)->Prop:=Qb fun p q=>p.1=q.1/\H q.2.1=some (.tup (p.1.map kV))/\RelV p.2 q.2.2
theorem KT.val{H:Hp}{WP:List (List Key×V)}{xs:List (List Key×Addr×Value)}(r:KT H WP xs)(k:List Key):CG (nJ WP k) ((atKey xs k).map (·.2)):=by
 induction r with
 | nil=>exact i4
 | @cons p q ps qs h t ih =>
  obtain⟨h1,_,h2⟩:=h;by_cases e:p.1=k
  ·have e':q.1=k:=h1.symm.trans e;have b:atKey (q :: qs) k=some q.2:=by simp [atKey,ip,e']
   rw [sH e,b]; exact h2
  ·have e':¬ q.1=k:=fun z=>e (h1.trans z);have b:atKey (q :: qs) k=atKey qs k:=by simp [atKey,ip,e']
   rw [sI e,b]; exact ih
theorem KT.WS{H:Hp}{WP:List (List Key×V)}{xs:List (List Key×Addr×Value)}(r:KT H WP xs)(k:List Key){y:V}{u:Value}(ry:RelV y u) :
  KT H (WP.map fun kv=>if kv.1=k then (kv.1,y) else kv) (xs.map (putAt k u)):=by
 induction r with
 | nil=>exact .nil
 | @cons p q ps qs h t ih =>
  rw [av,av];refine .cons ?_ ih;obtain⟨h1,h2,h3⟩:=h;unfold putAt;by_cases e:p.1=k
  ·rw [if_pos e,if_pos (h1.symm.trans e)]; exact⟨h1,h2,ry⟩
  ·rw [if_neg e,if_neg (fun z=>e (h1.trans z))]; exact⟨h1,h2,h3⟩
theorem KT.put{H:Hp}{WP:List (List Key×V)}{xs:List (List Key×Addr×Value)}(r:KT H WP xs)(k:List Key){b:Addr}{y:V}{u:Value}(hb:H b=some (.tup (k.map kV)))(ry:RelV y u) :
  KT H (putK WP k y) (storedH xs k b u):=by
 have e:(WP.any fun kv=>decide (kv.1=k))=(atKey xs k).isSome:=by
  rw [GU,(r.val k).qo,nA]
 unfold putK storedH;rw [e];by_cases q:(atKey xs k).isSome=true
 ·rw [if_pos q,if_pos q]; exact r.WS k ry
 ·rw [if_neg q,if_neg q]; exact Paired.snoc r ⟨rfl,hb,ry⟩
theorem KT.keeps{H H':Hp}{WP:List (List Key×V)}{xs:List (List Key×Addr×Value)}(r:KT H WP xs)(ht:∀ b ys,H b=some (.tup ys)->H' b=some (.tup ys)):KT H' WP xs :=
 Paired.Xq r fun _ _ z=>⟨z.1,ht _ _ z.2.1,z.2.2⟩
section
variable {P:bT} {w:World} {H:Hp} {h:Heap} {a:Addr}
theorem VP{u:HO}(ok:sf P w H h)(e:Rd H a u):ij P w H h a u:=e.ok ok
theorem xr{WP:List (Key×V)}(ok:sf P w H h)(e:Rd H a (.dK WP)):WP.length<=bx/\(a == fv)=false/\∃ vs,KV WP vs/\h.DictOf (cA P w) a vs :=
 show ij P w H h a (.dK WP) from VP ok e
theorem Nz{WP:List (Key×V)}(ok:sf P w H h)(e:H a=some (.dK WP)):WP.length<=bx/\(a == fv)=false/\∃ vs,KV WP vs/\h.DictOf (cA P w) a vs:=xr ok (.inl e)
theorem vD{ks:List Key}(ok:sf P w H h)(e:H a=some (.tup (ks.map kV))):(eM (cA P w)).is h ks a:=by
 obtain⟨_,bH,r,o,h1,h2,n,h3⟩:=(show ij P w H h a (.tup (ks.map kV)) from ok a _ e);exact⟨o,bH.toArray,n,h1,h2,h3,by simpa using Dv r⟩
theorem zt{WP:List (List Key×V)}(ok:sf P w H h)(e:Rd H a (.dT WP)):WP.length<=bx/\(a == fv)=false /\
  ∃ xs,KT H WP xs/\h.DictOfH (eM (cA P w)) a xs:=by
 obtain⟨z,y,xs,r,o,es,ep,h1,h2,h3,h4,h5⟩:=(show ij P w H h a (.dT WP) from VP ok e);refine⟨z,y,xs,r,o,es,ep,h1,h2,h3,h4,fun x hx=>?_,h5⟩;have all:∀ {l:List (List Key×V)} {m:List (List Key×Addr×Value)},KT H l m->∀ x∈m,(eM (cA P w)).is h x.1 x.2.1:=by
  intro l m q;induction q with
  | nil=>intro x hx; exact nomatch hx
  | @cons p q ps qs hq t ih =>
   intro x hx;rcases List.mem_cons.mp hx with e | hx
   ·subst e;exact vD ok (by rw [<-hq.1]; exact hq.2.1)
   ·exact ih x hx
 exact all r x hx
theorem SD{WP:List (List Key×V)}(ok:sf P w H h)(e:H a=some (.dT WP)):WP.length<=bx/\(a == fv)=false /\
  ∃ xs,KT H WP xs/\h.DictOfH (eM (cA P w)) a xs:=zt ok (.inl e)
end
def BU(H:Hp)(a:Addr)(y:V)(r:Option V):Prop :=
 (∃ WP k,Rd H a (.dK WP)/\y=kV k/\r=nJ WP k)\/∃ WP k b,Rd H a (.dT WP)/\y=.ref b/\H b=some (.tup (k.map kV))/\r=nJ WP k
def PB(H:Hp)(a:Addr)(y v:V)(H':Hp):Prop :=
 (∃ WP k,H a=some (.dK WP)/\y=kV k/\WP.length < bx/\H'=upd H a (.dK (putK WP k v))) \/
 ∃ WP k b,H a=some (.dT WP)/\y=.ref b/\H b=some (.tup (k.map kV))/\WP.length < bx/\H'=upd H a (.dT (putK WP k v))
theorem BU.k{H:Hp}{a:Addr}{WP:List (Key×V)}{k:Key}(e:H a=some (.dK WP)):BU H a (kV k) (nJ WP k):=.inl ⟨WP,k,.inl e,rfl,rfl⟩
theorem BU.t{H:Hp}{a b:Addr}{WP:List (List Key×V)}{k:List Key}(e:H a=some (.dT WP))(eb:H b=some (.tup (k.map kV))):BU H a (.ref b) (nJ WP k):=.inr ⟨WP,k,b,.inl e,rfl,eb,rfl⟩
theorem PB.k{H:Hp}{a:Addr}{WP:List (Key×V)}{k:Key}{v:V}(e:H a=some (.dK WP))(hl:WP.length < bx):PB H a (kV k) v (upd H a (.dK (putK WP k v))):=.inl ⟨WP,k,e,rfl,hl,rfl⟩
theorem PB.t{H:Hp}{a b:Addr}{WP:List (List Key×V)}{k:List Key}{v:V}(e:H a=some (.dT WP))(eb:H b=some (.tup (k.map kV)))(hl:WP.length < bx) :
  PB H a (.ref b) v (upd H a (.dT (putK WP k v))):=.inr ⟨WP,k,b,e,rfl,eb,hl,rfl⟩
section
variable {X:Cx} {ZB:List (Addr×Obj)} {σ:St} {H:Hp} {s:az} {a:Addr} {y v:V} {u r:Value} {o:Option V} {A:eu} {E:Value->az->Prop}
theorem Inv.big(I:Inv X ZB σ H s):fv < s.heap.objs.size:=by
 have h:bP < s.heap.objs.size:=(I.mod.glob.keeps I.bk).lt;exact Ub (by decide) h
theorem yM{Q:Value->az->Prop}(hu:A.units+1 < cLine)(I:Inv X ZB σ H s)(g:BU H a y (some v))(ry:RelV y u)(h:∀ w' s',Inv X ZB σ H s'->RelV v w'->Q w' s') :
  wpAny (model X.prog X.w) A (getItem (.ref a) u) Q E s:=by
 rcases g with ⟨WP,k,e,ey,l⟩ | ⟨WP,k,b,e,ey,eb,l⟩
 ·subst ey;obtain⟨z,hd,vs,rel,dd⟩:=xr I.cB e;obtain⟨w',hw,vn⟩:=CG.some_of (v:=v) (o:=P1 vs k) (by rw [l]; exact rel.val k);exact wpAny_getItem_of (Bp ry) dd.mapOf hw (h w' _ (I.tok _) vn)
 ·subst ey;cases (show u=eQ b from ry);obtain⟨z,hd,xs,rel,dd⟩:=zt I.cB e;obtain⟨w',hw,vn⟩:=CG.some_of (v:=v) (o:=(atKey xs k).map (·.2)) (by rw [l]; exact rel.val k);obtain⟨p,hp,hp2⟩:=Option.map_eq_some_iff.mp hw;refine wpAny_getItem_heap (uM hu) (vD I.cB eb) dd hp ?_;rw [hp2];exact h w' _ (I.tok _) vn
theorem aaK{Q:Value->az->Prop}(hu:A.units+1 < cLine)(I:Inv X ZB σ H s)(g:BU H a y o)(ry:RelV y u)(h:∀ s',Inv X ZB σ H s'->Q (.bool o.isSome) s') :
  wpAny (model X.prog X.w) A (eO .In u (.ref a)) Q E s:=by
 rcases g with ⟨WP,k,e,ey,l⟩ | ⟨WP,k,b,e,ey,eb,l⟩
 ·subst ey;obtain⟨z,hd,vs,rel,dd⟩:=xr I.cB e;refine wpAny_in_of (Bp ry) hd dd.mapOf ?_;rw [<-(rel.val k).qo,<-l];exact h _ (I.tok _)
 ·subst ey;cases (show u=eQ b from ry);obtain⟨z,hd,xs,rel,dd⟩:=zt I.cB e;refine wpAny_in_heap (uM hu) (vD I.cB eb) hd dd ?_;have q:=(rel.val k).qo;rw [nA] at q;rw [<-q,<-l];exact h _ (I.tok _)
theorem NF{Q:Value->az->Prop}(hu:A.units+1 < cLine)(I:Inv X ZB σ H s)(g:BU H a y o)(ry:RelV y u)(h:∀ s',Inv X ZB σ H s'->Q (.bool (!o.isSome)) s') :
  wpAny (model X.prog X.w) A (eO .NotIn u (.ref a)) Q E s:=by
 rcases g with ⟨WP,k,e,ey,l⟩ | ⟨WP,k,b,e,ey,eb,l⟩
 ·subst ey;obtain⟨z,hd,vs,rel,dd⟩:=xr I.cB e;refine wpAny_notIn_of (Bp ry) hd dd.mapOf ?_;rw [<-(rel.val k).qo,<-l];exact h _ (I.tok _)
 ·subst ey;cases (show u=eQ b from ry);obtain⟨z,hd,xs,rel,dd⟩:=zt I.cB e;refine wpAny_notIn_heap (uM hu) (vD I.cB eb) hd dd ?_;have q:=(rel.val k).qo;rw [nA] at q;rw [<-q,<-l];exact h _ (I.tok _)
theorem FD{h':Heap}{t':Nat}{ob:HO}(I:Inv X ZB σ H s)(mu:Mut (H a))(hs:g8 a s.heap h')(he:∃ q,h'.get? a=some q)(new:ij X.prog X.w (upd H a ob) h' a ob) :
  Inv X ZB σ (upd H a ob) { s with heap:=h',toks:=t' } :=
 I.write (x:=a) (e:=a) mu (.inl rfl) (fun b q hb z=>(hs.2 b hb).trans z) he new
theorem Yc{P:bT}{w:World}{H':Hp}{h':Heap}{WP:List (Key×V)}{vs:List (Key×Value)}(z:WP.length<=bx)(hd:(a == fv)=false)(rel:KV WP vs)(dd:h'.DictOf (cA P w) a vs) :
  ij P w H' h' a (.dK WP):=⟨z,hd,vs,rel,dd⟩
theorem Ph{H':Hp}{Q:Unit->az->Prop}(hu:A.units+1 < cLine)(I:Inv X ZB σ H s)(g:PB H a y v H')(ry:RelV y u)(rv:RelV v r)(h:∀ s',Inv X ZB σ H' s'->Q () s') :
  wpAny (model X.prog X.w) A (setItem (.ref a) u r) Q E s:=by
 rcases g with ⟨WP,k,e,ey,l,eH⟩ | ⟨WP,k,b,e,ey,eb,l,eH⟩
 ·subst ey eH;obtain⟨z,hd,vs,rel,dd⟩:=Nz I.cB e;have hz:vs.length<=bx:=by rw [<-rel.length]; exact z
  have hl:(putK WP k v).length<=bx:=by have:=zi WP k v; lia
  refine wpAny_setItem_pairs (hsz:=hz) (Bp ry) dd fun h' Ye hs=>h _ ?_;have he:∃ q,h'.get? a=some q:=let ⟨q,_,_,hq,_⟩:=Ye; ⟨q,hq⟩
  exact FD I (by rw [e]; exact i4) hs he (Yc hl hd (rel.put k rv) Ye)
 ·subst ey eH;cases (show u=eQ b from ry);obtain⟨z,hd,xs,rel,dd⟩:=SD I.cB e;have hz:xs.length<=bx:=by rw [<-gX rel]; exact z
  have hl:(putK WP k v).length<=bx:=by have:=zi WP k v; lia
  refine wpAny_setItem_heap (hsz:=hz) (uM hu) (vD I.cB eb) dd fun h' Ye hs=>h _ ?_;obtain⟨q,es,ep,hq,h2,h3,h4,_,h5⟩:=Ye;refine FD I (by rw [e]; exact i4) hs ⟨q,hq⟩ ⟨hl,hd,_,(rel.put k eb rv).keeps fun c ys ec=>?_,q,es,ep,hq,h2,h3,h4,h5⟩;rw [bR (ZO ec e (fun z=>nomatch z))];exact ec
end
section
variable {X:Cx} {ZB:List (Addr×Obj)} {σ:St} {H:Hp} {s:az} {a:Addr} {WP:List (Key×V)} {k:Key} {u:Value} {A:eu} {E:Value->az->Prop}
theorem V7 {Q:Value->az->Prop} (I:Inv X ZB σ H s) (e:Rd H a (.dK WP)) (h:∀ t s',Inv X ZB σ H s'->Q (.int WP.length t) s'):wpAny (model X.prog X.w) A (call (.builtin "len") [.ref a]) Q E s:=by
 obtain⟨z,hd,vs,rel,dd⟩:=xr I.cB e;refine call_len_dict hd dd (by rw [<-rel.length]; rw [cC] at z; lia) ?_;rw [<-rel.length];exact h _ _ (I.tok _)
theorem Vr{Q:Bool->az->Prop}(I:Inv X ZB σ H s)(e:Rd H a (.dK WP))(h:∀ s',Inv X ZB σ H s'->Q (!WP.isEmpty) s'):wpAny (model X.prog X.w) A (truthy (.ref a)) Q E s:=by
 obtain⟨z,hd,vs,rel,dd⟩:=xr I.cB e;refine JI hd dd (by rw [<-rel.length]; rw [cC] at z; lia) ?_;have q:WP.isEmpty=vs.isEmpty:=by cases rel <;> rfl
 rw [<-q];exact h _ (I.tok _)
end
theorem tS {X:Cx} {ZB:List (Addr×Obj)} {σ:St} {H:Hp} {s:az} {a:Addr} {y:V} {o:Option V} (I:Inv X ZB σ H s) (g:BU H a y o):s.TypeIs (.ref a) "dict":=by
 rcases g with ⟨WP,k,e,_,_⟩ | ⟨WP,k,b,e,_,_,_⟩
 ·obtain⟨_,_,vs,_,dd⟩:=xr I.cB e;exact dd.typeIs
 ·obtain⟨_,_,xs,_,dd⟩:=zt I.cB e;exact dd.typeIs
theorem SG {P:bT} {w:World} {H:Hp} (h:Heap) (hb:fv < h.objs.size):ij P w H (h.push { cls:=.type "dict",data:=.dict #[] }) h.objs.size (.dK []) :=
 ⟨cP _,beq_eq_false_iff_ne.mpr (fB (bQ hb)),[],.nil,Heap.DictOf.new h⟩
def Wy:TE:=fun _ H Q=>∀ p,H p=none->Q (.ref p) (upd H p (.dK []))
section
variable {X:Cx} {pos:Pos}
theorem Q9:PE X (.Dict [] [] pos) Wy:=fun ZB s σ H Q I h =>
 wpAny_Dict_empty ⟨.ref s.heap.objs.size,_,I.laid (a:=s.heap.objs.size) (o:=.dK []) (t':=s.toks) (fun _ _ q=>aN _ q) (aK _) (SG s.heap I.big),rfl,h _ (I.cB.fresh (aK _))⟩
end
structure M1(X:Cx)(o:Expr)(m:Str)(apos:Pos)(e:Expr)(jh:Pos):Prop where
 base:x8 o m X.env (eval o X.env)=eval o X.env
 nE:((iT jh (bJ [e] X.env)).all (fun x=>!x.1)&&(backToKw jh (keywordEach [] X.env)).all (fun x=>x.1.isSome)
  && decide (([e]:List Expr).length+([]:List Qg).length+(if ([]:List Qg).isEmpty then 0 else 1) < 30))=true
 line:(apos.endLine == jh.line)=true
 trees:iT jh (bJ [e] X.env)=[(false,eval e X.env)]
structure M2(X:Cx)(o:Expr)(m:Str)(apos:Pos)(e f:Expr)(jh:Pos):Prop where
 base:x8 o m X.env (eval o X.env)=eval o X.env
 nE:((iT jh (bJ [e,f] X.env)).all (fun x=>!x.1)&&(backToKw jh (keywordEach [] X.env)).all (fun x=>x.1.isSome)
  && decide (([e,f]:List Expr).length+([]:List Qg).length+(if ([]:List Qg).isEmpty then 0 else 1) < 30))=true
 line:(apos.endLine == jh.line)=true
 trees:iT jh (bJ [e,f] X.env)=[(false,eval e X.env),(false,eval f X.env)]
def IsD(H:Hp)(a:Addr):Prop:=(∃ WP,Rd H a (.dK WP))\/∃ WP,Rd H a (.dT WP)
theorem RI{X:Cx}{ZB:List (Addr×Obj)}{σ:St}{H:Hp}{s:az}{a:Addr}(I:Inv X ZB σ H s)(d:IsD H a) :
  s.TypeIs (.ref a) "dict"/\(∀ b,eQ a=.ref b->∃ ob,s.heap.get? b=some ob/\ob.dict=none)/\(a == fv)=false:=by
 rcases d with ⟨WP,e⟩ | ⟨WP,e⟩
 ·obtain⟨_,hd,vs,_,dd⟩:=xr I.cB e;refine⟨dd.typeIs,fun b q=>?_,hd⟩;cases q;obtain⟨ob,_,_,h1,h2,_⟩:=dd;exact⟨ob,h1,h2.2.1⟩
 ·obtain⟨_,hd,xs,_,dd⟩:=zt I.cB e;refine⟨dd.typeIs,fun b q=>?_,hd⟩;cases q;obtain⟨ob,_,_,h1,h2,_⟩:=dd;exact⟨ob,h1,h2.2.1⟩
end L2
namespace Att
open PySem PySem.W PySem.Calls PyProof.Rows
theorem zH{P:Params}{h:Heap}:∀ (ns:List Int) (vs:List Value),WellAll P h vs (ns.map WData.int)->qH vs ns:=by
 intro ns;induction ns with
 | nil =>
  intro vs w;rw [aX] at w;cases w;exact .nil
 | cons n ns ih =>
  intro vs w;rw [av] at w;cases w with
  | cons a b =>
   cases a;exact .cons _ _ (ih _ b)
theorem Oi{l:OpenLaw}{n:Nat}(hn:l.most=some n){P:Params}{h:Heap}{args:List WData}{vals:List Value}
  (OW:l.row.toRowW.claim.pre args=true) (hwl:WellAll P h vals args) :
  ∃ a vs ns,vals=[eQ a]/\args=[WData.list (ns.map WData.int)]/\h.get? a=some { cls:=.type "list",data:=.seq vs.toArray }/\qH vs ns/\ns.length<=n:=by
 have hsh:WShape.hasAll [] args [.list .int]=true:=(pre_splitW OW).1;have hc:l.pre.holds [] { args:=args } = true:=(pre_splitW OW).2;obtain⟨d,r,rfl,h1,h2⟩:=hasAllW_cons hsh;obtain rfl:=hasAllW_nil h2;obtain⟨xs,rfl,h3⟩:=hasW_list h1;obtain⟨ns,rfl⟩:=items_int h3;have hlen:ns.length<=n:=by
  unfold OpenLaw.pre at hc;have h4:(WTm.not (.lt (.lit (.int (n:Int))) (.len (.arg 0)))).holds [] { args:=[.list (ns.map .int)] } = true:=by
   have h4:=(holds_andW hc).1;rw [hn] at h4;exact h4
  have h5:=condW_of h4 (w_not (w_lt w_lit (w_len_list (w_arg rfl))));rw [ag] at h5;refine Nat.le_of_not_lt fun q=>?_;have q':(n:Int) < ((ns.length:Nat):Int):=by lia
  first
   | (rw [decide_eq_true q'] at h5; exact absurd h5 (by decide))
   | (simp at h5; lia)
 cases hwl with
 | cons w1 w2 =>
  cases w2;cases w1 with
  | list ho rn=>exact⟨_,_,ns,rfl,rfl,ho,zH ns _ rn,hlen⟩
theorem OA(l:OpenLaw)(args:List WData):l.row.toRowW.claim.post args (.bool true) args=true :=
 postW_of (r:=l.row.toRowW) (X:=(true == true))
  (show WShape.has [] (.bool true) .bool=true by first | rfl | decide | simp [WShape.has,WShape.arms,WShape.armsAll])
  (show (WTm.eq .res (.lit (.bool true))).value [] { args:=args,res:=some (.bool true),after:=args } = some (.bool (true == true)) from w_eq_bool (w_res rfl) w_lit) rfl
theorem Jf{l:OpenLaw}{n:Nat}{q:bT}{loose:List Str}{XP:(Str->Option Value)->Heap->Prop}{YP:World->Heap->Prop}{d:DefRec}
  (hn:l.most=some n) (hdf:d.params.defaults=[])
  (call:∀ (w:World) (jv gx:az) (mg mb:Str->Option Value) (fa:Addr) (o:Obj) (pm cd doc:Value) (a:Addr) (vs:List Value) (ns:List Int),
   Ground q loose [] XP w jv mg mb gx.heap->YP w gx.heap ->
   gx.heap.get? fa=some o->o.data=.func (docDef d.name d.params d.body d.scope pm cd doc)->gx.heap.CodeRec cd d.name->mg d.name=some (.ref fa) ->
   gx.heap.get? a=some { cls:=.type "list",data:=.seq vs.toArray }->qH vs ns->ns.length<=n->gx.gens=#[] ->
   xY (model l.prog w) JP (.call (.ref fa) ⟨[.ref a],[]⟩) (fun r s'=>r=.ok (.ret (.bool true))/\OldK gx.heap s'.heap/\s'.os=gx.os/\AA s'.gens) gx) :
  WalkO q loose XP YP l.row.toRowW d [] (fun f vs=>Md f vs):=by
 intro w jv gx mg mb G Y fa o pm cd doc dV kV ho hd Gs hD hmg hg args vals as OW ahw hrd hwl hlo;obtain rfl:dV=.none:=Dflts.none hD hdf;obtain rfl:kV=.none:=Dflts.noKw hD;obtain⟨a,vs,ns,rfl,rfl,XQ,hints,hlen⟩:=Oi hn OW hwl;refine enter_call (p9 (call w jv gx mg mb fa o pm cd doc a vs ns G Y ho (fd_plain hd) Gs hmg XQ hints hlen hg) fun r s' hq=>?_);obtain⟨rfl,h2,h3,h4⟩:=hq;exact⟨.inl ⟨.bool true,.bool true,[],rfl,fun _=>rfl,.bool true,OA l _,fun _=>⟨List.Pairwise.nil,fun _ hm=>(nomatch hm)⟩⟩,h2,h3,h4⟩
end Att
namespace L2
open PySem PySem.Spec PyProof.Rows
theorem CV:∀ {vs:List Value} {ns:List Int},qH vs ns->Vals (ns.map V.int) vs
 | _,_,.nil=>.nil
 | _,_,.cons n t h=>.cons ⟨t,rfl⟩ (CV h)
def VF(H:Hp):Prop:=∀ b,H b=none\/∃ o xs,H b=some (.lB o (.lst xs))
theorem Rz{P:bT}{w:World}{K:ak}{mg mb:Str->Option Value}{CX:PC}{k:Nat}{fa a:Addr}{fd:aG}{x:Str}{sp:Sp}{gx:az}{vs:List Value}{ns:List Int}
  (KX:K.In gx.heap) (OY:gx.heap.Ns bP mg) (hb:gx.heap.Ns builtinsNs mb) (hbb:∀ x:Str,x≠"__name__"->mb x=fH x) (adP:gx.heap.NoLimit) (hg:gx.gens=#[])
  (ha:gx.heap.get? a=some { cls:=.type "list",data:=.seq vs.toArray }) (hi:qH vs ns) (hl:ns.length<=bx) (hr:lM k JP)
  (F:∀ base:Heap,K.In base->base.Ns bP mg->gf P w K mg base CX k fa fd [x] sp) (aap:∀ (s:az) (u:Value),Qh s fd ⟨[u],[]⟩ [(x,u)])
  (RS:∀ H:Hp,VF H->rW K H a (ns.map V.int)->sp [.ref a] H (fun v _=>v=.bl true) fun _ _ _=>False)
  (hCX:∀ H e s',CX [] H gx (fun _ _ _=>False) e s'->False) :
  xY (model P w) JP (.call (.ref fa) ⟨[.ref a],[]⟩) (fun r s'=>r=.ok (.ret (.bool true))/\OldK gx.heap s'.heap/\s'.os=gx.os/\AA s'.gens) gx:=by
 have rv:=CV hi;have adb:=hi.length;have core:∀ H:Hp,VF H->rW K H a (ns.map V.int)->sf P w H gx.heap->(∀ b,H b≠none->b=a)->(H a≠none->K.lookup a=none) ->
   xY (model P w) JP (.call (.ref fa) ⟨[.ref a],[]⟩) (fun r s'=>r=.ok (.ret (.bool true))/\OldK gx.heap s'.heap/\s'.os=gx.os/\AA s'.gens) gx:=by
  intro H hO hS cB hA hK;have NM:∀ {b:Addr} {o:Obj},gx.heap.get? b=some o->H b=none->(Fc gx.heap H).get? b=some o:=fun e n=>R8 e n;have ZM:∀ {b:Addr} {o:Obj} {es:Array iV} {ep:Nat},gx.heap.get? b=some o->o.data=.dict es ep->H b=none:=fun {b o es ep} e d=>by
   cases q:H b with
   | none=>rfl
   | some u =>
    have e':b=a:=hA b (by rw [q]; simp);subst e';rw [ha] at e; cases e;have d':Data.seq vs.toArray _=Data.dict es ep:=d;cases d'
  have nsK:∀ {b:Addr} {m:Str->Option Value},gx.heap.Ns b m->(Fc gx.heap H).Ns b m:=fun {b m} ⟨o,es,ep,e,d,r⟩=>⟨o,es,ep,NM e (ZM e d),d,r⟩;have hKb:K.In (Fc gx.heap H):=fun b o e=>NM (KX b o e) (by
   cases q:H b with
   | none=>rfl
   | some u =>
    have e':b=a:=hA b (by rw [q]; simp);subst e';rw [hK (by rw [q]; simp)] at e; cases e)
  have hM:Mod K mg (Fc gx.heap H):=⟨hKb,nsK OY,⟨mb,nsK hb,hbb⟩,let ⟨mc,h1,h2⟩:=adP; ⟨mc,nsK h1,h2⟩⟩;have e0:Tn P w K mg (Fc gx.heap H) JP [] gx H:=⟨rfl,hM,fun b o e=>U0 e,Nat.le_of_eq (OZ _ _),trivial,fun b hb=>absurd (show b∈([]:List Addr) from hb) (by simp),cB,.of_eq hg⟩;refine p9 ((F _ hKb (nsK OY)).run JP [] gx H ⟨[.ref a],[]⟩ [.ref a] [.ref a] _ _ hr e0 (aap gx (.ref a)) (.cons rfl .nil) (RS H hO hS)) fun r s' h=>?_;cases r with
  | error e=>exact(hCX H e s' h).elim
  | ok fl =>
   cases fl with
   | next=>exact bY h
   | brk=>exact bY h
   | cont=>exact bY h
   | ret u =>
    obtain⟨v,H',os,bare,un,Lh,r',q⟩:=h;have q':v=.bl true:=q;subst q';obtain rfl:u=B9 true:=r';refine⟨rfl,OldK.of_keep fun b o e=>?_,os,bare⟩;cases q:H b with
    | none=>exact un.keep b o e q (by intro z; exact absurd (show b∈([]:List Addr) from z) (by simp)) (by simp)
    | some u =>
     rcases hO b with z | ⟨ob,xs,z⟩
     ·rw [q] at z; cases z
     ·have z2:=un.rq b ob _ z;obtain⟨e1,_⟩:=cB b _ z;obtain⟨e2,_⟩:=Lh b _ z2;rw [e] at e1; cases e1;exact e2
 cases hk:K.lookup a with
 | some o =>
  have e:=KX a o hk;rw [ha] at e;cases e;refine core (fun _=>none) (fun _=>.inl rfl) (.inr ⟨_,vs.toArray,_,hk,rfl,rfl,rfl,by rw [a8,adb]; exact hl,by simpa using rv⟩) (fun b u z=>by have z':(none:Option HO)=some u:=z; cases z') (fun b z=>absurd rfl z) fun z=>absurd rfl z
 | none =>
  refine core (fun b=>if b=a then some (.lB { cls:=.type "list",data:=.seq vs.toArray } (.lst (ns.map V.int))) else none) (fun b=>?_) (.inl (.inr ⟨{ cls:=.type "list",data:=.seq vs.toArray },if_pos rfl⟩)) (fun b u z=>?_) (fun b z=>?_) fun _=>hk
  ·by_cases hb:b=a
   ·exact .inr ⟨_,_,if_pos hb⟩
   ·exact .inl (if_neg hb)
  ·by_cases hb:b=a
   ·have z':=(if_pos hb).symm.trans z;cases z';subst hb;exact⟨ha,by rw [ag]; exact hl,vs,_,rv,ha⟩
   ·have z':=(if_neg hb).symm.trans z;cases z'
  ·by_cases hb:b=a
   ·exact hb
   ·exact absurd (if_neg hb) z
theorem Ul{l:D1}{n k:Nat}{q:bT}{loose:List Str}{XP:(Str->Option Value)->Heap->Prop}{YP:World->Heap->Prop}{d:DefRec}{K:Params->ak}{CX:World->PC}{sp:World->Sp}{x:Str}
  (hn:l.most=some n) (hn2:n<=bx) (hdf:d.params.defaults=[]) (hr:lM k JP)
  (hY:∀ (w:World) (h:Heap),YP w h->(K w.params).In h)
  (F:∀ (w:World) (mg:Str->Option Value) (fa:Addr) (h:Heap),(K w.params).In h->h.Ns bP mg->mg d.name=some (.ref fa) ->
   ∃ fd:aG,(∀ (s:az) (u:Value),Qh s fd ⟨[u],[]⟩ [(x,u)]) /\
    ∀ base:Heap,(K w.params).In base->base.Ns bP mg->gf l.prog w (K w.params) mg base (CX w) k fa fd [x] (sp w))
  (RS:∀ (w:World) (H:Hp) (a:Addr) (ns:List Int),ns.length<=n->VF H->rW (K w.params) H a (ns.map V.int)->sp w [.ref a] H (fun v _=>v=.bl true) fun _ _ _=>False)
  (hCX:∀ (w:World) (H:Hp) (s:az) (e:Value) (s':az),CX w [] H s (fun _ _ _=>False) e s'->False) :
  PySem.W.WalkO q loose XP YP l.row.toRowW d [] (fun f vs=>Md f vs):=by
 refine Att.Jf hn hdf fun w jv gx mg mb fa o pm cd doc a vs ns G Y ho hd Gs hmg XQ hints hlen hg=>?_;have KX:=hY w _ Y;obtain⟨fd,hb,hF⟩:=F w mg fa _ KX G.T.g hmg;exact Rz KX G.T.g G.T.b G.T.builtins G.T.nolimit hg XQ hints (cw hlen hn2) hr hF hb (fun H hO hS=>RS w H a ns hlen hO hS) fun H e s'=>hCX w H gx e s'
end L2
/- THE aj0 abB (shape; LID,My.* are aeG):
   My.Adr: a structure of the addresses agi aga afa names (classes,YI); My.Txt K t: a structure (Prop) of the equations over K;
   My.ab7:{K} {implicit addresses ..} (e1:nsIn K bP "law" = some (some (.ref f))) (e2:K.lookup f=some ⟨oc,od,.func (fnOf "law" "law" params body scope dV kV doc pm an oh ct),sl⟩) (e3:codeIn K oh "law" = true) ..:∃ t,My.Txt K t
(the tactic k_is has no namespace: write k_is) -/
namespace L2
open PySem PySem.Spec PyProof.Rows
def pH(s:Stmt):Arguments:=match s with
 | .FunctionDef _ a _ _ _ _ _ _ _ _=>a
 | _=>{ posonlyargs:=[],args:=[],vararg:=none,kwonlyargs:=[],kw_defaults:=[],kwarg:=none,defaults:=[] }
def jQ(s:Stmt):List Stmt:=match s with
 | .FunctionDef _ _ b _ _ _ _ _ _ _=>b
 | _=>[]
def aT(s:Stmt):Scope:=match s with
 | .FunctionDef _ _ _ _ _ _ sc _ _ _=>sc
 | _=>{ kind:=.function,names:=[],isGenerator:=false,isCoroutine:=false }
abbrev gP:PC:=fun _ _ _ _ _ _=>False
abbrev E0:XK:=fun _ _ _=>False
theorem Zv{X:Cx}:Passes gP X E0:=fun _ _ _ _ _ _ _ h=>h.elim
structure oj(K:ak)(x qual:Str)(st:Stmt)(f:Addr)(fd:aG):Prop where
 ex:∃ (oc:Value) (od:Option Addr) (kV doc pm:Value) (an:Option Addr) (oh ct:Value) (PS:Array (Option Value)),
  fd=lH x qual (pH st) (jQ st) (aT st) .none kV doc pm an oh ct/\K.lookup f=some ⟨oc,od,.func fd,PS⟩/\GF K oh qual=true
 kp:ji K (.ref f)=true
section
variable {P:bT} {w:World} {K:ak} {mg:Str->Option Value} {base:Heap}
theorem oj.ok{x qual:Str}{st:Stmt}{f:Addr}{fd:aG}{N ps:List Str}{k:Nat}{sp:Sp}(F:oj K x qual st f fd)(S:cx N ps (aT st))(len:∀ vs H Q E,sp vs H Q E->vs.length=ps.length)
  (Sb:∀ (oh:Value) (A:eu) (outer:List Env) (s:az) (H:Hp) (vs:List V) (Q:VK) (E:XK),lM k (A.deeper (Au qual (aT st) s.heap.objs.size f oh))->sp vs H Q E ->
   ∃ t,YO (yP gP P w K mg base N qual (aT st) f oh A outer s H E).Yz (jQ st) t/\t { nx:=fun _ H'=>Q .dh H',rt:=Q } (start N vs) H):gf P w K mg base gP (k+1) f fd ps sp:=by
 obtain⟨oc,od,kV,doc,pm,an,oh,ct,PS,rfl,lk,Gs⟩:=F.ex;refine V6 lk Gs S len fun A outer s H vs Q E hr RS=>?_;obtain⟨t,h,q⟩:=Sb oh A outer s H vs Q E hr RS;exact⟨t,h.Yz,q⟩
theorem oj.binds{x qual:Str}{st:Stmt}{f:Addr}{fd:aG}{ps:List Str}(F:oj K x qual st f fd)
  (h:∀ (kV doc pm:Value) (an:Option Addr) (oh ct:Value) (us:List Value),us.length=ps.length->bindArgs (lH x qual (pH st) (jQ st) (aT st) .none kV doc pm an oh ct) ⟨us,[]⟩=pure (ps.zip us)):Binds K fd ps []:=by
 obtain⟨oc,od,kV,doc,pm,an,oh,ct,PS,rfl,lk,Gs⟩:=F.ex;exact .all (h kV doc pm an oh ct)
theorem X6{x qual:Str}{st:Stmt}{f:Addr}{oc:Value}{od an:Option Addr}{PS:Array (Option Value)}{kV doc pm oh ct:Value}(l:K.lookup f=some ⟨oc,od,.func (lH x qual (pH st) (jQ st) (aT st) .none kV doc pm an oh ct),PS⟩)
  (c:GF K oh qual=true) (k:ji K (.ref f)=true):oj K x qual st f (lH x qual (pH st) (jQ st) (aT st) .none kV doc pm an oh ct):=⟨⟨oc,od,kV,doc,pm,an,oh,ct,PS,rfl,l,c⟩,k⟩
end
end L2
set_option autoImplicit false
section
namespace K2
open PySem (Str)
inductive D where
 | dh | bl (b:Bool) | int (i:Int) | str (x:Str) | tup (ds:List D) | fx (ds:List D) | lI (WP:List (D×D)) | ref (a:Nat) | exc (c:Str)
 deriving Inhabited
inductive GO where
 | lst (ds:List D)
 | jg (WP:List (D×D))
abbrev Gp:=Nat->Option GO
def fG(G:Gp)(a:Nat)(o:GO):Gp:=fun b=>if b=a then some o else G b
theorem aM{G:Gp}{a:Nat}{o:GO}:fG G a o a=some o:=by unfold fG; rw [if_pos rfl]
theorem fe{G:Gp}{a b:Nat}{o:GO}(h:b≠a):fG G a o b=G b:=by unfold fG; rw [if_neg h]
abbrev SZ:Nat:=16777216
structure Ex where
 cls:Str
 aio:List (Str×D)
abbrev md:=Ex->Gp->Prop
abbrev iS:=List (Option D)
abbrev DK:=D->Gp->Prop
abbrev gN:=md->iS->Gp->DK->Prop
abbrev zM:=md->iS->Gp->(Bool->Gp->Prop)->Prop
abbrev CF:=md->iS->Gp->(List D->Gp->Prop)->Prop
structure nF where
 nx:iS->Gp->Prop
 rt:DK
 bk:iS->Gp->Prop
 ct:iS->Gp->Prop
abbrev iC:=md->nF->iS->Gp->Prop
abbrev mw:=List D->Gp->DK->md->Prop
abbrev B7:=D->D->Gp->DK->Prop
def Fb(n:Nat)(i:Int):Option Nat:=if 0<=i then (if i < n then some i.toNat else none) else if -(n:Int)<=i then some (i+n).toNat else none
def pL{α:Type}(xs:List α)(i:Int):Option α:=(Fb xs.length i).bind fun j=>xs[j]?
def kE(n d:Nat):Option Int->Nat
 | none=>d
 | some v=>if v < 0 then (v+(n:Int)).toNat else min v.toNat n
def cut{α:Type}(xs:List α)(lo hi:Option Int):List α:=(xs.drop (kE xs.length 0 lo)).take (kE xs.length xs.length hi - kE xs.length 0 lo)
mutual
def jf:D->D->Bool
 | .dh,.dh=>true
 | .bl a,.bl b=>a == b
 | .bl a,.int b=>(if a then 1 else 0) == b
 | .int a,.bl b=>a == (if b then 1 else 0)
 | .int a,.int b=>a == b
 | .str a,.str b=>a == b
 | .tup a,.tup b=>mF a b
 | .fx a,.fx b=>mF a b
 | _,_=>false
def mF:List D->List D->Bool
 | [],[]=>true
 | a :: r,b :: t=>jf a b&&mF r t
 | _,_=>false
end
mutual
def nr:D->Bool
 | .ref _=>false
 | .exc _=>false
 | .lI _=>false
 | .str x=>x.cps.all (· < 0x110000)
 | .tup ds=>rQ ds
 | .fx ds=>rQ ds
 | _=>true
def rQ:List D->Bool
 | []=>true
 | d :: r=>nr d&&rQ r
end
class inductive Sn (G:Gp):Nat->D->D->Prop
 | dh {n:Nat}:Sn G n .dh .dh
 | bl {n:Nat} (b:Bool):Sn G n (.bl b) (.bl b)
 | int {n:Nat} (i:Int):Sn G n (.int i) (.int i)
 | str {n:Nat} (x:Str) (h:x.cps.all (· < 0x110000)=true):Sn G n (.str x) (.str x)
 | Er {n:Nat}:Sn G (n+1) (.tup []) (.tup [])
 | om {n:Nat} {d s:D} {ds ss:List D}:Sn G n d s->Sn G (n+1) (.tup ds) (.tup ss)->Sn G (n+1) (.tup (d :: ds)) (.tup (s :: ss))
 | EG {n:Nat}:Sn G (n+1) (.fx []) (.fx [])
 | zh {n:Nat} {d s:D} {ds ss:List D}:Sn G n d s->Sn G (n+1) (.fx ds) (.fx ss)->Sn G (n+1) (.fx (d :: ds)) (.fx (s :: ss))
 | ref {n:Nat} {a:Nat} {ds ss:List D}:G a=some (.lst ds)->Sn G n (.fx ds) (.fx ss)->Sn G n (.ref a) (.fx ss)
abbrev SN:Nat:=8
theorem Sn.nr{G:Gp}{n:Nat}{d t:D}(h:Sn G n d t):K2.nr t=true:=by
 induction h with
 | dh=>rfl
 | bl b=>rfl
 | int i=>rfl
 | str x h=>exact h
 | Er=>rfl
 | om _ _ RO RN =>
  show (K2.nr _&&K2.rQ _)=true;rw [RO];exact RN
 | EG=>rfl
 | zh _ _ RO RN =>
  show (K2.nr _&&K2.rQ _)=true;rw [RO];exact RN
 | ref _ _ ih=>exact ih
def gb:D->Bool
 | .int _=>true
 | .str _=>true
 | _=>false
def Oc:D->Gp->Option Bool
 | .dh,_=>some false
 | .bl b,_=>some b
 | .int i,_=>some (i != 0)
 | .str x,_=>if x.length<=SZ then some ((x.length:Int) != 0) else none
 | .tup ds,_=>some (!ds.isEmpty)
 | .fx ds,_=>some (!ds.isEmpty)
 | .exc _,_=>none
 | .lI WP,_=>if (WP.all fun p=>gb p.1)=true then some (!WP.isEmpty) else none
 | .ref a,G=>match G a with
  | some (.lst ds)=>some (!ds.isEmpty)
  | some (.jg WP)=>if (WP.all fun p=>gb p.1)=true then some (!WP.isEmpty) else none
  | none=>none
def au(i:Nat):gN:=fun _ τ G Q=>match τ[i]? with
 | some (some d)=>Q d G
 | _=>False
def dC(d:D):gN:=fun _ _ G Q=>Q d G
def bc:CF:=fun _ _ G Q=>Q [] G
def aB(a:gN)(r:CF):CF:=fun E τ G Q=>a E τ G fun x G1=>r E τ G1 fun xs G2=>Q (x :: xs) G2
def iZ(t:CF):gN:=fun E τ G Q=>t E τ G fun ds G1=>ds.length<=SZ/\Q (.tup ds) G1
def nq(t:CF):gN:=fun E τ G Q=>t E τ G fun ds G1=>ds.length<=SZ/\∀ p,G1 p=none->Q (.ref p) (fG G1 p (.lst ds))
def a9(r:B7)(a b:gN):gN:=fun E τ G Q=>a E τ G fun x G1=>b E τ G1 fun y G2=>r x y G2 Q
def NG(r:D->Gp->DK->Prop)(a:gN):gN:=fun E τ G Q=>a E τ G fun x G1=>r x G1 Q
def jH(G:Gp)(o:GO)(Q:DK):Prop:=∀ p,G p=none->Q (.ref p) (fG G p o)
def MulOk(i j:Int):Prop:=(-(2 ^ 64) < i/\i < 2 ^ 64)\/(-(2 ^ 64) < j/\j < 2 ^ 64)
def pD:D->Gp->Option (List D)
 | .fx ds,_=>some ds
 | .ref a,G=>match G a with
  | some (.lst ds)=>some ds
  | _=>none
 | _,_=>none
def LS(x y:D)(G:Gp)(Q:DK):Prop:=match pD x G,pD y G with
 | some xs,some ys=>xs.length+ys.length<=SZ/\jH G (.lst (xs++ys)) Q
 | _,_=>False
def se:B7
 | .int i,.int j,G,Q=>Q (.int (i+j)) G
 | .str a,.str b,G,Q=>a.length+b.length<=SZ/\Q (.str (a++b)) G
 | .tup a,.tup b,G,Q=>a≠[]/\a.length+b.length<=SZ/\Q (.tup (a++b)) G
 | x,y,G,Q=>LS x y G Q
def vo:B7
 | .int i,.int j,G,Q=>Q (.int (i - j)) G
 | _,_,_,_=>False
def wQ:B7
 | .int i,.int j,G,Q=>MulOk i j/\Q (.int (i * j)) G
 | _,_,_,_=>False
def mW:B7
 | .int i,.int j,G,Q=>0 < j/\Q (.int (i % j)) G
 | _,_,_,_=>False
def u3:B7
 | .int i,.int j,G,Q=>0 < j/\j < 2 ^ 30/\Q (.int (i / j)) G
 | _,_,_,_=>False
def Oq:D->Gp->DK->Prop
 | .int i,G,Q=>Q (.int (-i)) G
 | _,_,_=>False
def A1(neg:Bool):B7:=fun x y G Q=>∃ a b,Sn G SN x a/\Sn G SN y b/\Q (.bl (if neg then !jf a b else jf a b)) G
def lexLt:List Int->List Int->Bool
 | [],[]=>false
 | [],_ :: _=>true
 | _ :: _,[]=>false
 | x :: xs,y :: ys=>if x=y then lexLt xs ys else decide (x < y)
def Zq:B7
 | .int i,.int j,G,Q=>Q (.bl (decide (i < j))) G
 | .tup a,.tup b,G,Q=>∃ xs ys,a=xs.map D.int/\b=ys.map D.int/\Q (.bl (lexLt xs ys)) G
 | _,_,_,_=>False
def rLe:B7
 | .int i,.int j,G,Q=>Q (.bl (decide (i<=j))) G
 | _,_,_,_=>False
def Yw:B7
 | .int i,.int j,G,Q=>Q (.bl (decide (i > j))) G
 | _,_,_,_=>False
def rGe:B7
 | .int i,.int j,G,Q=>Q (.bl (decide (i>=j))) G
 | _,_,_,_=>False
def Ot(neg:Bool):D->Gp->DK->Prop:=fun x G Q=>match x with
 | .dh=>Q (.bl (!neg)) G
 | _=>Q (.bl neg) G
def itemsOf:D->Gp->Option (List D)
 | .tup ds,_=>some ds
 | .fx ds,_=>some ds
 | .ref a,G=>match G a with
  | some (.lst ds)=>some ds
  | _=>none
 | _,_=>none
def mY:D->Bool
 | .tup ds=>ds.all gb
 | _=>false
def jD(WP:List (D×D))(k:D):Bool:=(gb k&&WP.all fun p=>gb p.1)||(mY k&&WP.all fun p=>mY p.1)
def look(WP:List (D×D))(k:D):Option D:=(WP.find? fun p=>jf p.1 k).map (·.2)
def put(WP:List (D×D))(k v:D):List (D×D) :=
 if (WP.any fun p=>jf p.1 k)=true then WP.map (fun p=>if jf p.1 k=true then (p.1,v) else p) else WP++[(k,v)]
def KO(neg:Bool):B7:=fun x y G Q=>match y with
 | .ref a=>(match G a with
  | some (.jg WP)=>jD WP x=true/\Q (.bl (if neg then !(look WP x).isSome else (look WP x).isSome)) G
  | some (.lst ds)=>∃ s ss,Sn G SN x s/\Sn G SN (.fx ds) (.fx ss)/\Q (.bl (if neg then !ss.any (jf · s) else ss.any (jf · s))) G
  | none=>False)
 | .lI WP=>WP≠[]/\jD WP x=true/\Q (.bl (if neg then !(look WP x).isSome else (look WP x).isSome)) G
 | .tup ds=>∃ s ss,Sn G SN x s/\Sn G SN (.fx ds) (.fx ss)/\Q (.bl (if neg then !ss.any (jf · s) else ss.any (jf · s))) G
 | .fx ds=>∃ s ss,Sn G SN x s/\Sn G SN (.fx ds) (.fx ss)/\Q (.bl (if neg then !ss.any (jf · s) else ss.any (jf · s))) G
 | _=>False
def ky:B7
 | .tup ds,.int i,G,Q=>(match pL ds i with
  | some d=>Q d G
  | none=>False)
 | .fx ds,.int i,G,Q=>(match pL ds i with
  | some d=>Q d G
  | none=>False)
 | .lI WP,k,G,Q=>jD WP k=true/\(match look WP k with
  | some d=>Q d G
  | none=>False)
 | .ref a,k,G,Q=>(match G a with
  | some (.lst ds)=>(match k with
   | .int i=>(match pL ds i with
    | some d=>Q d G
    | none=>False)
   | _=>False)
  | some (.jg WP)=>jD WP k=true/\(match look WP k with
   | some d=>Q d G
   | none=>False)
  | none=>False)
 | _,_,_,_=>False
abbrev TO2:=md->iS->Gp->(Option Int->Gp->Prop)->Prop
def gM:TO2:=fun _ _ G Q=>Q none G
def qw(t:gN):TO2:=fun E τ G Q=>t E τ G fun x G1=>match x with
 | .int i=>Q (some i) G1
 | _=>False
def WV:D->Option Int->Option Int->Gp->DK->Prop
 | .tup ds,lo,hi,G,Q=>¬ (kE ds.length 0 lo=0/\kE ds.length ds.length hi=ds.length)/\Q (.tup (cut ds lo hi)) G
 | .fx ds,lo,hi,G,Q=>jH G (.lst (cut ds lo hi)) Q
 | .ref a,lo,hi,G,Q=>(match G a with
  | some (.lst ds)=>jH G (.lst (cut ds lo hi)) Q
  | _=>False)
 | _,_,_,_,_=>False
def CB(a:gN)(lo hi:TO2):gN:=fun E τ G Q=>a E τ G fun x G1=>lo E τ G1 fun l G2=>hi E τ G2 fun h G3=>WV x l h G3 Q
def gL(a:gN):zM:=fun E τ G Q=>a E τ G fun x G1=>match Oc x G1 with
 | some b=>Q b G1
 | none=>False
def IU(a b:zM):zM:=fun E τ G Q=>a E τ G fun c G1=>if c=true then b E τ G1 Q else Q false G1
def SQ(a b:zM):zM:=fun E τ G Q=>a E τ G fun c G1=>if c=true then Q true G1 else b E τ G1 Q
def vO(a:zM):zM:=fun E τ G Q=>a E τ G fun c G1=>Q (!c) G1
def IT(a b:gN):gN:=fun E τ G Q=>a E τ G fun x G1=>match Oc x G1 with
 | some true=>b E τ G1 Q
 | some false=>Q x G1
 | none=>False
def aaL(a b:gN):gN:=fun E τ G Q=>a E τ G fun x G1=>match Oc x G1 with
 | some true=>Q x G1
 | some false=>b E τ G1 Q
 | none=>False
def SR(a:gN):gN:=fun E τ G Q=>a E τ G fun x G1=>match Oc x G1 with
 | some c=>Q (.bl (!c)) G1
 | none=>False
def YJ(c:zM)(a b:gN):gN:=fun E τ G Q=>c E τ G fun k G1=>if k=true then a E τ G1 Q else b E τ G1 Q
def bW(sp:mw)(t:CF):gN:=fun E τ G Q=>t E τ G fun ds G1=>sp ds G1 Q fun _ _=>False
def og(r:List D->Gp->DK->Prop)(t:CF):gN:=fun E τ G Q=>t E τ G fun ds G1=>r ds G1 Q
def Ce(x:D)(G:Gp):Prop:=match x with
 | .ref a=>(match G a with
  | some (.lst _)=>True
  | _=>False)
 | .fx _=>True
 | _=>False
def tyC(x:D)(G:Gp):Prop:=match x with
 | .lI _=>True
 | .ref a=>(match G a with
  | some (.jg _)=>True
  | _=>False)
 | _=>False
def tyS(x:D)(_:Gp):Prop:=match x with
 | .str _=>True
 | _=>False
def BI(ty:D->Gp->Prop)(r:D->List D->Gp->DK->Prop)(o:gN)(t:CF):gN:=fun E τ G Q=>o E τ G fun x G1=>ty x G1/\t E τ G1 fun ds G2=>r x ds G2 Q
def lenOf:D->Gp->Option Nat
 | .tup ds,_=>some ds.length
 | .fx ds,_=>some ds.length
 | .str x,_=>if x.length<=SZ then some x.length else none
 | .lI WP,_=>if (WP.all fun p=>gb p.1)=true then some WP.length else none
 | .ref a,G=>match G a with
  | some (.lst ds)=>some ds.length
  | some (.jg WP)=>if (WP.all fun p=>gb p.1)=true then some WP.length else none
  | none=>none
 | _,_=>none
def nu(ds:List D)(G:Gp)(Q:DK):Prop:=match ds with
 | [x]=>(match lenOf x G with
  | some n=>Q (.int (n:Int)) G
  | none=>False)
 | _=>False
def BK(ds:List D)(G:Gp)(Q:DK):Prop:=match ds with
 | [x]=>(match itemsOf x G with
  | some xs=>jH G (.lst xs) Q
  | none=>False)
 | _=>False
def YC(C:String):D->Gp->Option Bool
 | .dh,_=>some false
 | .bl _,_=>some (C == "bool" || C == "int")
 | .int _,_=>some (C == "int")
 | .str _,_=>some (C == "str")
 | .tup _,_=>some (C == "tuple")
 | .fx _,_=>some (C == "list")
 | .lI _,_=>some (C == "dict")
 | .exc _,_=>none
 | .ref a,G=>match G a with
  | some (.lst _)=>some (C == "list")
  | some (.jg _)=>some (C == "dict")
  | none=>none
def Pn(C:String)(a:gN):gN:=fun E τ G Q=>a E τ G fun x G1=>match YC C x G1 with
 | some b=>Q (.bl b) G1
 | none=>False
def Vz(ds:List D)(G:Gp)(Q:DK):Prop:=match ds with
 | [x]=>∃ bs:List Bool,itemsOf x G=some (bs.map D.bl)/\Q (.bl (bs.all id)) G
 | _=>False
def uf(x:D)(ds:List D)(G:Gp)(Q:DK):Prop:=match x,ds with
 | .ref a,[d]=>(match G a with
  | some (.lst xs)=>xs.length < SZ/\Q .dh (fG G a (.lst (xs++[d])))
  | _=>False)
 | _,_=>False
def wX(x:D)(ds:List D)(G:Gp)(Q:DK):Prop:=match x,ds with
 | .ref a,[y]=>(match G a,pD y G with
  | some (.lst xs),some ys=>xs.length+ys.length<=SZ/\Q .dh (fG G a (.lst (xs++ys)))
  | _,_=>False)
 | _,_=>False
def z0(x:D)(ds:List D)(G:Gp)(Q:DK):Prop:=match x,ds with
 | .ref a,[.int i,d]=>(match G a with
  | some (.lst xs)=>0<=i/\i<=xs.length/\xs.length < SZ/\Q .dh (fG G a (.lst (xs.take i.toNat++d :: xs.drop i.toNat)))
  | _=>False)
 | _,_=>False
def qZ(x:D)(ds:List D)(G:Gp)(Q:DK):Prop:=match ds with
 | [d]=>Ce x G/\∃ xs s ss,itemsOf x G=some xs/\Sn G SN d s/\Sn G SN (.fx xs) (.fx ss)/\(match ss.findIdx? (jf · s) with
  | some k=>Q (.int (k:Int)) G
  | none=>False)
 | _=>False
def HD(x:D)(ds:List D)(G:Gp)(Q:DK):Prop:=match x,ds with
 | .ref a,[k,d]=>(match G a with
  | some (.jg WP)=>jD WP k=true/\gb k=true/\(match look WP k with
   | some v=>Q v G
   | none=>WP.length < SZ/\Q d (fG G a (.jg (put WP k d))))
  | _=>False)
 | _,_=>False
def eE:iC:=fun _ K τ G=>K.nx τ G
def cD(a b:iC):iC:=fun E K τ G=>a E { K with nx:=b E K } τ G
def i0(a:gN):iC:=fun E K τ G=>a E τ G fun _ G1=>K.nx τ G1
def cT(a:gN):iC:=fun E K τ G=>a E τ G K.rt
def V8:iC:=fun _ K _ G=>K.rt .dh G
def mI(c:zM)(a b:iC):iC:=fun E K τ G=>c E τ G fun k G1=>if k=true then a E K τ G1 else b E K τ G1
def LJ:iC:=fun _ _ _ _=>False
abbrev CD:=md->D->iS->Gp->(iS->Gp->Prop)->Prop
abbrev FU:=md->List D->iS->Gp->(iS->Gp->Prop)->Prop
def aJ(i:Nat):CD:=fun _ d τ G Q=>Q (τ.set i (some d)) G
def ng:FU:=fun _ ds τ G Q=>match ds with
 | []=>Q τ G
 | _=>False
def fK(t:CD)(r:FU):FU:=fun E ds τ G Q=>match ds with
 | d :: ds=>t E d τ G fun qJ G1=>r E ds qJ G1 Q
 | _=>False
def nO(t:FU):CD:=fun E d τ G Q=>match d with
 | .tup ds=>t E ds τ G Q
 | _=>False
def wy(o k d:D)(G:Gp)(Q:Gp->Prop):Prop:=match o with
 | .ref a=>(match G a with
  | some (.lst xs)=>(match k with
   | .int i=>(match Fb xs.length i with
    | some j=>Q (fG G a (.lst (xs.set j d)))
    | none=>False)
   | _=>False)
  | some (.jg WP)=>jD WP k=true/\WP.length < SZ/\Q (fG G a (.jg (put WP k d)))
  | none=>False)
 | _=>False
def oJ(o k:gN):CD:=fun E d τ G Q=>o E τ G fun x G1=>k E τ G1 fun y G2=>wy x y d G2 fun G3=>Q τ G3
def bM(a:gN)(g:CD):iC:=fun E K τ G=>a E τ G fun x G1=>g E x τ G1 K.nx
abbrev Te:=md->iS->Gp->(List D->(Gp->Prop)->Gp->Prop)->Prop
def lZ(a:gN):Te:=fun E τ G R=>a E τ G fun x G1=>match x with
 | .tup ds=>R ds (fun _=>True) G1
 | .fx ds=>R ds (fun _=>True) G1
 | .ref p=>(match G1 p with
  | some (.lst ds)=>R ds (fun G2=>G2 p=some (.lst ds)) G1
  | _=>False)
 | _=>False
def dB(lo:Int)(n:Nat):List D:=(aY n).map fun (i:Nat)=>D.int (lo+(i:Int))
def oH(a:gN):Te:=fun E τ G R=>a E τ G fun x G1=>match x with
 | .int n=>-(2 ^ 62)<=n/\n < 2 ^ 62/\R (dB 0 n.toNat) (fun _=>True) G1
 | _=>False
def va(g:CD)(body:iC)(ok:Gp->Prop):List D->iC
 | []=>fun _ K τ G=>ok G/\K.nx τ G
 | d :: r=>fun E K τ G=>ok G/\g E d τ G fun qJ G1=>body E { K with nx:=va g body ok r E K,ct:=va g body ok r E K,bk:=K.nx } qJ G1
def gB(i:Te)(g:CD)(body:iC):iC:=fun E K τ G=>i E τ G fun ds ok G1=>va g body ok ds E K τ G1
def GS(c:zM)(body:iC):Nat->iC
 | 0=>fun _ _ _ _=>False
 | n+1=>fun E K τ G=>c E τ G fun k G1=>if k=true then body E { K with nx:=GS c body n E K,ct:=GS c body n E K,bk:=K.nx } τ G1 else K.nx τ G1
def SO(c:zM)(body:iC):iC:=fun E K τ G=>∃ n,GS c body n E K τ G
def j0(g:CD)(c:Option zM)(e:gN)(ok:Gp->Prop):List D->md->iS->Gp->List D->(List D->Gp->Prop)->Prop
 | [],_,_,G,WF,Q=>ok G/\Q WF G
 | d :: r,E,τ,G,WF,Q=>ok G/\g E d τ G fun qJ G1=>match c with
  | none=>e E qJ G1 fun x G2=>j0 g c e ok r E qJ G2 (WF++[x]) Q
  | some c=>c E qJ G1 fun k G2=>if k=true then e E qJ G2 fun x G3=>j0 g (some c) e ok r E qJ G3 (WF++[x]) Q else j0 g (some c) e ok r E qJ G2 WF Q
def BJ(m:Nat)(fr:List Nat)(τ:iS):iS:=aI m none++fr.map fun i=>(τ[i]?).getD none
def eF(m:Nat)(fr:List Nat)(i:Te)(g:CD)(c:Option zM)(e:gN):gN:=fun E τ G Q =>
 i E τ G fun ds ok G1=>ds.length<=SZ/\j0 g c e ok ds (fun _ _=>False) (BJ m fr τ) G1 [] fun xs G2=>jH G2 (.lst xs) Q
abbrev tI(ns:List Int):D:=.tup (ns.map D.int)
def ac8:List Int->Option Int
 | []=>none
 | a :: r=>some (r.foldl (fun m x=>if x < m then x else m) a)
def ac7:List (List Int)->Option (List Int)
 | []=>none
 | a :: r=>some (r.foldl (fun m x=>if lexLt x m=true then x else m) a)
def aeq(ds:List D)(G:Gp)(Q:DK):Prop:=match ds with
 | [x]=>(∃ ns m,itemsOf x G=some (ns.map D.int)/\ac8 ns=some m/\Q (.int m) G)\/∃ nss m,itemsOf x G=some (nss.map tI)/\ac7 nss=some m/\Q (tI m) G
 | _=>False
def vP:gN:=fun _ _ G Q=>jH G (.jg []) Q
def iH(G G':Gp):Prop:=∀ a o,G a=some o->G' a=some o
theorem iH.refl(G:Gp):iH G G:=fun _ _ h=>h
theorem iH.trans{G G1 G2:Gp}(a:iH G G1)(b:iH G1 G2):iH G G2:=fun c o h=>b c o (a c o h)
theorem iH.new{G:Gp}{p:Nat}{o:GO}(h:G p=none):iH G (fG G p o):=fun a ob e=>by
 by_cases ha:a=p
 ·subst ha; rw [h] at e; cases e
 ·rw [fe ha]; exact e
theorem iH.free{G G':Gp}{p:Nat}(l:iH G G')(h:G' p=none):G p=none:=by
 cases q:G p with
 | none=>rfl
 | some o=>rw [l p o q] at h; cases h
theorem iH.put{G G':Gp}{p:Nat}{o:GO}(l:iH G G')(h:G p=none):iH G (fG G' p o):=fun a ob e=>by
 by_cases ha:a=p
 ·subst ha; rw [h] at e; cases e
 ·rw [fe ha]; exact l a ob e
def ends(Q:DK):nF:=⟨fun _ G=>Q .dh G,Q,fun _ _=>False,fun _ _=>False⟩
def bC(n:Nat)(ds:List D):iS:=ds.map some++aI (n - ds.length) none
def TJ(x:D)(G1:Gp)(R:List D->(Gp->Prop)->Gp->Prop):Prop:=match x with
 | .tup ds=>R ds (fun _=>True) G1
 | .fx ds=>R ds (fun _=>True) G1
 | .ref p=>(match G1 p with
  | some (.lst ds)=>R ds (fun G2=>G2 p=some (.lst ds)) G1
  | _=>False)
 | _=>False
def Rc(x:D)(G1:Gp)(Q:Option Int->Gp->Prop):Prop:=match x with
 | .int i=>Q (some i) G1
 | _=>False
def uQ(x:D)(G1:Gp)(Q:Bool->Gp->Prop):Prop:=match Oc x G1 with
 | some b=>Q b G1
 | none=>False
def VO(x:D)(G1:Gp)(R:List D->(Gp->Prop)->Gp->Prop):Prop:=match x with
 | .int n=>-(2 ^ 62)<=n/\n < 2 ^ 62/\R (dB 0 n.toNat) (fun _=>True) G1
 | _=>False
def isAt(C:String)(x:D)(G1:Gp)(Q:DK):Prop:=match YC C x G1 with
 | some b=>Q (.bl b) G1
 | none=>False
theorem kd{i j:Int}{G:Gp}{Q:DK}:se (.int i) (.int j) G Q=Q (.int (i+j)) G:=rfl
theorem Hr{a b:List D}{G:Gp}{Q:DK}:se (.tup a) (.tup b) G Q=(a≠[]/\a.length+b.length<=SZ/\Q (.tup (a++b)) G):=rfl
theorem iX{i j:Int}{G:Gp}{Q:DK}:vo (.int i) (.int j) G Q=Q (.int (i - j)) G:=rfl
theorem kc{i j:Int}{G:Gp}{Q:DK}:wQ (.int i) (.int j) G Q=(MulOk i j/\Q (.int (i * j)) G):=rfl
theorem fk{i j:Int}{G:Gp}{Q:DK}:mW (.int i) (.int j) G Q=(0 < j/\Q (.int (i % j)) G):=rfl
theorem kP{i j:Int}{G:Gp}{Q:DK}:u3 (.int i) (.int j) G Q=(0 < j/\j < 2 ^ 30/\Q (.int (i / j)) G):=rfl
theorem sY{i:Int}{G:Gp}{Q:DK}:Oq (.int i) G Q=Q (.int (-i)) G:=rfl
theorem zW{i j:Int}{G:Gp}{Q:DK}:Zq (.int i) (.int j) G Q=Q (.bl (decide (i < j))) G:=rfl
theorem EM{i j:Int}{G:Gp}{Q:DK}:rLe (.int i) (.int j) G Q=Q (.bl (decide (i<=j))) G:=rfl
theorem uc{i j:Int}{G:Gp}{Q:DK}:Yw (.int i) (.int j) G Q=Q (.bl (decide (i > j))) G:=rfl
theorem MM{i j:Int}{G:Gp}{Q:DK}:rGe (.int i) (.int j) G Q=Q (.bl (decide (i>=j))) G:=rfl
theorem UD{ds:List D}{i:Int}{d:D}{G:Gp}{Q:DK}(h:pL ds i=some d):ky (.fx ds) (.int i) G Q=Q d G:=by unfold ky; simp only [h]
theorem UE{a:Nat}{ds:List D}{i:Int}{d:D}{G:Gp}{Q:DK}(h1:G a=some (.lst ds))(h:pL ds i=some d):ky (.ref a) (.int i) G Q=Q d G:=by unfold ky; simp only [h1,h]
theorem qS{ds:List D}{lo hi:Option Int}{G:Gp}{Q:DK}:WV (.tup ds) lo hi G Q=(¬ (kE ds.length 0 lo=0/\kE ds.length ds.length hi=ds.length)/\Q (.tup (cut ds lo hi)) G):=rfl
theorem EK{ds:List D}{lo hi:Option Int}{G:Gp}{Q:DK}:WV (.fx ds) lo hi G Q=jH G (.lst (cut ds lo hi)) Q:=rfl
theorem UC{a:Nat}{ds:List D}{lo hi:Option Int}{G:Gp}{Q:DK}(h:G a=some (.lst ds)):WV (.ref a) lo hi G Q=jH G (.lst (cut ds lo hi)) Q:=by unfold WV; simp only [h]
theorem xE{ds:List D}{G:Gp}{Q:DK}:nu [.fx ds] G Q=Q (.int (ds.length:Int)) G:=rfl
theorem Jc{ds:List D}{G:Gp}{Q:DK}:nu [.tup ds] G Q=Q (.int (ds.length:Int)) G:=rfl
theorem S2{a:Nat}{ds:List D}{G:Gp}{Q:DK}(h:G a=some (.lst ds)):nu [.ref a] G Q=Q (.int (ds.length:Int)) G:=by unfold nu lenOf; simp only [h]
theorem fh{a:gN}{E:md}{τ:iS}{G:Gp}{R:List D->(Gp->Prop)->Gp->Prop}:lZ a E τ G R=a E τ G fun x G1=>TJ x G1 R:=by
 unfold lZ TJ; rfl
theorem ui{ds:List D}{G:Gp}{R:List D->(Gp->Prop)->Gp->Prop}:TJ (.fx ds) G R=R ds (fun _=>True) G:=rfl
theorem Ng{ds:List D}{G:Gp}{R:List D->(Gp->Prop)->Gp->Prop}:TJ (.tup ds) G R=R ds (fun _=>True) G:=rfl
theorem Nh{a:Nat}{ds:List D}{G:Gp}{R:List D->(Gp->Prop)->Gp->Prop}(h:G a=some (.lst ds)):TJ (.ref a) G R=R ds (fun G2=>G2 a=some (.lst ds)) G:=by unfold TJ; simp only [h]
theorem ko{t:gN}{E:md}{τ:iS}{G:Gp}{Q:Option Int->Gp->Prop}:qw t E τ G Q=t E τ G fun x G1=>Rc x G1 Q:=rfl
theorem gU{i:Int}{G:Gp}{Q:Option Int->Gp->Prop}:Rc (.int i) G Q=Q (some i) G:=rfl
theorem di{a:gN}{E:md}{τ:iS}{G:Gp}{Q:Bool->Gp->Prop}:gL a E τ G Q=a E τ G fun x G1=>uQ x G1 Q:=rfl
theorem bF{b:Bool}{G:Gp}{Q:Bool->Gp->Prop}:uQ (.bl b) G Q=Q b G:=rfl
theorem Oa{a:Nat}{ds:List D}{G:Gp}{Q:Bool->Gp->Prop}(h:G a=some (.lst ds)):uQ (.ref a) G Q=Q (!ds.isEmpty) G:=by unfold uQ Oc; simp only [h]
theorem gW{a:gN}{E:md}{τ:iS}{G:Gp}{R:List D->(Gp->Prop)->Gp->Prop}:oH a E τ G R=a E τ G fun x G1=>VO x G1 R:=rfl
theorem fY{n:Int}{G:Gp}{R:List D->(Gp->Prop)->Gp->Prop}:VO (.int n) G R=(-(2 ^ 62)<=n/\n < 2 ^ 62/\R (dB 0 n.toNat) (fun _=>True) G):=rfl
theorem xw{C:String}{a:gN}{E:md}{τ:iS}{G:Gp}{Q:DK}:Pn C a E τ G Q=a E τ G fun x G1=>isAt C x G1 Q:=rfl
theorem Br {C:String} {i:Int} {G:Gp} {Q:DK}:isAt C (.int i) G Q=Q (.bl (C == "int")) G:=rfl
theorem HX {C:String} {ds:List D} {G:Gp} {Q:DK}:isAt C (.tup ds) G Q=Q (.bl (C == "tuple")) G:=rfl
theorem RJ {C:String} {a:Nat} {ds:List D} {G:Gp} {Q:DK} (h:G a=some (.lst ds)):isAt C (.ref a) G Q=Q (.bl (C == "list")) G:=by unfold isAt YC; simp only [h]
theorem xy{a b:gN}{E:md}{τ:iS}{G:Gp}{Q:DK}:IT a b E τ G Q=a E τ G fun x G1=>uQ x G1 fun k G2=>if k=true then b E τ G2 Q else Q x G2:=by
 unfold IT uQ;refine congrArg (a E τ G) ?_;funext x G1;cases Oc x G1 with
 | none=>rfl
 | some k=>cases k <;> simp
theorem NI{a b:gN}{E:md}{τ:iS}{G:Gp}{Q:DK}:aaL a b E τ G Q=a E τ G fun x G1=>uQ x G1 fun k G2=>if k=true then Q x G2 else b E τ G2 Q:=by
 unfold aaL uQ;refine congrArg (a E τ G) ?_;funext x G1;cases Oc x G1 with
 | none=>rfl
 | some k=>cases k <;> simp
theorem BH{a:gN}{E:md}{τ:iS}{G:Gp}{Q:DK}:SR a E τ G Q=a E τ G fun x G1=>uQ x G1 fun k G2=>Q (.bl (!k)) G2:=rfl
theorem wU{a:Nat}{y:D}{G:Gp}{Q:DK}:se (.ref a) y G Q=LS (.ref a) y G Q:=by cases y <;> rfl
theorem sZ{a:List D}{y:D}{G:Gp}{Q:DK}:se (.fx a) y G Q=LS (.fx a) y G Q:=by cases y <;> rfl
theorem EL{a:Nat}{lo hi:Option Int}{G:Gp}{Q:DK}:WV (.ref a) lo hi G Q=(match G a with
  | some (.lst ds)=>jH G (.lst (cut ds lo hi)) Q
  | _=>False):=rfl
theorem MH{a:Nat}{k:D}{G:Gp}{Q:DK}:ky (.ref a) k G Q=(match G a with
  | some (.lst ds)=>(match k with
   | .int i=>(match pL ds i with
    | some d=>Q d G
    | none=>False)
   | _=>False)
  | some (.jg WP)=>jD WP k=true/\(match look WP k with
   | some d=>Q d G
   | none=>False)
  | none=>False):=by unfold ky; cases k <;> rfl
theorem iz{ds:List D}{i:Int}{G:Gp}{Q:DK}:ky (.tup ds) (.int i) G Q=(match pL ds i with
  | some d=>Q d G
  | none=>False):=rfl
theorem wR{ds:List D}{i:Int}{G:Gp}{Q:DK}:ky (.fx ds) (.int i) G Q=(match pL ds i with
  | some d=>Q d G
  | none=>False):=rfl
theorem Jd{a:Nat}{G:Gp}{Q:DK}:nu [.ref a] G Q=(match G a with
  | some (.lst ds)=>Q (.int (ds.length:Int)) G
  | some (.jg ds)=>(ds.all fun p=>gb p.1)=true/\Q (.int (ds.length:Int)) G
  | none=>False):=by
 unfold nu lenOf;cases h:G a with
 | none=>simp only [h]
 | some g =>
  cases g with
  | lst ds=>simp only [h]
  | jg ds =>
   simp only [h];by_cases z:(ds.all fun p=>gb p.1)=true
   ·simp only [z,if_true,true_and]
   ·simp only [z,if_false,false_and,aC]
theorem DP{a:Nat}{G:Gp}{Q:DK}:BK [.ref a] G Q=(match G a with
  | some (.lst ds)=>jH G (.lst ds) Q
  | _=>False):=by
 unfold BK itemsOf;cases h:G a with
 | none=>simp only [h]
 | some g=>cases g <;> simp only [h]
theorem mB{a:Nat}{d:D}{G:Gp}{Q:DK}:uf (.ref a) [d] G Q=(match G a with
  | some (.lst xs)=>xs.length < SZ/\Q .dh (fG G a (.lst (xs++[d])))
  | _=>False):=rfl
theorem pC{a:Nat}{y:D}{G:Gp}{Q:DK}:wX (.ref a) [y] G Q=(match G a,pD y G with
  | some (.lst xs),some ys=>xs.length+ys.length<=SZ/\Q .dh (fG G a (.lst (xs++ys)))
  | _,_=>False):=rfl
theorem tF{a:Nat}{i:Int}{d:D}{G:Gp}{Q:DK}:z0 (.ref a) [.int i,d] G Q=(match G a with
  | some (.lst xs)=>0<=i/\i<=xs.length/\xs.length < SZ/\Q .dh (fG G a (.lst (xs.take i.toNat++d :: xs.drop i.toNat)))
  | _=>False):=rfl
theorem rR{a:Nat}{k d:D}{G:Gp}{Q:DK}:HD (.ref a) [k,d] G Q=(match G a with
  | some (.jg WP)=>jD WP k=true/\gb k=true/\(match look WP k with
   | some v=>Q v G
   | none=>WP.length < SZ/\Q d (fG G a (.jg (put WP k d))))
  | _=>False):=rfl
theorem U8{p:Nat}{G:Gp}{R:List D->(Gp->Prop)->Gp->Prop}:TJ (.ref p) G R=(match G p with
  | some (.lst ds)=>R ds (fun G2=>G2 p=some (.lst ds)) G
  | _=>False):=rfl
theorem Nd {C:String} {b:Bool} {G:Gp} {Q:DK}:isAt C (.bl b) G Q=Q (.bl (C == "bool" || C == "int")) G:=rfl
theorem o7{a:Nat}{G:Gp}:Ce (.ref a) G=(match G a with
  | some (.lst _)=>True
  | _=>False):=rfl
theorem Em{a:Nat}{G:Gp}:tyC (.ref a) G=(match G a with
  | some (.jg _)=>True
  | _=>False):=rfl
theorem Mp{ds:List D}{G:Gp}:Ce (.fx ds) G=True:=rfl
theorem qT{WP:List (D×D)}{k:D}{G:Gp}{Q:DK}:ky (.lI WP) k G Q=(jD WP k=true/\(match look WP k with
  | some d=>Q d G
  | none=>False)):=by unfold ky; cases k <;> rfl
theorem Mo{x:Str}{G:Gp}:tyS (.str x) G=True:=rfl
end K2
end
section
namespace K2
open PySem (Str)
def IJ(R:Nat->Bool)(G:Gp):Gp:=fun a=>if R a=true then none else G a
mutual
inductive Fz (G:Gp) (R:Nat->Bool):D->D->Prop
 | same (d:D):Fz G R d d
 | tup {ds ss:List D}:GA G R ds ss->Fz G R (.tup ds) (.tup ss)
 | fx {ds ss:List D}:GA G R ds ss->Fz G R (.fx ds) (.fx ss)
 | ref {a:Nat} {ds ss:List D}:G a=some (.lst ds)->R a=true->GA G R ds ss->Fz G R (.ref a) (.fx ss)
 | jg {a:Nat} {WP kvt:List (D×D)}:G a=some (.jg WP)->R a=true->L7 G R WP kvt->Fz G R (.ref a) (.lI kvt)
inductive GA (G:Gp) (R:Nat->Bool):List D->List D->Prop
 | nil:GA G R [] []
 | cons {d s:D} {ds ss:List D}:Fz G R d s->GA G R ds ss->GA G R (d :: ds) (s :: ss)
inductive L7 (G:Gp) (R:Nat->Bool):List (D×D)->List (D×D)->Prop
 | nil:L7 G R [] []
 | cons {k d s:D} {ds ss:List (D×D)}:Fz G R d s->L7 G R ds ss->L7 G R ((k,d) :: ds) ((k,s) :: ss)
end
theorem L7.same{G:Gp}{R:Nat->Bool}:∀ (WP:List (D×D)),L7 G R WP WP
 | []=>.nil
 | (k,v) :: r=>.cons (.same v) (L7.same r)
def TZ(G:Gp)(x:D)(Q:DK):Prop:=∃ (R:Nat->Bool) (t:D),Fz G R x t/\Q t (IJ R G)
def fQ(e:gN):gN:=fun E τ G Q=>e E τ G fun x G1=>TZ G1 x Q
def Vs(i:Nat)(t:iC):iC:=fun E K τ G=>t E { K with nx:=fun qJ G1=>match qJ[i]? with
 | some (some d)=>TZ G1 d fun t G2=>K.nx (qJ.set i (some t)) G2
 | _=>False } τ G
theorem GA.same{G:Gp}{R:Nat->Bool}:∀ (ds:List D),GA G R ds ds
 | []=>.nil
 | d :: ds=>.cons (.same d) (GA.same ds)
theorem BE{G G1:Gp}(l:iH G G1):IJ (fun a=>(G a).isNone) G1=G:=by
 funext a;unfold IJ;cases h:G a with
 | none=>simp [h]
 | some o=>simp [l a o h,h]
theorem lA{G:Gp}{d:D}{Q:DK}(q:Q d G):TZ G d Q:=⟨fun _=>false,d,.same d,by
 have e:IJ (fun _=>false) G=G:=by funext a; simp [IJ]
 rw [e]; exact q⟩
theorem Ah{G G1:Gp}{d:D}{Q:DK}(l:iH G G1)(q:Q d G):TZ G1 d Q:=⟨_,d,.same d,by rw [BE l]; exact q⟩
theorem tP{G G1:Gp}{p:Nat}{ds ss:List D}{Q:DK}(l:iH G G1)(hp:G p=none)(h1:G1 p=some (.lst ds))(hs:GA G1 (fun a=>(G a).isNone) ds ss)(q:Q (.fx ss) G):TZ G1 (.ref p) Q :=
 ⟨_,.fx ss,.ref h1 (by simp [hp]) hs,by rw [BE l]; exact q⟩
theorem yA{G G1:Gp}{p:Nat}{WP:List (D×D)}{Q:DK}(l:iH G G1)(hp:G p=none)(h1:G1 p=some (.jg WP))(q:Q (.lI WP) G):TZ G1 (.ref p) Q :=
 ⟨fun a=>(G a).isNone,.lI WP,.jg h1 (by simp [hp]) (.same _),by rw [BE l]; exact q⟩
def C0:mw:=fun ds G Q _=>∃ ns:List Int,ds=[.fx (ns.map D.int)]/\ns.length<=63/\(∀ a,G a=none)/\∀ G',Q (.bl true) G'
theorem fX{a b:iC}{E:md}{K:nF}{τ:iS}{G:Gp}(P:iS->Gp->Prop)(h1:∀ N,(∀ τ G,P τ G->N τ G)->a E { K with nx:=N } τ G)(h2:∀ τ G,P τ G->b E K τ G):cD a b E K τ G:=h1 (b E K) h2
theorem jy{a b:iC}{E:md}{K:nF}{τ:iS}{G:Gp}:cD a b E K τ G=a E { K with nx:=b E K } τ G:=rfl
theorem cU{a:gN}{g:CD}{b:iC}{E:md}{K:nF}{τ:iS}{G:Gp}:cD (bM a g) b E K τ G=bM a g E { K with nx:=b E K } τ G:=rfl
theorem qg{a:gN}{b:iC}{E:md}{K:nF}{τ:iS}{G:Gp}:cD (i0 a) b E K τ G=i0 a E { K with nx:=b E K } τ G:=rfl
theorem yD{g:CD}{body:iC}{ok:Gp->Prop}{ds:List D}{E:md}{K:nF}{τ:iS}{G:Gp}(I:List D->iS->Gp->Prop)
  (h0:I [] τ G) (cB:∀ Wp τ G,I Wp τ G->ok G)
  (step:∀ (Wp:List D) (d:D) (Uf:List D) τ G (N:iS->Gp->Prop),ds=Wp++d :: Uf->I Wp τ G->(∀ ye G2,I (Wp++[d]) ye G2->N ye G2) ->
   g E d τ G fun qJ G1=>body E { K with nx:=N,ct:=N,bk:=K.nx } qJ G1)
  (fin:∀ τ G,I ds τ G->K.nx τ G):va g body ok ds E K τ G:=by
 have main:∀ (Uf Wp:List D) τ G,ds=Wp++Uf->I Wp τ G->va g body ok Uf E K τ G:=by
  intro Uf;induction Uf with
  | nil =>
   intro Wp τ G e h;rw [bL] at e;subst e;exact⟨cB _ _ _ h,fin _ _ h⟩
  | cons d Uf ih =>
   intro Wp τ G e h;refine⟨cB _ _ _ h,?_⟩;exact step Wp d Uf τ G _ e h fun ye G2 h2=>ih (Wp++[d]) ye G2 (by rw [e,cG]; rfl) h2
 exact main ds [] τ G rfl h0
theorem xA{g:CD}{c:Option zM}{e:gN}{ok:Gp->Prop}{ds:List D}{E:md}{τ:iS}{G:Gp}{Q:List D->Gp->Prop}(I:List D->List D->iS->Gp->Prop)
  (h0:I [] [] τ G) (cB:∀ Wp WF τ G,I Wp WF τ G->ok G)
  (step:∀ (Wp:List D) (d:D) (Uf WF:List D) τ G (N:iS->List D->Gp->Prop),ds=Wp++d :: Uf->I Wp WF τ G->(∀ ye yS G2,I (Wp++[d]) yS ye G2->N ye yS G2) ->
   g E d τ G fun qJ G1=>match c with
    | none=>e E qJ G1 fun x G2=>N qJ (WF++[x]) G2
    | some c=>c E qJ G1 fun k G2=>if k=true then e E qJ G2 fun x G3=>N qJ (WF++[x]) G3 else N qJ WF G2)
  (fin:∀ WF τ G,I ds WF τ G->Q WF G):j0 g c e ok ds E τ G [] Q:=by
 have main:∀ (Uf Wp WF:List D) τ G,ds=Wp++Uf->I Wp WF τ G->j0 g c e ok Uf E τ G WF Q:=by
  intro Uf;induction Uf with
  | nil =>
   intro Wp WF τ G e h;rw [bL] at e;subst e;exact⟨cB _ _ _ _ h,fin _ _ _ h⟩
  | cons d Uf ih =>
   intro Wp WF τ G e' h;refine⟨cB _ _ _ _ h,?_⟩;have:=step Wp d Uf WF τ G (fun ye yS G2=>j0 g c e ok Uf E ye G2 yS Q) e' h fun ye yS G2 h2=>ih (Wp++[d]) yS ye G2 (by rw [e',cG]; rfl) h2;cases c with
   | none=>exact this
   | some c=>exact this
 exact main ds [] [] τ G rfl h0
theorem rC(a b:D)(r t:List D):mF (a :: r) (b :: t)=(jf a b&&mF r t):=rfl
theorem vK(a b:Int):jf (.int a) (.int b)=(a == b):=rfl
theorem Ly(a b:List D):jf (.tup a) (.tup b)=mF a b:=rfl
theorem IK{α:Type} [DecidableEq α](a b:α)(as bs:List α):(decide (a=b)&&decide (as=bs))=decide (a :: as=b :: bs):=by
 by_cases h:a=b <;> by_cases h2:as=bs <;> simp [h,h2]
end K2
end
section
namespace K2
open PySem (Str)
set_option genInjectivity true in structure T2 where
 a:Int
 b:Int
 deriving DecidableEq
set_option genInjectivity true in structure T3 where
 a:Int
 b:Int
 c:Int
 deriving DecidableEq
class Enc (α:Type) [DecidableEq α] where
 enc:α->D
 dep:Nat
 eqv:∀ a b,jf (enc a) (enc b)=decide (a=b)
 sn:∀ (G:Gp) (n:Nat) (a:α),dep<=n->Sn G n (enc a) (enc a)
open Enc (enc)
instance:Enc Int where
 enc:=D.int
 dep:=0
 eqv:=fun a b=>rfl
 sn:=fun G n a _=>.int a
instance:Enc Bool where
 enc:=D.bl
 dep:=0
 eqv:=fun a b=>Tw a b
 sn:=fun G n a _=>.bl a
instance:Enc T2 where
 enc:=fun t=>.tup [.int t.a,.int t.b]
 dep:=1
 eqv:=fun x y=>by
  cases x; cases y;rw [Ly,rC,rC,vK,vK]; simp only [T2.mk.injEq]; rename_i a b c d; by_cases h:a=c <;> by_cases h2:b=d <;> simp [h,h2,show mF [] []=true from rfl]
 sn:=fun G n t h=>by
  obtain⟨m,rfl⟩:∃ m,n=m+1:=⟨n - 1,by lia⟩;exact .om (.int _) (.om (.int _) .Er)
instance:Enc T3 where
 enc:=fun t=>.tup [.int t.a,.int t.b,.int t.c]
 dep:=1
 eqv:=fun x y=>by
  cases x; cases y;rw [Ly,rC,rC,rC,vK,vK,vK]; simp only [T3.mk.injEq]; rename_i a b e c d f; by_cases h:a=c <;> by_cases h2:b=d <;> by_cases h3:e=f <;> simp [h,h2,h3,show mF [] []=true from rfl]
 sn:=fun G n t h=>by
  obtain⟨m,rfl⟩:∃ m,n=m+1:=⟨n - 1,by lia⟩;exact .om (.int _) (.om (.int _) (.om (.int _) .Er))
instance {α β:Type} [DecidableEq α] [DecidableEq β] [Enc α] [Enc β]:Enc (α×β) where
 enc:=fun t=>.tup [enc t.1,enc t.2]
 dep:=max (Enc.dep α) (Enc.dep β)+1
 eqv:=fun x y=>by
  cases x; cases y;rw [Ly,rC,rC,Enc.eqv,Enc.eqv]; simp only [Prod.mk.injEq]; rename_i a b c d; by_cases h:a=c <;> by_cases h2:b=d <;> simp [h,h2,show mF [] []=true from rfl]
 sn:=fun G n t h=>by
  obtain⟨m,rfl⟩:∃ m,n=m+1:=⟨n - 1,by lia⟩;exact .om (Enc.sn _ _ _ (by lia)) (.om (Enc.sn _ _ _ (by lia)) .Er)
theorem IE{α:Type} [DecidableEq α] [Enc α]:∀ (a b:List α),mF (a.map enc) (b.map enc)=decide (a=b)
 | [],[]=>(decide_eq_true rfl).symm
 | [],b :: bs=>(decide_eq_false (fun z=>nomatch z)).symm
 | a :: as,[]=>(decide_eq_false (fun z=>nomatch z)).symm
 | a :: as,b :: bs=>by
  show (jf (enc a) (enc b)&&mF (as.map enc) (bs.map enc))=_;rw [Enc.eqv,IE as bs,IK]
theorem yh{α:Type} [DecidableEq α] [Enc α](G:Gp)(n:Nat)(h:Enc.dep α<=n):∀ (xs:List α),Sn G (n+1) (.fx (xs.map enc)) (.fx (xs.map enc))
 | []=>.EG
 | a :: as=>.zh (Enc.sn _ _ _ h) (yh G n h as)
instance {α:Type} [DecidableEq α] [Enc α]:Enc (List α) where
 enc:=fun xs=>.fx (xs.map enc)
 dep:=Enc.dep α+1
 eqv:=fun a b=>by
  show mF _ _=_;exact IE a b
 sn:=fun G n t h=>by
  obtain⟨m,rfl⟩:∃ m,n=m+1:=⟨n - 1,by lia⟩;exact yh G m (by lia) t
section
variable {α:Type} [DecidableEq α] [Enc α]
theorem NQ(L:List α)(t:α):(L.map enc).any (jf · (enc t))=decide (t∈L):=by
 induction L with
 | nil=>simp
 | cons a r ih =>
  simp only [av,kL,Enc.eqv,ih,jj];by_cases h:a=t
  ·simp [h]
  ·have h':¬ t=a:=fun z=>h z.symm;by_cases h2:t∈r <;> simp [h,h',h2]
end
section
variable {κ α:Type} [DecidableEq κ] [Enc κ] [DecidableEq α] [Enc α]
def bI(l:List (κ×α)):List (D×D):=l.map fun p=>(enc p.1,enc p.2)
def rL(l:List (κ×α))(k:κ):Option α:=(l.find? fun p=>p.1=k).map (·.2)
def oZ(l:List (κ×α))(k:κ)(v:α):List (κ×α):=if (l.any fun p=>p.1=k)=true then l.map (fun p=>if p.1=k then (p.1,v) else p) else l++[(k,v)]
theorem kj(l:List (κ×α))(k:κ):look (bI l) (enc k)=(rL l k).map enc:=by
 unfold look rL bI;induction l with
 | nil=>rfl
 | cons p r ih =>
  rw [av,ip,ip];simp only [Enc.eqv];by_cases h:p.1=k
  ·simp [h]
  ·simp only [h,decide_false]; exact ih
theorem MQ(l:List (κ×α))(k:κ)(v:α):put (bI l) (enc k) (enc v)=bI (oZ l k v):=by
 unfold put oZ;have e:((bI l).any fun p=>jf p.1 (enc k))=l.any fun p=>decide (p.1=k):=by
  unfold bI; rw [List.any_map]; congr 1; funext p; exact Enc.eqv _ _
 rw [e];split
 ·unfold bI; rw [bU,bU];refine zP fun p _=>?_;simp only [Function.comp,Enc.eqv,decide_eq_true_eq];split <;> rfl
 ·unfold bI; rw [aH]; rfl
theorem Ji(l:List (κ×α))(k:κ)(v:α):(oZ l k v).length<=l.length+1:=by
 unfold oZ; split <;> simp
end
class vV (κ:Type) [DecidableEq κ] [Enc κ] where
 ok:(∀ k:κ,gb (enc k)=true)\/∀ k:κ,mY (enc k)=true
instance:vV Int:=⟨.inl fun _=>rfl⟩
instance:vV T2:=⟨.inr fun _=>rfl⟩
instance:vV T3:=⟨.inr fun _=>rfl⟩
theorem gz{κ α:Type} [DecidableEq κ] [Enc κ] [vV κ] [DecidableEq α] [Enc α](l:List (κ×α))(k:κ):jD (bI l) (enc k)=true:=by
 unfold jD bI;rcases vV.ok (κ:=κ) with h | h
 ·rw [qF]; left;rw [h k,Bool.true_and,r8,eB];intro p _; exact h p.1
 ·rw [qF]; right;rw [h k,Bool.true_and,r8,eB];intro p _; exact h p.1
end K2
end
section
namespace K2
open PySem (Str)
open Enc (enc)
mutual
def oR:D->D->Bool
 | .int a,.int b=>decide (a < b)
 | .tup a,.tup b=>oY a b
 | .fx a,.fx b=>oY a b
 | _,_=>false
def oY:List D->List D->Bool
 | [],[]=>false
 | [],_ :: _=>true
 | _ :: _,[]=>false
 | x :: xs,y :: ys=>if jf x y=true then oY xs ys else oR x y
end
theorem rg(x y:D)(xs ys:List D):oY (x :: xs) (y :: ys)=if jf x y=true then oY xs ys else oR x y:=rfl
theorem Ru(a b:Int):oR (.int a) (.int b)=decide (a < b):=rfl
inductive oS where
 | int | tup (l:List oS) | lst (s:oS)
mutual
def dj:oS->D->Bool
 | .int,.int _=>true
 | .tup l,.tup ds=>gv l ds
 | .lst s,.fx ds=>iA s ds
 | _,_=>false
def gv:List oS->List D->Bool
 | [],[]=>true
 | s :: l,d :: ds=>dj s d&&gv l ds
 | _,_=>false
def iA:oS->List D->Bool
 | _,[]=>true
 | s,d :: ds=>dj s d&&iA s ds
end
theorem eU{a:D}(h:dj .int a=true):∃ i,a=.int i:=by cases a <;> first | exact⟨_,rfl⟩ | exact bB (show false=true from h)
theorem eS{l:List oS}{a:D}(h:dj (.tup l) a=true):∃ x,a=.tup x:=by cases a <;> first | exact⟨_,rfl⟩ | exact bB (show false=true from h)
theorem eT{l:oS}{a:D}(h:dj (.lst l) a=true):∃ x,a=.fx x:=by cases a <;> first | exact⟨_,rfl⟩ | exact bB (show false=true from h)
mutual
def Vp:oS->Nat
 | .int=>0
 | .tup l=>SE l+1
 | .lst s=>Vp s+1
def SE:List oS->Nat
 | []=>0
 | s :: l=>max (Vp s) (SE l)
end
def Rh(sh:oS):Bool:=decide (Vp sh<=7)&&(match sh with
 | .tup []=>false
 | _=>true)
def TC(a b:D):Bool:=!oR b a
def ph(ds:List D):List D:=ds.mergeSort TC
def Ak(ds:List D)(G:Gp)(Q:DK):Prop:=match ds with
 | [x]=>∃ (sh:oS) (xs:List D),Ce x G/\itemsOf x G=some xs/\xs.all (dj sh)=true/\Rh sh=true/\xs.length < 64/\jH G (.lst (ph xs)) Q
 | _=>False
class cg (α:Type) [DecidableEq α] [Enc α] where
 lt:α->α->Bool
 yj:oS
 Fd:∀ a:α,dj yj (enc a)=true
 Xs:∀ a b:α,oR (enc a) (enc b)=lt a b
 TH:∀ a,lt a a=false
 trans:∀ a b c,lt a b=true->lt b c=true->lt a c=true
 Ur:∀ a b,lt a b=false->lt b a=false->a=b
instance:cg Int where
 lt:=fun a b=>decide (a < b)
 yj:=.int
 Fd:=fun _=>rfl
 Xs:=fun a b=>rfl
 TH:=fun a=>by simp
 trans:=fun a b c h1 h2=>by simp at *; lia
 Ur:=fun a b h1 h2=>by simp at *; lia
def w7{α:Type} [DecidableEq α](lt:α->α->Bool):List α->List α->Bool
 | [],[]=>false
 | [],_ :: _=>true
 | _ :: _,[]=>false
 | x :: xs,y :: ys=>if x=y then w7 lt xs ys else lt x y
theorem Bj{α:Type} [DecidableEq α](lt:α->α->Bool)(x y:α)(xs ys:List α):w7 lt (x :: xs) (y :: ys)=if x=y then w7 lt xs ys else lt x y:=rfl
section
variable {α:Type} [DecidableEq α] {lt:α->α->Bool}
theorem w6:∀ x:List α,w7 lt x x=false
 | []=>rfl
 | a :: x=>by simp only [Bj,if_true]; exact w6 x
theorem w5(t:∀ a b,lt a b=false->lt b a=false->a=b):∀ (x y:List α),w7 lt x y=false->w7 lt y x=false->x=y
 | [],[],_,_=>rfl
 | [],_ :: _,h,_=>by cases h
 | _ :: _,[],_,h=>by cases h
 | a :: x,b :: y,h1,h2=>by
  simp only [Bj] at h1 h2;by_cases e:a=b
  ·subst e;simp only [if_true] at h1 h2;rw [w5 t x y h1 h2]
  ·rw [if_neg e] at h1;rw [if_neg (fB e)] at h2;exact absurd (t a b h1 h2) e
theorem rh(ir:∀ a,lt a a=false)(tr:∀ a b c,lt a b=true->lt b c=true->lt a c=true):∀ (x y z:List α),w7 lt x y=true->w7 lt y z=true->w7 lt x z=true
 | [],[],_,h,_=>by cases h
 | [],_ :: _,[],_,h=>by cases h
 | [],_ :: _,_ :: _,_,_=>rfl
 | _ :: _,[],_,h,_=>by cases h
 | _ :: _,_ :: _,[],_,h=>by cases h
 | a :: x,b :: y,c :: z,h1,h2=>by
  simp only [Bj] at h1 h2 ⊢;by_cases e1:a=b
  ·subst e1;simp only [if_true] at h1;by_cases e2:a=c
   ·subst e2;simp only [if_true] at h2 ⊢;exact rh ir tr x y z h1 h2
   ·rw [if_neg e2] at h2 ⊢; exact h2
  ·rw [if_neg e1] at h1;by_cases e2:b=c
   ·subst e2;rw [if_neg e1]; exact h1
   ·rw [if_neg e2] at h2;have h3:=tr _ _ _ h1 h2;rw [if_neg (by rintro rfl; rw [ir] at h3; cases h3)]; exact h3
end
theorem wY{α:Type} [DecidableEq α] [Enc α] [cg α]:∀ (x y:List α),oY (x.map enc) (y.map enc)=w7 (cg.lt (α:=α)) x y
 | [],[]=>rfl
 | [],_ :: _=>rfl
 | _ :: _,[]=>rfl
 | a :: x,b :: y=>by simp only [av,rg,Bj,Enc.eqv,wY x y,cg.Xs,decide_eq_true_eq]
theorem DA{α:Type} [DecidableEq α] [Enc α] [cg α]:∀ (x:List α),iA (cg.yj α) (x.map enc)=true
 | []=>rfl
 | a :: x=>by simp only [av,iA,cg.Fd,DA x,Bool.and_self]
instance {α:Type} [DecidableEq α] [Enc α] [cg α]:cg (List α) where
 lt:=w7 cg.lt
 yj:=.lst (cg.yj α)
 Fd:=fun a=>DA a
 Xs:=fun a b=>wY a b
 TH:=w6
 trans:=rh cg.TH cg.trans
 Ur:=w5 cg.Ur
def T2.l(t:T2):List Int:=[t.a,t.b]
def T3.l(t:T3):List Int:=[t.a,t.b,t.c]
instance:cg T2 where
 lt:=fun x y=>w7 (fun a b=>decide (a < b)) x.l y.l
 yj:=.tup [.int,.int]
 Fd:=fun _=>rfl
 Xs:=fun a b=>wY a.l b.l
 TH:=fun a=>w6 _
 trans:=fun a b c=>rh (α:=Int) cg.TH cg.trans _ _ _
 Ur:=fun ⟨a,b⟩ ⟨c,d⟩ h1 h2=>by
  have:=w5 (α:=Int) cg.Ur _ _ h1 h2;simpa [T2.l] using this
instance:cg T3 where
 lt:=fun x y=>w7 (fun a b=>decide (a < b)) x.l y.l
 yj:=.tup [.int,.int,.int]
 Fd:=fun _=>rfl
 Xs:=fun a b=>wY a.l b.l
 TH:=fun a=>w6 _
 trans:=fun a b c=>rh (α:=Int) cg.TH cg.trans _ _ _
 Ur:=fun ⟨a,b,e⟩ ⟨c,d,f⟩ h1 h2=>by
  have:=w5 (α:=Int) cg.Ur _ _ h1 h2;simpa [T3.l] using this
section
variable {α:Type} [DecidableEq α] [Enc α] [cg α]
def Cm(a b:α):Bool:=!cg.lt b a
def Mz(xs:List α):List α:=xs.mergeSort Cm
theorem C1(xs:List α):ph (xs.map enc)=(Mz xs).map enc:=by
 unfold ph Mz;symm;exact List.map_mergeSort fun a _ b _=>by unfold Cm TC; rw [cg.Xs]
theorem yw(a b c:α)(h1:Cm a b=true)(h2:Cm b c=true):Cm a c=true:=by
 unfold Cm at *;simp only [t4] at *;cases h:cg.lt c a with
 | false=>rfl
 | true =>
  by_cases e:a=b
  ·subst e; rw [h] at h2; cases h2
  ·have hab:cg.lt a b=true:=by
    cases q:cg.lt a b with
    | true=>rfl
    | false=>exact absurd (cg.Ur _ _ q h1) e
   rw [cg.trans _ _ _ h hab] at h2; cases h2
theorem OP(a b:α):(Cm a b||Cm b a)=true:=by
 unfold Cm;cases h:cg.lt b a with
 | false=>rfl
 | true =>
  cases h2:cg.lt a b with
  | false=>rfl
  | true=>have:=cg.trans _ _ _ h h2; rw [cg.TH] at this; cases this
theorem Rx(a b:α)(h1:Cm a b=true)(h2:Cm b a=true):a=b:=by
 unfold Cm at *;exact cg.Ur a b (by simpa using h2) (by simpa using h1)
theorem wu(xs:List α):(Mz xs).Perm xs:=List.mergeSort_perm xs Cm
theorem AH(xs:List α):(Mz xs).Pairwise fun a b=>Cm a b=true:=PK yw OP xs
theorem Cg:∀ {xs ys:List α},xs.Perm ys->xs.Pairwise (fun a b=>Cm a b=true)->ys.Pairwise (fun a b=>Cm a b=true)->xs=ys:=by
 intro xs ys hp h1 h2;exact Gj (fun a b _ _ h h'=>Rx a b h h') h1 h2 hp
theorem WG{xs ys:List α}(h:xs.Perm ys):Mz xs=Mz ys:=Cg (((wu xs).trans h).trans (wu ys).symm) (AH xs) (AH ys)
theorem Mw{xs:List α}{x:α}:x∈Mz xs↔x∈xs:=(wu xs).mem_iff
theorem Mx(xs:List α):(Mz xs).length=xs.length:=(wu xs).length_eq
end
end K2
end
section
namespace K2
open PySem (Str)
mutual
theorem ma:∀ (sh:oS) (a:D),dj sh a=true->jf a a=true
 | .int,.int i,_=>by show (i == i)=true; exact beq_self_eq_true i
 | .tup l,.tup xs,h=>by show mF xs xs=true; exact zm l xs h
 | .lst l,.fx xs,h=>by show mF xs xs=true; exact zq l xs h
theorem zm:∀ (l:List oS) (xs:List D),gv l xs=true->mF xs xs=true
 | [],[],_=>rfl
 | s :: l,x :: xs,h=>by
  have h:(dj s x&&gv l xs)=true:=h;rw [aQ] at h;show (jf x x&&mF xs xs)=true;rw [ma s x h.1,zm l xs h.2]; rfl
theorem zq:∀ (s:oS) (xs:List D),iA s xs=true->mF xs xs=true
 | _,[],_=>rfl
 | s,x :: xs,h=>by
  have h:(dj s x&&iA s xs)=true:=h;rw [aQ] at h;show (jf x x&&mF xs xs)=true;rw [ma s x h.1,zq s xs h.2]; rfl
end
theorem X9(s:oS)(ih:∀ (a b:D),dj s a=true->dj s b=true->jf a b=true->a=b):∀ (xs ys:List D),iA s xs=true->iA s ys=true->mF xs ys=true->xs=ys:=by
 intro xs;induction xs with
 | nil=>intro ys _ _ h; cases ys with
  | nil=>rfl
  | cons _ _=>cases h
 | cons x xs ZZ =>
  intro ys h1 h2 h;cases ys with
  | nil=>cases h
  | cons y ys =>
   have h1:(dj s x&&iA s xs)=true:=h1;have h2:(dj s y&&iA s ys)=true:=h2;have h:(jf x y&&mF xs ys)=true:=h;rw [aQ] at h1 h2 h;rw [ih x y h1.1 h2.1 h.1,ZZ ys h1.2 h2.2 h.2]
mutual
theorem rV:∀ (sh:oS) (a b:D),dj sh a=true->dj sh b=true->jf a b=true->a=b
 | .int,a,b,h1,h2,h=>by
  first | obtain⟨_,rfl⟩:=eU h1 | obtain⟨_,rfl⟩:=eS h1 | obtain⟨_,rfl⟩:=eT h1
  first | obtain⟨_,rfl⟩:=eU h2 | obtain⟨_,rfl⟩:=eS h2 | obtain⟨_,rfl⟩:=eT h2
  rw [vK] at h; rw [beq_iff_eq.mp h]
 | .tup l,a,b,h1,h2,h=>by
  first | obtain⟨_,rfl⟩:=eU h1 | obtain⟨_,rfl⟩:=eS h1 | obtain⟨_,rfl⟩:=eT h1
  first | obtain⟨_,rfl⟩:=eU h2 | obtain⟨_,rfl⟩:=eS h2 | obtain⟨_,rfl⟩:=eT h2
  rw [Sx l _ _ h1 h2 h]
 | .lst l,a,b,h1,h2,h=>by
  first | obtain⟨_,rfl⟩:=eU h1 | obtain⟨_,rfl⟩:=eS h1 | obtain⟨_,rfl⟩:=eT h1
  first | obtain⟨_,rfl⟩:=eU h2 | obtain⟨_,rfl⟩:=eS h2 | obtain⟨_,rfl⟩:=eT h2
  rw [X9 l (rV l) _ _ h1 h2 h]
theorem Sx:∀ (l:List oS) (xs ys:List D),gv l xs=true->gv l ys=true->mF xs ys=true->xs=ys
 | [],xs,ys,h1,h2,_=>by
  cases xs with
  | nil=>cases ys with
   | nil=>rfl
   | cons _ _=>cases h2
  | cons _ _=>cases h1
 | s :: l,xs,ys,h1,h2,h=>by
  cases xs with
  | nil=>cases h1
  | cons x xs =>
   cases ys with
   | nil=>cases h2
   | cons y ys =>
    have h1:(dj s x&&gv l xs)=true:=h1;have h2:(dj s y&&gv l ys)=true:=h2;have h:(jf x y&&mF xs ys)=true:=h;rw [aQ] at h1 h2 h;rw [rV s x y h1.1 h2.1 h.1,Sx l xs ys h1.2 h2.2 h.2]
end
theorem Rt(s:oS)(ih:∀ (a b:D),dj s a=true->dj s b=true->oR a b=false->oR b a=false->a=b):∀ (xs ys:List D),iA s xs=true->iA s ys=true->oY xs ys=false->oY ys xs=false->xs=ys:=by
 intro xs;induction xs with
 | nil=>intro ys _ _ h _; cases ys with
  | nil=>rfl
  | cons _ _=>cases h
 | cons x xs ZZ =>
  intro ys h1 h2 h3 h4;cases ys with
  | nil=>cases h4
  | cons y ys =>
   have h1:(dj s x&&iA s xs)=true:=h1;have h2:(dj s y&&iA s ys)=true:=h2;rw [aQ] at h1 h2;simp only [rg] at h3 h4;by_cases e:jf x y=true
   ·have exy:=rV s x y h1.1 h2.1 e;subst exy;rw [if_pos e] at h3 h4;rw [ZZ ys h1.2 h2.2 h3 h4]
   ·rw [if_neg e] at h3;by_cases e2:jf y x=true
    ·have:=rV s y x h2.1 h1.1 e2;subst this; exact absurd e2 e
    ·rw [if_neg e2] at h4;have:=ih x y h1.1 h2.1 h3 h4;subst this;exact absurd (ma s x h1.1) e
mutual
theorem z8:∀ (sh:oS) (a b:D),dj sh a=true->dj sh b=true->oR a b=false->oR b a=false->a=b
 | .int,a,b,h1,h2,h3,h4=>by
  first | obtain⟨_,rfl⟩:=eU h1 | obtain⟨_,rfl⟩:=eS h1 | obtain⟨_,rfl⟩:=eT h1
  first | obtain⟨_,rfl⟩:=eU h2 | obtain⟨_,rfl⟩:=eS h2 | obtain⟨_,rfl⟩:=eT h2
  simp [Ru] at h3 h4; congr 1; lia
 | .tup l,a,b,h1,h2,h3,h4=>by
  first | obtain⟨_,rfl⟩:=eU h1 | obtain⟨_,rfl⟩:=eS h1 | obtain⟨_,rfl⟩:=eT h1
  first | obtain⟨_,rfl⟩:=eU h2 | obtain⟨_,rfl⟩:=eS h2 | obtain⟨_,rfl⟩:=eT h2
  rw [HE l _ _ h1 h2 h3 h4]
 | .lst l,a,b,h1,h2,h3,h4=>by
  first | obtain⟨_,rfl⟩:=eU h1 | obtain⟨_,rfl⟩:=eS h1 | obtain⟨_,rfl⟩:=eT h1
  first | obtain⟨_,rfl⟩:=eU h2 | obtain⟨_,rfl⟩:=eS h2 | obtain⟨_,rfl⟩:=eT h2
  rw [Rt l (z8 l) _ _ h1 h2 h3 h4]
theorem HE:∀ (l:List oS) (xs ys:List D),gv l xs=true->gv l ys=true->oY xs ys=false->oY ys xs=false->xs=ys
 | [],xs,ys,h1,h2,_,_=>by
  cases xs with
  | nil=>cases ys with
   | nil=>rfl
   | cons _ _=>cases h2
  | cons _ _=>cases h1
 | s :: l,xs,ys,h1,h2,h3,h4=>by
  cases xs with
  | nil=>cases h1
  | cons x xs =>
   cases ys with
   | nil=>cases h2
   | cons y ys =>
    have h1:(dj s x&&gv l xs)=true:=h1;have h2:(dj s y&&gv l ys)=true:=h2;rw [aQ] at h1 h2;simp only [rg] at h3 h4;by_cases e:jf x y=true
    ·have exy:=rV s x y h1.1 h2.1 e;subst exy;rw [if_pos e] at h3 h4;rw [HE l xs ys h1.2 h2.2 h3 h4]
    ·rw [if_neg e] at h3;by_cases e2:jf y x=true
     ·have:=rV s y x h2.1 h1.1 e2;subst this; exact absurd e2 e
     ·rw [if_neg e2] at h4;have:=z8 s x y h1.1 h2.1 h3 h4;subst this;exact absurd (ma s x h1.1) e
end
mutual
theorem E5:∀ (sh:oS) (a:D),dj sh a=true->oR a a=false
 | .int,.int i,_=>by rw [Ru]; exact decide_eq_false (Int.lt_irrefl _)
 | .tup l,.tup xs,h=>by show oY xs xs=false; exact HF l xs h
 | .lst l,.fx xs,h=>by show oY xs xs=false; exact HG l xs h
theorem HF:∀ (l:List oS) (xs:List D),gv l xs=true->oY xs xs=false
 | [],[],_=>rfl
 | s :: l,x :: xs,h=>by
  have h:(dj s x&&gv l xs)=true:=h;rw [aQ] at h;simp only [rg,ma s x h.1,if_true]; exact HF l xs h.2
theorem HG:∀ (s:oS) (xs:List D),iA s xs=true->oY xs xs=false
 | _,[],_=>rfl
 | s,x :: xs,h=>by
  have h:(dj s x&&iA s xs)=true:=h;rw [aQ] at h;simp only [rg,ma s x h.1,if_true]; exact HG s xs h.2
end
theorem K9(s:oS)(ih:∀ (a b c:D),dj s a=true->dj s b=true->dj s c=true->oR a b=true->oR b c=true->oR a c=true):∀ (xs ys zs:List D),iA s xs=true->iA s ys=true->iA s zs=true->oY xs ys=true->oY ys zs=true->oY xs zs=true:=by
 intro xs;induction xs with
 | nil =>
  intro ys zs _ _ _ h4 h5;cases ys with
  | nil=>cases h4
  | cons _ _=>cases zs with
   | nil=>cases h5
   | cons _ _=>rfl
 | cons x xs ZZ =>
  intro ys zs h1 h2 h3 h4 h5;cases ys with
  | nil=>cases h4
  | cons y ys =>
   cases zs with
   | nil=>cases h5
   | cons z zs =>
    have h1:(dj s x&&iA s xs)=true:=h1;have h2:(dj s y&&iA s ys)=true:=h2;have h3:(dj s z&&iA s zs)=true:=h3;rw [aQ] at h1 h2 h3;simp only [rg] at h4 h5 ⊢;by_cases e1:jf x y=true
    ·have:=rV s x y h1.1 h2.1 e1;subst this;rw [if_pos e1] at h4;by_cases e2:jf x z=true
     ·rw [if_pos e2] at h5 ⊢;exact ZZ ys zs h1.2 h2.2 h3.2 h4 h5
     ·rw [if_neg e2] at h5 ⊢; exact h5
    ·rw [if_neg e1] at h4;by_cases e2:jf y z=true
     ·have:=rV s y z h2.1 h3.1 e2;subst this;rw [if_neg e1]; exact h4
     ·rw [if_neg e2] at h5;have h6:=ih x y z h1.1 h2.1 h3.1 h4 h5;rw [if_neg (fun e3=>by
       have:=rV s x z h1.1 h3.1 e3;subst this;rw [E5 s x h1.1] at h6; cases h6)]
      exact h6
mutual
theorem ug:∀ (sh:oS) (a b c:D),dj sh a=true->dj sh b=true->dj sh c=true->oR a b=true->oR b c=true->oR a c=true
 | .int,a,b,c,h1,h2,h3,h4,h5=>by
  first | obtain⟨_,rfl⟩:=eU h1 | obtain⟨_,rfl⟩:=eS h1 | obtain⟨_,rfl⟩:=eT h1
  first | obtain⟨_,rfl⟩:=eU h2 | obtain⟨_,rfl⟩:=eS h2 | obtain⟨_,rfl⟩:=eT h2
  first | obtain⟨_,rfl⟩:=eU h3 | obtain⟨_,rfl⟩:=eS h3 | obtain⟨_,rfl⟩:=eT h3
  simp [Ru] at *; lia
 | .tup l,a,b,c,h1,h2,h3,h4,h5=>by
  first | obtain⟨_,rfl⟩:=eU h1 | obtain⟨_,rfl⟩:=eS h1 | obtain⟨_,rfl⟩:=eT h1
  first | obtain⟨_,rfl⟩:=eU h2 | obtain⟨_,rfl⟩:=eS h2 | obtain⟨_,rfl⟩:=eT h2
  first | obtain⟨_,rfl⟩:=eU h3 | obtain⟨_,rfl⟩:=eS h3 | obtain⟨_,rfl⟩:=eT h3
  exact Be l _ _ _ h1 h2 h3 h4 h5
 | .lst l,a,b,c,h1,h2,h3,h4,h5=>by
  first | obtain⟨_,rfl⟩:=eU h1 | obtain⟨_,rfl⟩:=eS h1 | obtain⟨_,rfl⟩:=eT h1
  first | obtain⟨_,rfl⟩:=eU h2 | obtain⟨_,rfl⟩:=eS h2 | obtain⟨_,rfl⟩:=eT h2
  first | obtain⟨_,rfl⟩:=eU h3 | obtain⟨_,rfl⟩:=eS h3 | obtain⟨_,rfl⟩:=eT h3
  exact K9 l (ug l) _ _ _ h1 h2 h3 h4 h5
theorem Be:∀ (l:List oS) (xs ys zs:List D),gv l xs=true->gv l ys=true->gv l zs=true->oY xs ys=true->oY ys zs=true->oY xs zs=true
 | [],xs,ys,zs,h1,h2,_,h,_=>by
  cases xs with
  | nil=>cases ys with
   | nil=>cases h
   | cons _ _=>cases h2
  | cons _ _=>cases h1
 | s :: l,xs,ys,zs,h1,h2,h3,h4,h5=>by
  cases xs with
  | nil=>cases h1
  | cons x xs =>
   cases ys with
   | nil=>cases h2
   | cons y ys =>
    cases zs with
    | nil=>cases h3
    | cons z zs =>
     have h1:(dj s x&&gv l xs)=true:=h1;have h2:(dj s y&&gv l ys)=true:=h2;have h3:(dj s z&&gv l zs)=true:=h3;rw [aQ] at h1 h2 h3;simp only [rg] at h4 h5 ⊢;by_cases e1:jf x y=true
     ·have:=rV s x y h1.1 h2.1 e1;subst this;rw [if_pos e1] at h4;by_cases e2:jf x z=true
      ·rw [if_pos e2] at h5 ⊢;exact Be l xs ys zs h1.2 h2.2 h3.2 h4 h5
      ·rw [if_neg e2] at h5 ⊢; exact h5
     ·rw [if_neg e1] at h4;by_cases e2:jf y z=true
      ·have:=rV s y z h2.1 h3.1 e2;subst this;rw [if_neg e1]; exact h4
      ·rw [if_neg e2] at h5;have h6:=ug s x y z h1.1 h2.1 h3.1 h4 h5;rw [if_neg (fun e3=>by
        have:=rV s x z h1.1 h3.1 e3;subst this;rw [E5 s x h1.1] at h6; cases h6)]
       exact h6
end
theorem yu(sh:oS){a b:D}(h1:dj sh a=true)(h2:dj sh b=true)(h:oR a b=true):oR b a=false:=by
 cases q:oR b a with
 | false=>rfl
 | true=>have:=ug sh a b a h1 h2 h1 h q; rw [E5 sh a h1] at this; cases this
theorem vw(sh:oS){a b c:D}(h1:dj sh a=true)(h2:dj sh b=true)(h3:dj sh c=true)(q1:oR b a=false)(q2:oR c b=false):oR c a=false:=by
 cases h:oR c a with
 | false=>rfl
 | true =>
  exfalso;cases q:oR a b with
  | false =>
   have:=z8 sh a b h1 h2 q q1;subst this; rw [h] at q2; cases q2
  | true=>rw [ug sh c a b h3 h1 h2 h q] at q2; cases q2
theorem nM(sh:oS){xs ys:List D}(hx:∀ x∈xs,dj sh x=true)(hp:ys.Perm xs)(hs:ys.Pairwise fun a b=>oR b a=false):ph xs=ys:=by
 have hy:∀ y∈ys,dj sh y=true:=fun y h=>hx y (hp.mem_iff.mp h);have p1:(ph xs).Perm xs:=List.mergeSort_perm xs TC;have hz:∀ z∈ph xs,dj sh z=true:=fun z h=>hx z (p1.mem_iff.mp h);have s1:(ph xs).Pairwise fun a b=>oR b a=false:=by
  let Y2:List { d:D // dj sh d=true }:=xs.attach.map fun x=>⟨x.1,hx x.1 x.2⟩
  have ex:xs=Y2.map (·.1):=by
   simp only [Y2,bU]
   conv=>lhs; rw [<-List.attach_map_subtype_val xs]
   rfl
  have e2:ph xs=(Y2.mergeSort fun a b=>TC a.1 b.1).map (·.1):=by
   unfold ph;rw [ex];exact(List.map_mergeSort (r:=fun (a b:{ d:D // dj sh d=true })=>TC a.1 b.1) (s:=TC) (f:=fun x=>x.1) (l:=Y2) fun a _ b _=>rfl).symm
  rw [e2,hV]
  have:=PK (le:=fun (a b:{ d:D // dj sh d=true })=>TC a.1 b.1) (fun a b c h1 h2=>by
   unfold TC at *;simp only [t4] at *;exact vw sh a.2 b.2 c.2 h1 h2) (fun a b=>by
   unfold TC;cases q:oR b.1 a.1 with
   | false=>rfl
   | true=>rw [yu sh b.2 a.2 q]; rfl) Y2
  exact this.imp fun h=>by unfold TC at h; simpa using h
 refine Gj (le:=fun a b=>oR b a=false) (fun a b ha hb h h'=>?_) s1 hs (p1.trans hp.symm);exact z8 sh a b (hz a ha) (hy b hb) h' h
end K2
end
section
namespace K2
open PySem (Str)
open Enc (enc)
def lC(k:Nat):List D->List D
 | []=>[]
 | d :: r=>.tup [.int (k:Int),d] :: lC (k+1) r
theorem DJ:∀ (ds:List D) (k i:Nat),(lC k ds)[i]?=(ds[i]?).map fun d=>D.tup [.int ((k+i:Nat):Int),d]
 | [],k,i=>by simp [lC]
 | d :: r,k,0=>by simp [lC]
 | d :: r,k,i+1=>by
  rw [lC,ae,DJ r (k+1) i,ae];congr 1; funext x; congr 3; lia
theorem DH:∀ (ds:List D) (k:Nat),(lC k ds).length=ds.length
 | [],_=>rfl
 | d :: r,k=>by rw [lC,aj,aj,DH r]
def xb(x:D)(G1:Gp)(R:List D->(Gp->Prop)->Gp->Prop):Prop:=match x with
 | .fx ds=>R (lC 0 ds) (fun _=>True) G1
 | .ref p=>(match G1 p with
  | some (.lst ds)=>R (lC 0 ds) (fun G2=>G2 p=some (.lst ds)) G1
  | _=>False)
 | _=>False
def tJ(a:gN):Te:=fun E τ G R=>a E τ G fun x G1=>xb x G1 R
def acB(P:D->Gp->Prop):List D->Gp->Prop
 | [x],G=>P x G
 | _,_=>False
def acA(P:D->D->Gp->Prop):List D->Gp->Prop
 | [x,y],G=>P x y G
 | _,_=>False
def qL:List D->List D->List D
 | x :: xs,y :: ys=>.tup [x,y] :: qL xs ys
 | _,_=>[]
theorem GN:∀ (xs ys:List D) (i:Nat),(qL xs ys)[i]?=(xs[i]?).bind fun x=>(ys[i]?).map fun y=>D.tup [x,y]
 | [],ys,i=>by simp [qL]
 | x :: xs,[],i=>by cases h:(x :: xs)[i]? <;> simp [qL]
 | x :: xs,y :: ys,0=>by simp [qL]
 | x :: xs,y :: ys,i+1=>by rw [qL,ae,GN xs ys i,ae,ae]
theorem GL:∀ (xs ys:List D),(qL xs ys).length=min xs.length ys.length
 | [],ys=>by simp [qL]
 | x :: xs,[]=>by simp [qL]
 | x :: xs,y :: ys=>by rw [qL,aj,GL xs ys,aj,aj]; lia
def wZ(x:D)(G:Gp):Option (List D×(Gp->Prop)):=match x with
 | .fx ds=>some (ds,fun _=>True)
 | .ref p=>(match G p with
  | some (.lst ds)=>some (ds,fun G2=>G2 p=some (.lst ds))
  | _=>none)
 | _=>none
def vE(x y:D)(G1:Gp)(R:List D->(Gp->Prop)->Gp->Prop):Prop:=match wZ x G1,wZ y G1 with
 | some (xs,k1),some (ys,k2)=>R (qL xs ys) (fun G2=>k1 G2/\k2 G2) G1
 | _,_=>False
def Lf(a b:gN):Te:=fun E τ G R=>a E τ G fun x G1=>b E τ G1 fun y G2=>vE x y G2 R
def Ab(x:D)(G1:Gp)(R:List D->(Gp->Prop)->Gp->Prop):Prop:=match x with
 | .lI WP=>R (WP.map (·.1)) (fun _=>True) G1
 | _=>False
def H0(a:gN):Te:=fun E τ G R=>a E τ G fun x G1=>Ab x G1 R
def IsL(G:Gp)(d:D)(ds:List D):Prop:=d=.fx ds\/∃ a,d=.ref a/\G a=some (.lst ds)
theorem IsL.fx{G:Gp}{ds:List D}:IsL G (.fx ds) ds:=.inl rfl
theorem IsL.enc{α:Type} [DecidableEq α] [Enc α]{G:Gp}(xs:List α):IsL G (enc xs) (xs.map enc):=.inl rfl
theorem IsL.ref{G:Gp}{a:Nat}{ds:List D}(h:G a=some (.lst ds)):IsL G (.ref a) ds:=.inr ⟨a,rfl,h⟩
theorem RQ{G:Gp}{d:D}{ds:List D}{R:List D->(Gp->Prop)->Gp->Prop}(h:IsL G d ds)(k:∀ ok:Gp->Prop,(∀ G',iH G G'->ok G')->R ds ok G):TJ d G R:=by
 rcases h with rfl | ⟨a,rfl,e⟩
 ·exact k _ fun _ _=>trivial
 ·rw [Nh e]; exact k _ fun G' l=>l a _ e
theorem HI{G:Gp}{d:D}{ds:List D}(h:IsL G d ds):∃ ok:Gp->Prop,wZ d G=some (ds,ok)/\∀ G',iH G G'->ok G':=by
 rcases h with rfl | ⟨a,rfl,e⟩
 ·exact⟨_,rfl,fun _ _=>trivial⟩
 ·unfold wZ; simp only [e]; exact⟨_,rfl,fun G' l=>l a _ e⟩
theorem Dx{G:Gp}{d d':D}{ds ds':List D}{R:List D->(Gp->Prop)->Gp->Prop}(h:IsL G d ds)(h':IsL G d' ds')(k:∀ ok:Gp->Prop,(∀ G',iH G G'->ok G')->R (qL ds ds') ok G):vE d d' G R:=by
 obtain⟨k1,e1,h1⟩:=HI h;obtain⟨k2,e2,h2⟩:=HI h';unfold vE; simp only [e1,e2];exact k _ fun G' l=>⟨h1 G' l,h2 G' l⟩
theorem Nc {G:Gp} {d:D} {ds:List D} {C:String} {Q:DK} (h:IsL G d ds) (k:Q (.bl (C == "list")) G):isAt C d G Q:=by
 rcases h with rfl | ⟨a,rfl,e⟩
 ·exact k
 ·rw [RJ e]; exact k
theorem AG{G:Gp}{d:D}{ds:List D}{Q:Bool->Gp->Prop}(h:IsL G d ds)(k:Q (!ds.isEmpty) G):uQ d G Q:=by
 rcases h with rfl | ⟨a,rfl,e⟩
 ·exact k
 ·rw [Oa e]; exact k
theorem oG{G:Gp}{d:D}{ds:List D}(h:IsL G d ds):itemsOf d G=some ds:=by
 rcases h with rfl | ⟨a,rfl,e⟩
 ·rfl
 ·unfold itemsOf; simp only [e]
theorem sM{G:Gp}{d:D}{ds:List D}(h:IsL G d ds):Ce d G:=by
 rcases h with rfl | ⟨a,rfl,e⟩
 ·trivial
 ·unfold Ce; simp only [e]
theorem QV{G:Gp}{d:D}{ds:List D}{lo hi:Option Int}{Q:DK}(h:IsL G d ds)(k:jH G (.lst (cut ds lo hi)) Q):WV d lo hi G Q:=by
 rcases h with rfl | ⟨a,rfl,e⟩
 ·exact k
 ·rw [UC e]; exact k
theorem lE{G:Gp}{d:D}{ds:List D}{Q:DK}(h:IsL G d ds)(k:Q (.int (ds.length:Int)) G):nu [d] G Q:=by
 rcases h with rfl | ⟨a,rfl,e⟩
 ·exact k
 ·rw [S2 e]; exact k
theorem S1{G:Gp}{d:D}{ds:List D}{Q:DK}(h:IsL G d ds)(k:jH G (.lst ds) Q):BK [d] G Q:=by
 unfold BK; simp only [oG h]; exact k
theorem LQ{α:Type} [DecidableEq α] [Enc α] [cg α]{G:Gp}{d:D}{xs:List α}{Q:DK}(h:IsL G d (xs.map enc))(hl:xs.length < 64)(k:jH G (.lst ((Mz xs).map enc)) Q)(ok:Rh (cg.yj α)=true:=by decide):Ak [d] G Q :=
 ⟨cg.yj α,xs.map enc,sM h,oG h,by rw [r8,eB]; intro x _; exact cg.Fd x,ok,by rw [ag]; exact hl,by rw [C1]; exact k⟩
theorem gT{G:Gp}{d x:D}{ds:List D}{i:Int}{Q:DK}(h:IsL G d ds)(e:pL ds i=some x)(k:Q x G):ky d (.int i) G Q:=by
 rcases h with rfl | ⟨a,rfl,e2⟩
 ·rw [UD e]; exact k
 ·rw [UE e2 e]; exact k
theorem Bf{G:Gp}{d:D}{ds:List D}(h:IsL G d ds):pD d G=some ds:=by
 rcases h with rfl | ⟨a,rfl,e⟩
 ·rfl
 ·unfold pD; simp only [e]
theorem NR{G:Gp}{d e:D}{ds es:List D}{Q:DK}(h:IsL G d ds)(h':IsL G e es)(hz:ds.length+es.length<=SZ)(k:jH G (.lst (ds++es)) Q):LS d e G Q:=by
 unfold LS; simp only [Bf h,Bf h']; exact⟨hz,k⟩
theorem UJ{G:Gp}{d e:D}{ds es:List D}{Q:DK}(h:IsL G d ds)(h':IsL G e es)(hz:ds.length+es.length<=SZ)(k:jH G (.lst (ds++es)) Q):se d e G Q:=by
 have:=NR h h' hz k;rcases h with rfl | ⟨a,rfl,_⟩
 ·rw [sZ]; exact this
 ·rw [wU]; exact this
theorem SS{α:Type}(xs:List α)(i:Nat)(h:i<=xs.length):cut xs (some (i:Int)) none=xs.drop i:=by
 unfold cut kE;simp only;rw [if_neg (by lia),aZ,JU h];exact iu (by rw [c6]; lia)
theorem Yg{α:Type}(xs:List α)(i:Nat)(h:i<=xs.length):cut xs none (some (i:Int))=xs.take i:=by
 unfold cut kE;simp only;rw [if_neg (by lia),aZ,JU h];simp
theorem uo{α β:Type}(f:α->β)(xs:List α)(lo hi:Option Int):cut (xs.map f) lo hi=(cut xs lo hi).map f:=by
 unfold cut; rw [ag,PL,List.map_drop]
theorem lG{α:Type}(xs:List α){k:Int}(h0:0<=k)(h1:k < xs.length):pL xs k=some (xs[k.toNat]'(by lia)):=by
 unfold pL Fb;rw [if_pos h0,if_pos h1];show xs[k.toNat]?=_;exact ah (by lia)
theorem oA{n:Nat}{Wp Uf:List D}{d:D}(h:dB 0 n=Wp++d :: Uf):d=.int (Wp.length:Int)/\Wp.length < n:=by
 have hl:Wp.length < n:=by
  have:=congrArg dF h;simp [dB] at this; lia
 have:=congrArg (fun l=>l[Wp.length]?) h;simp only [dB,bu,List.getElem?_range hl] at this;rw [cE (aK _)] at this;simp at this;exact⟨this.symm,hl⟩
def Zh{α β:Type} [DecidableEq α] [Enc α] [DecidableEq β] [Enc β](Wp:α->Prop)(f:α->β):mw:=fun ds G Q _=>∃ a:α,ds=[enc a]/\Wp a/\Q (enc (f a)) G
def ace{α β γ:Type} [DecidableEq α] [Enc α] [DecidableEq β] [Enc β] [DecidableEq γ] [Enc γ](Wp:α->β->Prop)(f:α->β->γ):mw:=fun ds G Q _=>∃ (a:α) (b:β),ds=[enc a,enc b]/\Wp a b/\Q (enc (f a b)) G
end K2
end
section
namespace K2
open PySem (Str)
open Enc (enc)
def HU(WP:List (D×D)):Bool:=WP.all fun p=>gb p.1
def HZ(x:D)(G1:Gp)(R:List D->(Gp->Prop)->Gp->Prop):Prop:=match x with
 | .lI WP=>HU WP=true/\R (WP.map fun p=>.tup [p.1,p.2]) (fun _=>True) G1
 | _=>False
def Lg(a:gN):Te:=fun E τ G R=>a E τ G fun x G1=>HZ x G1 R
def vp:D->Bool
 | .dh=>true
 | .bl _=>true
 | .int _=>true
 | _=>false
section
variable {κ α:Type} [DecidableEq κ] [Enc κ] [DecidableEq α] [Enc α] {l:List (κ×α)} {G G':Gp} {d:D}
theorem OR{β:Type} [DecidableEq β] [Enc β](l:List (Int×β)):HU (bI l)=true:=by
 unfold HU bI; rw [r8,eB]; intro p _; rfl
theorem DL(l:List (κ×α)):(bI l).length=l.length:=by unfold bI; rw [ag]
end
section
variable {α:Type} [DecidableEq α] [Enc α] {l:List (Int×α)} {G:Gp} {d:D}
theorem kO{a:Nat}{i:Int}{v:α}{Q:Gp->Prop}(h:G a=some (.jg (bI l)))(hs:l.length < SZ)(k:Q (fG G a (.jg (bI (oZ l i v))))):wy (.ref a) (.int i) (enc v) G Q:=by
 unfold wy;simp only [h];refine⟨gz l i,by rw [DL]; exact hs,?_⟩;rw [show (D.int i)=enc i from rfl,MQ]; exact k
end
end K2
end
section
namespace K2
open PySem (Str)
open Enc (enc)
abbrev TF2:=md->iS->Gp->(List Str->Gp->Prop)->Prop
end K2
end
section
namespace K2
def BG(x:PySem.Str)(t:CF):iC:=fun E _ τ G=>t E τ G fun ds _=>ds.length<=SZ/\E ⟨x,[]⟩ (fun _=>none)
end K2
namespace K2
open PySem (Str)
def NH(sp:mw)(t:CF)(i:Nat)(cat:List Str)(th:iC):iC:=fun _ K τ G =>
 t (fun _ _=>False) τ G fun ds G1=>sp ds (fun _=>none) (fun _ _=>K.nx τ G1) fun ex _=>cat.contains ex.cls=true /\
  th (fun _ _=>False) ⟨fun nI G'=>K.nx (nI.set i none) G',fun _ _=>False,fun _ _=>False,fun _ _=>False⟩ (τ.set i (some (.exc ex.cls))) G1
end K2
namespace K2
open PySem (Str)
def IS(all sub:List Str)(a:gN):gN:=fun E τ G Q=>a E τ G fun x G1=>match x with
 | .dh=>Q (.bl false) G1
 | .exc c=>all.contains c=true/\Q (.bl (sub.contains c)) G1
 | _=>False
end K2
namespace K2
open PySem (Str)
def LM(sp:mw)(t:CF):gN:=fun E τ G Q=>t E τ G fun ds G1=>sp ds G1 Q E
end K2
end
section
namespace K2
open PySem (Str)
open Enc (enc)
def FO(ds:List D)(G:Gp)(Q:DK):Prop:=match ds with
 | [.ref a]=>(match G a with
  | some (.jg WP)=>WP.length<=1000/\jH G (.lst (WP.map (·.1))) Q
  | _=>False)
 | _=>False
def Rv(x:D)(G1:Gp)(Q:DK):Prop:=match x with
 | .int n=>(0<=n/\n<=1000)/\jH G1 (.lst (dB 0 n.toNat)) Q
 | _=>False
def xu(a:gN):gN:=fun E τ G Q=>a E τ G fun x G1=>Rv x G1 Q
end K2
end
section
namespace K2
open PySem (Str)
open Enc (enc)
def LL(r r':B7)(ta tb tc:gN):gN:=fun E τ G Q=>ta E τ G fun x G1=>tb E τ G1 fun y G2=>r x y G2 fun z G3=>∃ k,z=.bl k/\(if k=true then tc E τ G3 fun w G4=>r' y w G4 Q else Q (.bl false) G3)
end K2
end
section
namespace K2
open PySem (Str)
open Enc (enc)
def h2(t:T2):Int:=PySem.reduceHash (PySem.Builtin.Tuple.tupleHashOf [PySem.hashInt t.a,PySem.hashInt t.b])
def Rq(x:D)(ds:List D)(G:Gp)(Q:DK):Prop:=match x,ds with
 | .ref a,[y]=>∃ l m:List (T2×T2),G a=some (.jg (bI l))/\y=.lI (bI m)/\(l.length+m.length<=500/\((l++m).map (·.1)).Nodup/\(l=[]->(m.map fun p=>h2 p.1).Nodup))/\Q .dh (fG G a (.jg (bI (l++m))))
 | _,_=>False
def LK(t:gN):gN:=fun E τ G Q=>t E τ G fun x G1=>∃ l:List (T2×T2),x=.lI (bI l)/\l.length<=500/\jH G1 (.lst (l.map fun p=>enc p.2)) Q
def uv(ds:List D)(G:Gp)(Q:DK):Prop:=match ds with
 | [x]=>∃ l:List T2,pD x G=some (l.map enc)/\(1<=l.length/\l.length < 64)/\∀ m:List T2,m.Nodup->(∀ y,y∈m↔y∈l)->jH G (.lst ((Mz m).map enc)) Q
 | _=>False
def Po(neg:Bool)(ns:List Int)(a:gN):gN:=fun E τ G Q=>a E τ G fun x G1=>∃ i,x=.int i/\Q (.bl (if neg then !ns.contains i else ns.contains i)) G1
end K2
end
section
namespace K2
open PySem (Str)
def Iz:D->Bool
 | .fx ds=>ds.all vp
 | d=>vp d
def goP(z y:Nat)(t:gN):List D->md->iS->Gp->(iS->Prop)->Prop
 | [],_,τ,_,R=>R τ
 | k :: ks,E,τ,G,R=>t E (τ.set z (some k)) G fun d G1=>goP z y t ks E ((τ.set z (some k)).set y (some d)) G1 R
def V9(i z y:Nat)(t:gN):iC:=fun E K τ G=>∃ p WP,τ[i]?=some (some (.ref p))/\G p=some (.jg WP) /\
 goP z y t (WP.map (·.1)) E (τ.set i (some (.lI WP))) (fun _=>none) fun nI=>∃ d,nI[y]?=some (some d)/\Iz d=true/\K.nx ((τ.set z none).set y (some d)) G
end K2
namespace K2
def Ou(neg:Bool):B7:=fun x y G Q=>match y with
 | .lI []=>(∃ n,x=.int n)/\Q (.bl neg) G
 | y=>KO neg x y G Q
theorem ML{neg:Bool}{x y:D}{G:Gp}{Q:DK}(h:y≠.lI []):Ou neg x y G Q=KO neg x y G Q:=by
 unfold Ou;split
 ·exact absurd rfl h
 ·rfl
end K2
end
section
namespace K2
open Enc (enc)
def WW:B7:=fun x y G Q=>∃ (sh:oS) (a b:D),(Sn G SN x a/\Sn G SN y b)/\(dj sh a=true/\dj sh b=true)/\Q (.bl (oR a b)) G
theorem QW{α:Type} [DecidableEq α] [Enc α] [cg α]{x y:α}{G:Gp}{Q:DK}(hd:Enc.dep α<=8)(q:Q (.bl (cg.lt x y)) G):WW (enc x) (enc y) G Q :=
 ⟨cg.yj α,enc x,enc y,⟨Enc.sn _ _ _ hd,Enc.sn _ _ _ hd⟩,⟨cg.Fd _,cg.Fd _⟩,by rw [cg.Xs]; exact q⟩
end K2
end
section
namespace K2.S
open PySem PySem.SetTable
def f5(m i:Nat):Nat:=(i * 5+1) % (m+1)
def TG(m:Nat):Nat->Nat->Nat
 | 0,i=>i
 | k+1,i=>TG m k (f5 m i)
theorem z9(m:Nat):∀ (a b i:Nat),TG m (a+b) i=TG m b (TG m a i)
 | 0,b,i=>by rw [iE]; rfl
 | a+1,b,i=>by rw [Gg]; exact z9 m a b (f5 m i)
def Mk(m:Nat):Prop:=m=7\/m=31\/m=127
def Zx(m:Nat):Nat->Nat->List Nat
 | 0,_=>[]
 | k+1,i=>i :: Zx m k (f5 m i)
theorem EU(m:Nat):∀ (n i e:Nat),e∈Zx m n i->∃ k,k < n/\TG m k i=e
 | 0,_,_,h=>by cases h
 | n+1,i,e,h=>by
  rcases List.mem_cons.mp h with rfl | h
  ·exact⟨0,me _,rfl⟩
  ·obtain⟨k,hk,q⟩:=EU m n (f5 m i) e h;exact⟨k+1,Nat.succ_lt_succ hk,q⟩
theorem UT{m:Nat}(h:Mk m):(∀ e,e < m+1->e∈Zx m (m+1) 0)/\TG m (m+1) 0=0:=by
 have key:∀ m,((aY (m+1)).all fun e=>(Zx m (m+1) 0).contains e)=true->TG m (m+1) 0=0->(∀ e,e < m+1->e∈Zx m (m+1) 0)/\TG m (m+1) 0=0:=fun m h1 h2 =>
  ⟨fun e he=>by simpa using (List.all_eq_true.mp h1) e (List.mem_range.mpr he),h2⟩
 rcases h with rfl | rfl | rfl
 ·exact key _ (by decide +kernel) (by decide +kernel)
 ·exact key _ (by decide +kernel) (by decide +kernel)
 ·exact key _ (by decide +kernel) (by decide +kernel)
theorem cover{m:Nat}(h:Mk m){i e:Nat}(hi:i < m+1)(he:e < m+1):∃ k,k < m+1/\TG m k i=e:=by
 obtain⟨all,back⟩:=UT h;obtain⟨a,ha,qa⟩:=EU m _ _ _ (all i hi);obtain⟨b,hb,qb⟩:=EU m _ _ _ (all e he);by_cases c:a<=b
 ·refine⟨b - a,by lia,?_⟩;rw [<-qa,<-z9,show a+(b - a)=b by lia,qb]
 ·refine⟨m+1 - a+b,by lia,?_⟩;rw [<-qa,<-z9,show a+(m+1 - a+b)=(m+1)+b by lia,z9,back,qb]
def lp(m:Nat):Nat->Nat×Nat->Nat×Nat
 | 0,x=>x
 | k+1,x=>lp m k (leap m x.1 x.2)
theorem Rw(m:Nat):∀ (a b:Nat) (x:Nat×Nat),lp m (a+b) x=lp m b (lp m a x)
 | 0,b,i=>by rw [iE]; rfl
 | a+1,b,i=>by rw [Gg]; exact Rw m a b _
theorem M0(m:Nat):∀ (k:Nat) (x:Nat×Nat),(lp m k x).2=x.2 / 32 ^ k
 | 0,x=>by rw [Nat.pow_zero,Nat.div_one]; rfl
 | k+1,x=>by
  show (lp m k _).2=_;rw [M0 m k];show x.2 / 32 / 32 ^ k=_;rw [Nat.div_div_eq_div_mul,T9,Ua]
theorem MZ(m:Nat):∀ (k i:Nat),lp m k (i,0)=(TG m k i,0)
 | 0,_=>rfl
 | k+1,i=>by
  show lp m k ((i * 5+1+0 / 32) % (m+1),0 / 32)=_;rw [Nat.zero_div,Nat.add_zero];exact MZ m k _
theorem VV(m:Nat):∀ (k:Nat) (x:Nat×Nat),x.1 < m+1->(lp m k x).1 < m+1
 | 0,_,h=>h
 | k+1,x,_=>VV m k _ (kS _ (me m))
theorem HJ{m:Nat}(h:Mk m){x:Nat×Nat}(h1:x.1 < m+1)(h2:x.2 < 2 ^ 64){e:Nat}(he:e < m+1):∃ k,k < m+14/\(lp m k x).1=e:=by
 have z:(lp m 13 x).2=0:=by
  rw [M0]; exact Nat.div_eq_of_lt (bX h2 (by decide))
 obtain⟨k,hk,q⟩:=cover h (VV m 13 x h1) he;refine⟨13+k,by lia,?_⟩;rw [Rw,show lp m 13 x=((lp m 13 x).1,0) from by rw [<-z],MZ];exact q
def mR(m:Nat)(p:Probe):Probe :=
 if p.more > 0 then { p with j:=p.j+1,more:=p.more - 1 } else
 { p with j:=(leap m p.i p.perturb).1,more:=runEnd m (leap m p.i p.perturb).1 - (leap m p.i p.perturb).1,i:=(leap m p.i p.perturb).1,perturb:=(leap m p.i p.perturb).2 }
def fq(m:Nat):Nat->Probe->Probe
 | 0,p=>p
 | k+1,p=>fq m k (mR m p)
theorem ka(m:Nat):∀ (a b:Nat) (p:Probe),fq m (a+b) p=fq m b (fq m a p)
 | 0,b,p=>by rw [iE]; rfl
 | a+1,b,p=>by rw [Gg]; exact ka m a b _
theorem Of(m k:Nat)(p:Probe):fq m (k+1) p=mR m (fq m k p):=ka m k 1 p
def Pp(m:Nat)(x:Nat×Nat):Probe:={ j:=x.1,more:=runEnd m x.1 - x.1,i:=x.1,perturb:=x.2,dummy:=none }
theorem more_le(m i:Nat):runEnd m i - i<=9:=by unfold runEnd; split <;> lia
theorem wF(m:Nat):∀ (n:Nat) (p:Probe),p.more=n->p.dummy=none->fq m (n+1) p=Pp m (leap m p.i p.perturb)
 | 0,p,h,hd=>by
  show mR m p=_;unfold mR;rw [if_neg (by lia)];obtain⟨j,mo,i,pe,d⟩:=p;cases hd; rfl
 | n+1,p,h,hd=>by
  show fq m (n+1) (mR m p)=_;have e:mR m p={ p with j:=p.j+1,more:=p.more - 1 }:=by unfold mR; rw [if_pos (by lia)]
  rw [e];exact wF m n _ (by show p.more - 1=n; lia) hd
theorem aaP(m:Nat):∀ (k:Nat) (x:Nat×Nat),∃ n,n<=10 * k/\fq m n (Pp m x)=Pp m (lp m k x)
 | 0,x=>⟨0,aK _,rfl⟩
 | k+1,x=>by
  obtain⟨n,hn,q⟩:=aaP m k (leap m x.1 x.2);refine⟨(runEnd m x.1 - x.1+1)+n,?_,?_⟩
  ·have:=more_le m x.1; lia
  ·rw [ka,wF m (runEnd m x.1 - x.1) (Pp m x) rfl rfl]; exact q
structure Pb(m:Nat)(p:Probe):Prop where
 hi:p.i < m+1
 hp:p.perturb < 2 ^ 64
 hm:p.more<=9
 hd:p.dummy=none
theorem Pb.leap{m:Nat}{p:Probe}(h:Pb m p):(leap m p.i p.perturb).1 < m+1/\(leap m p.i p.perturb).2 < 2 ^ 64 :=
 ⟨kS _ (me m),sg (Nat.div_le_self _ _) h.hp⟩
theorem Pb.mR{m:Nat}{p:Probe}(h:Pb m p):Pb m (mR m p):=by
 unfold S.mR;split
 ·exact⟨h.hi,h.hp,cw (PJ _ _) h.hm,h.hd⟩
 ·exact⟨h.leap.1,h.leap.2,more_le _ _,h.hd⟩
theorem Pb.fq{m:Nat}:∀ (k:Nat) {p:Probe},Pb m p->Pb m (fq m k p)
 | 0,_,h=>h
 | k+1,_,h=>Pb.fq k h.mR
theorem Pb.cover{m:Nat}(hm:Mk m){p:Probe}(h:Pb m p){e:Nat}(he:e < m+1):∃ n,n < 10 * turns m/\(S.fq m n p).j=e:=by
 obtain⟨k,hk,q⟩:=HJ hm h.leap.1 h.leap.2 he;obtain⟨n,hn,q2⟩:=aaP m k (SetTable.leap m p.i p.perturb);refine⟨p.more+1+n,?_,?_⟩
 ·have:=h.hm; unfold turns; lia
 ·rw [ka,wF m p.more p rfl h.hd,q2]; exact q
theorem Pb.start(t:iU)(h:Int):Pb t.mask (t.probeStart h):=by
 refine⟨kS _ (me _),?_,more_le _ _,rfl⟩;show bits h < 2 ^ 64;unfold bits;have h1:0<=h % (2 ^ 64:Int):=dP _ (by decide);have h2:h % (2 ^ 64:Int) < 2 ^ 64:=c7 _ (by decide);lia
end K2.S
end
section
namespace K2.S
open PySem PySem.SetTable
def Up(xs:Array Nat):Prop:=∀ a b,a < b->b < xs.size->xs.getD a 0 < xs.getD b 0
theorem Sj(xs:Array Nat){k:Nat}(h:k < xs.size)(a b:Nat):xs.getD k a=xs.getD k b:=by
 rw [bq,bq,bb h]; rfl
theorem Fe{xs:Array Nat}(up:Up xs)(j:Nat):∀ (fuel lo hi:Nat),hi - lo<=fuel->lo<=hi->hi<=xs.size->(∀ k,k < lo->xs.getD k 0 < j)->(∀ k,hi<=k->k < xs.size->j<=xs.getD k 0) ->
  below.go xs j fuel lo hi<=xs.size/\(∀ k,k < below.go xs j fuel lo hi->xs.getD k 0 < j)/\(∀ k,below.go xs j fuel lo hi<=k->k < xs.size->j<=xs.getD k 0)
 | 0,lo,hi,h1,h2,h3,h4,h5=>by
  have e:lo=hi:=by lia
  subst e;exact⟨h3,h4,h5⟩
 | fuel+1,lo,hi,h1,h2,h3,h4,h5=>by
  show (below.go xs j (fuel+1) lo hi)<=_/\_;unfold below.go;by_cases c:lo < hi
  ·rw [if_pos c];have hm:(lo+hi) / 2 < xs.size:=by lia
   dsimp only;rw [Sj xs hm j 0];by_cases q:xs.getD ((lo+hi) / 2) 0 < j
   ·rw [if_pos q];refine Fe up j fuel _ _ (by lia) (by lia) h3 (fun k hk=>?_) h5;by_cases e:k=(lo+hi) / 2
    ·rw [e]; exact q
    ·exact Ub (up _ _ (by lia) hm) q
   ·rw [if_neg q];refine Fe up j fuel _ _ (by lia) (by lia) (by lia) h4 fun k hk hs=>?_;by_cases e:k=(lo+hi) / 2
    ·rw [e]; lia
    ·have:=up ((lo+hi) / 2) k (by lia) hs; lia
  ·rw [if_neg c];exact⟨by lia,h4,fun k hk hs=>h5 k (by lia) hs⟩
theorem rJ{xs:Array Nat}(up:Up xs)(j:Nat):below xs j<=xs.size/\(∀ k,k < below xs j->xs.getD k 0 < j)/\(∀ k,below xs j<=k->k < xs.size->j<=xs.getD k 0) :=
 Fe up j _ _ _ (by lia) (by lia) (by lia) (fun k h=>by lia) (fun k h1 h2=>by lia)
theorem below_at{xs:Array Nat}(up:Up xs){k:Nat}(hk:k < xs.size):below xs (xs.getD k 0)=k:=by
 obtain⟨h1,h2,h3⟩:=rJ up (xs.getD k 0);by_cases a:below xs (xs.getD k 0) < k
 ·have:=h3 _ (aK _) (by lia);have:=up _ _ a hk;lia
 ·by_cases b:k < below xs (xs.getD k 0)
  ·have:=h2 _ b; lia
  ·lia
def Full(xs:Array Nat)(j:Nat):Prop:=∃ k,k < xs.size/\xs.getD k 0=j
theorem Up.inj{xs:Array Nat}(up:Up xs){a b:Nat}(ha:a < xs.size)(hb:b < xs.size)(e:xs.getD a 0=xs.getD b 0):a=b:=by
 by_cases c:a < b
 ·have:=up _ _ c hb; lia
 ·by_cases d:b < a
  ·have:=up _ _ d ha; lia
  ·lia
theorem Sh(xs:Array Nat){k:Nat}(h:k < xs.size):xs[k]?=some (xs.getD k 0):=by
 rw [bq,bb h]; rfl
theorem C3{t:iU}(up:Up t.place){k:Nat}(hk:k < t.place.size):t.slot (t.place.getD k 0)=.live k:=by
 unfold slot;dsimp only;rw [below_at up hk,Sh _ hk];rw [if_pos (by simp)]
theorem KI{t:iU}(up:Up t.place)(dm:t.dummies=#[]){j:Nat}(h:¬ Full t.place j):t.slot j=.empty:=by
 unfold slot;dsimp only;have n1:(t.place[below t.place j]? == some j)=false:=by
  rw [Bool.eq_false_iff];intro q;have q:=beq_iff_eq.mp q;obtain⟨lt,e⟩:=Array.getElem?_eq_some_iff.mp q;exact h ⟨_,lt,by rw [bq,q]; rfl⟩
 rw [n1,dm];rfl
theorem KJ{t:iU}(up:Up t.place)(dm:t.dummies=#[])(j:Nat):(¬ Full t.place j/\t.slot j=.empty)\/(∃ k,k < t.place.size/\t.place.getD k 0=j/\t.slot j=.live k):=by
 by_cases h:Full t.place j
 ·obtain⟨k,hk,e⟩:=h;exact .inr ⟨k,hk,e,e ▸ C3 up hk⟩
 ·exact .inl ⟨h,KI up dm h⟩
theorem Hx{t:iU}(up:Up t.place)(dm:t.dummies=#[])(hashAt:Nat->Int)(h:Int):∀ (fuel:Nat) (p:Probe),Pb t.mask p->(∃ n,n < fuel/\¬ Full t.place (fq t.mask n p).j) ->
    ∃ n met,probe.go t hashAt h fuel p=some met/\(∀ n',n' < n->∃ k,k < t.place.size/\t.place.getD k 0=(fq t.mask n' p).j/\hashAt k≠h) /\
      ((¬ Full t.place (fq t.mask n p).j/\met=.empty (fq t.mask n p).j none) \/
       (∃ k,k < t.place.size/\t.place.getD k 0=(fq t.mask n p).j/\hashAt k=h/\met=.candidate (fq t.mask n p).j k (fq t.mask (n+1) p)))
  | 0,_,_,⟨n,hn,_⟩=>absurd hn (cF _)
  | fuel+1,p,hp,⟨n,hn,hf⟩=>by
    rcases KJ up dm p.j with ⟨nf,e⟩ | ⟨k,hk,ek,e⟩
    · refine⟨0,.empty p.j p.dummy,?_,fun n' z=>absurd z (cF _),.inl ⟨nf,by rw [hp.hd]; rfl⟩⟩
      unfold probe.go;rw [e]
    · by_cases q:hashAt k=h
      · refine⟨0,.candidate p.j k (t.advance p),?_,fun n' z=>absurd z (cF _),.inr ⟨k,hk,ek,q,rfl⟩⟩
        unfold probe.go;rw [e];dsimp only;rw [if_pos (beq_iff_eq.mpr q)]
      · have hn0:∃ m,n=m+1:=by
          cases n with
          | zero=>exact absurd ⟨k,hk,ek⟩ hf
          | succ m=>exact⟨m,rfl⟩
        obtain⟨m,rfl⟩:=hn0;obtain⟨n',met,g,all,fin⟩:=Hx up dm hashAt h fuel (mR t.mask p) hp.mR ⟨m,by lia,hf⟩;refine⟨n'+1,met,?_,fun n'' z=>?_,fin⟩
        · unfold probe.go
          rw [e];dsimp only;rw [if_neg (fun z=>q (beq_iff_eq.mp z))];exact g
        · cases n'' with
          | zero=>exact⟨k,hk,ek,q⟩
          | succ n''=>exact all n'' (by lia)
end K2.S
end
section
namespace K2.S
open PySem PySem.SetTable
abbrev En:=Array (Int×Value)
def hk(es:En)(k:Nat):Int:=(es[k]?.map (·.1)).getD 0
structure VH(t:iU)(es:En):Prop where
 ms:Mk t.mask
 dm:t.dummies=#[]
 sz:t.place.size=es.size
 up:Up t.place
 le:∀ k,k < t.place.size->t.place.getD k 0<=t.mask
 nE:t.place.size<=t.mask
 way:∀ k,k < t.place.size->∃ n,(fq t.mask n (probeStart t (hk es k))).j=t.place.getD k 0/\∀ n',n' < n->Full t.place (fq t.mask n' (probeStart t (hk es k))).j
theorem RP{xs:Array Nat}(up:Up xs){m:Nat}(all:∀ e,e<=m->Full xs e):∀ e,e<=m->∀ k,k < xs.size->xs.getD k 0=e->e<=k
 | 0,_,_,_,_=>cP _
 | e+1,he,k,hk,q=>by
  obtain⟨k',TU,q'⟩:=all e (by lia);have ih:=RP up all e (by lia) k' TU q';have:k' < k:=by
   by_cases c:k' < k
   ·exact c
   ·by_cases d:k=k'
    ·subst d; lia
    ·have:=up k k' (by lia) TU; lia
  lia
theorem Oh{xs:Array Nat}(up:Up xs){m:Nat}(nE:xs.size<=m):∃ e,e<=m/\¬ Full xs e:=by
 apply bZ;intro no;have all:∀ e,e<=m->Full xs e:=fun e he=>bZ fun z=>no ⟨e,he,z⟩;obtain⟨k,hk,q⟩:=all m (aK _);have:=RP up all m (aK _) k hk q;lia
theorem BA{t:iU}{es:En}(O:VH t es)(p:Probe)(hp:Pb t.mask p):∃ N,N < 10 * turns t.mask/\¬ Full t.place (fq t.mask N p).j/\∀ n,n < N->Full t.place (fq t.mask n p).j:=by
 obtain⟨e,he,hf⟩:=Oh O.up O.nE;obtain⟨n0,hn,q⟩:=hp.cover O.ms (show e < t.mask+1 by lia);have:∀ n,n<=n0->(∃ N,N < 10 * turns t.mask/\¬ Full t.place (fq t.mask N p).j/\∀ n,n < N->Full t.place (fq t.mask n p).j)\/(∀ n',n' < n->Full t.place (fq t.mask n' p).j):=by
  intro n;induction n with
  | zero=>intro _; exact .inr fun n' z=>absurd z (cF _)
  | succ n ih =>
   intro Li;rcases ih (by lia) with a | a
   ·exact .inl a
   ·by_cases c:Full t.place (fq t.mask n p).j
    ·refine .inr fun n' z=>?_;by_cases d:n'=n
     ·rw [d]; exact c
     ·exact a n' (by lia)
    ·exact .inl ⟨n,by lia,c,a⟩
 rcases this n0 (aK _) with a | a
 ·exact a
 ·exact⟨n0,hn,by rw [q]; exact hf,a⟩
theorem iY{α:Type}(xs:Array α)(p:Nat)(x:α)(hp:p<=xs.size):(insertAt xs p x).size=xs.size+1:=by
 rw [<-bz,toList_insertAt,aw,aj,eA,c6,bz]; lia
theorem xa{α:Type}(xs:Array α)(p:Nat)(x:α)(hp:p<=xs.size)(k:Nat):(insertAt xs p x)[k]?=if k < p then xs[k]? else if k=p then some x else xs[k - 1]?:=by
 rw [<-cL,toList_insertAt];have hl:(xs.toList.take p).length=p:=by rw [eA,bz]; lia
 by_cases c:k < p
 ·rw [if_pos c,dG (by lia),lP c,cL]
 ·rw [if_neg c,cE (by lia),hl];by_cases d:k=p
  ·subst d; rw [if_pos rfl,Gh]; rfl
  ·rw [if_neg d,show k - p=(k - p - 1)+1 by lia,ae,B0,show p+(k - p - 1)=k - 1 by lia,cL]
theorem kn(xs:Array Nat)(p x:Nat)(hp:p<=xs.size)(k:Nat):(insertAt xs p x).getD k 0=if k < p then xs.getD k 0 else if k=p then x else xs.getD (k - 1) 0:=by
 rw [bq,xa xs p x hp];split
 ·rw [bq]
 ·split
  ·rfl
  ·rw [bq]
theorem Ow(t:iU)(dm:t.dummies=#[])(j:Nat):t.put j=({ t with place:=insertAt t.place (below t.place j) j },below t.place j):=by
 unfold SetTable.put;dsimp only;rw [dm];have:has #[] j=false:=rfl;rw [this];cases t;cases dm;rfl
theorem Il{xs:Array Nat}{p j:Nat}(hp:p<=xs.size){e:Nat}:Full (insertAt xs p j) e↔Full xs e\/e=j:=by
 constructor
 ·rintro⟨k,hk,q⟩;rw [iY xs p j hp] at hk;rw [kn xs p j hp] at q;by_cases c:k < p
  ·rw [if_pos c] at q; exact .inl ⟨k,by lia,q⟩
  ·rw [if_neg c] at q;by_cases d:k=p
   ·rw [if_pos d] at q; exact .inr q.symm
   ·rw [if_neg d] at q; exact .inl ⟨k - 1,by lia,q⟩
 ·rintro(⟨k,hk,q⟩ | q)
  ·by_cases c:k < p
   ·exact⟨k,by rw [iY xs p j hp]; lia,by rw [kn xs p j hp,if_pos c]; exact q⟩
   ·exact⟨k+1,by rw [iY xs p j hp]; lia,by rw [kn xs p j hp,if_neg (by lia),if_neg (by lia)]; exact q⟩
  ·exact⟨p,by rw [iY xs p j hp]; lia,by rw [kn xs p j hp,if_neg (by lia),if_pos rfl]; exact q.symm⟩
theorem VH.add{t:iU}{es:En}(O:VH t es){h:Int}{x:Value}{N:Nat}(h1:¬ Full t.place (fq t.mask N (probeStart t h)).j)(h2:∀ n,n < N->Full t.place (fq t.mask n (probeStart t h)).j)
  (hj:(fq t.mask N (probeStart t h)).j<=t.mask) (room:t.place.size+1<=t.mask) {t':iU} (e1:t'.mask=t.mask) (e2:t'.dummies=t.dummies)
  (e3:t'.place=insertAt t.place (below t.place (fq t.mask N (probeStart t h)).j) (fq t.mask N (probeStart t h)).j) :
  VH t' (insertAt es (below t.place (fq t.mask N (probeStart t h)).j) (h,x)):=by
 generalize ej:(fq t.mask N (probeStart t h)).j=j at *;obtain⟨b1,b2,b3⟩:=rJ O.up j;generalize below t.place j=p at *;have S8:p<=es.size:=by rw [<-O.sz]; exact b1
 have Wz:t'.place.size=t.place.size+1:=by rw [e3,iY _ _ _ b1]
 have zI:∀ h,probeStart t' h=probeStart t h:=fun h=>by unfold probeStart; rw [e1]
 have fl:∀ e,Full t.place e->Full t'.place e:=fun e z=>by rw [e3]; exact(Il b1).mpr (.inl z)
 refine⟨by rw [e1]; exact O.ms,e2.trans O.dm,by rw [Wz,iY _ _ _ S8,O.sz],?_,?_,by rw [Wz,e1]; exact room,?_⟩
 ·intro a b ab hb;rw [Wz] at hb;rw [e3,kn _ _ _ b1,kn _ _ _ b1];by_cases c1:a < p
  ·rw [if_pos c1];by_cases c2:b < p
   ·rw [if_pos c2]; exact O.up a b ab (by lia)
   ·rw [if_neg c2];by_cases c3:b=p
    ·rw [if_pos c3]; exact b2 a c1
    ·rw [if_neg c3];by_cases c4:a=b - 1
     ·lia
     ·exact O.up a (b - 1) (by lia) (by lia)
  ·rw [if_neg c1,if_neg (by lia:¬ b < p),if_neg (by lia:¬ b=p)];by_cases c3:a=p
   ·rw [if_pos c3];have:=b3 (b - 1) (by lia) (by lia);by_cases c5:t.place.getD (b - 1) 0=j
    ·exact absurd ⟨b - 1,by lia,c5⟩ h1
    ·lia
   ·rw [if_neg c3]; exact O.up (a - 1) (b - 1) (by lia) (by lia)
 ·intro k hk;rw [Wz] at hk;rw [e3,kn _ _ _ b1,e1];by_cases c1:k < p
  ·rw [if_pos c1]; exact O.le k (by lia)
  ·rw [if_neg c1];by_cases c2:k=p
   ·rw [if_pos c2]; exact hj
   ·rw [if_neg c2]; exact O.le (k - 1) (by lia)
 ·intro k hk;rw [Wz] at hk;have key:∀ k',k' < t.place.size->hk=hk->(insertAt es p (h,x))[k]?=es[k']?->t'.place.getD k 0=t.place.getD k' 0 ->
    ∃ n,(fq t'.mask n (probeStart t' (S.hk (insertAt es p (h,x)) k))).j=t'.place.getD k 0/\∀ n',n' < n->Full t'.place (fq t'.mask n' (probeStart t' (S.hk (insertAt es p (h,x)) k))).j:=by
   intro k' TU _ ee ep;obtain⟨n,q1,q2⟩:=O.way k' TU;have eh:S.hk (insertAt es p (h,x)) k=S.hk es k':=by unfold S.hk; rw [ee]
   rw [eh,zI,e1,ep];exact⟨n,q1,fun n' z=>fl _ (q2 n' z)⟩
  by_cases c1:k < p
  ·refine key k (by lia) rfl ?_ ?_
   ·rw [xa _ _ _ S8,if_pos c1]
   ·rw [e3,kn _ _ _ b1,if_pos c1]
  ·by_cases c2:k=p
   ·have eh:S.hk (insertAt es p (h,x)) k=h:=by unfold S.hk; rw [xa _ _ _ S8,if_neg c1,if_pos c2]; rfl
    rw [eh,zI,e1,e3,kn _ _ _ b1,if_neg c1,if_pos c2];refine⟨N,ej,fun n' z=>?_⟩;exact(Il b1).mpr (.inl (h2 n' z))
   ·refine key (k - 1) (by lia) rfl ?_ ?_
    ·rw [xa _ _ _ S8,if_neg c1,if_neg c2]
    ·rw [e3,kn _ _ _ b1,if_neg c1,if_neg c2]
end K2.S
end
section
namespace K2.S
open PySem PySem.SetTable
theorem VM(m:Nat)(x:Nat×Nat):∀ n,n<=runEnd m x.1 - x.1->fq m n (Pp m x)={ Pp m x with j:=x.1+n,more:=runEnd m x.1 - x.1 - n }
 | 0,_=>rfl
 | n+1,h=>by
  rw [Of,VM m x n (by lia)];unfold mR;dsimp only;rw [if_pos (by lia)];rfl
theorem EE{m i:Nat}(h:i < m+1){n:Nat}(hn:n<=runEnd m i - i):i+n < m+1:=by
 unfold runEnd at hn;split at hn <;> lia
def ow(o:Array (Option Nat))(j:Nat):Option Nat:=o.getD j none
theorem US{o:Array (Option Nat)}{j:Nat}(h:j < o.size):o.getD j (some 0)=ow o j:=by
 unfold ow; rw [bq,bq,bb h]; rfl
theorem VS{o:Array (Option Nat)}{j k:Nat}(h:ow o j=some k):j < o.size:=by
 apply bZ;intro z;unfold ow at h;rw [bq,iq (by lia)] at h;cases h
theorem DF{m:Nat}{o:Array (Option Nat)}(sz:o.size=m+1):∀ (fuel:Nat) (x:Nat×Nat),x.1 < m+1->(∃ k,k < fuel/\ow o (lp m k x).1=none) ->
  ∃ n j,layClean.free m o fuel x.1 x.2=some j/\(fq m n (Pp m x)).j=j/\j < m+1/\ow o j=none/\∀ n',n' < n->(fq m n' (Pp m x)).j < m+1/\ow o (fq m n' (Pp m x)).j≠none
 | 0,_,_,⟨_,h,_⟩=>absurd h (cF _)
 | fuel+1,x,hx,⟨k,hk,q⟩=>by
  have pe:∀ n,n<=runEnd m x.1 - x.1->(o.getD (x.1+n) (some 0))=ow o (x.1+n):=fun n hn=>US (by rw [sz]; exact EE hx hn);have pj:∀ n,n<=runEnd m x.1 - x.1->(fq m n (Pp m x)).j=x.1+n:=fun n hn=>by rw [VM m x n hn]
  have hre:x.1<=runEnd m x.1:=by unfold runEnd; split <;> lia
  cases hf:(aY (runEnd m x.1+1 - x.1)).find? fun k=>(o.getD (x.1+k) (some 0)).isNone with
  | some n =>
   obtain⟨h1,h2,h3⟩:=List.find?_range_eq_some.mp hf;have hn:n<=runEnd m x.1 - x.1:=by have:=List.mem_range.mp h2; lia
   rw [pe n hn] at h1;refine⟨n,x.1+n,?_,pj n hn,EE hx hn,Option.isNone_iff_eq_none.mp h1,fun n' z=>?_⟩
   ·unfold layClean.free; rw [hf]
   ·have Li:n'<=runEnd m x.1 - x.1:=by lia
    have:=h3 n' z;rw [pe n' Li] at this;rw [pj n' Li];refine⟨EE hx Li,fun e=>?_⟩;rw [e] at this; cases this
  | none =>
   have h3:=List.find?_range_eq_none.mp hf;have all:∀ n',n'<=runEnd m x.1 - x.1->ow o (x.1+n')≠none:=fun n' Li e=>by
    have:=h3 n' (by lia);rw [pe n' Li,e] at this; cases this
   obtain⟨k,rfl⟩:∃ k',k=k'+1:=by
    cases k with
    | zero=>exact absurd q (all 0 (cP _))
    | succ k=>exact⟨k,rfl⟩
   obtain⟨n,j,g,gj,hj,gn,ga⟩:=DF sz fuel (leap m x.1 x.2) (kS _ (me m)) ⟨k,by lia,q⟩;refine⟨(runEnd m x.1 - x.1+1)+n,j,?_,?_,hj,gn,fun n' z=>?_⟩
   ·unfold layClean.free; rw [hf]; exact g
   ·rw [ka,wF m (runEnd m x.1 - x.1) (Pp m x) rfl rfl]; exact gj
   ·by_cases c:n'<=runEnd m x.1 - x.1
    ·rw [pj n' c]; exact⟨EE hx c,all n' c⟩
    ·have e:n'=(runEnd m x.1 - x.1+1)+(n' - (runEnd m x.1 - x.1+1)):=by lia
     rw [e,ka,wF m (runEnd m x.1 - x.1) (Pp m x) rfl rfl];exact ga _ (by lia)
theorem pig:∀ (L:Nat) (l:List Nat),l.Nodup->(∀ x∈l,x < L)->l.length<=L
 | 0,l,_,h=>by
  cases l with
  | nil=>exact aK _
  | cons a r=>exact absurd (h a aA) (cF _)
 | L+1,l,hn,h=>by
  have:=pig L (l.erase L) (hn.erase L) fun x hx=>by
   have:=(hn.mem_erase_iff).mp hx;have:=h x this.2;lia
  rw [List.length_erase] at this;split at this <;> lia
def zI(m:Nat)(h:Int):Probe:=Pp m (bits h % (m+1),bits h)
structure Lay(m:Nat)(hs:List Int)(o:Array (Option Nat)):Prop where
 sz:o.size=m+1
 lt:∀ j k,ow o j=some k->k < hs.length
 one:∀ k,k < hs.length->∃ j,ow o j=some k
 uni:∀ j j' k,ow o j=some k->ow o j'=some k->j=j'
 way:∀ j k,ow o j=some k->∃ n,(fq m n (zI m (hs.getD k 0))).j=j/\∀ n',n' < n->ow o (fq m n' (zI m (hs.getD k 0))).j≠none
theorem Lay.nil(m:Nat):Lay m [] (Array.replicate (m+1) none):=by
 have no:∀ j,ow (Array.replicate (m+1) none) j=none:=fun j=>by
  unfold ow;rw [bq,Array.getElem?_replicate];split <;> rfl
 refine⟨Array.size_replicate,fun j k h=>?_,fun k h=>absurd h (cF _),fun j j' k h=>?_,fun j k h=>?_⟩ <;> (rw [no] at h; cases h)
theorem Lay.free{m:Nat}{hs:List Int}{o:Array (Option Nat)}(L:Lay m hs o)(nE:hs.length<=m):∃ j,j < m+1/\ow o j=none:=by
 apply bZ;intro no;have all:∀ j,j < m+1->ow o j≠none:=fun j hj e=>no ⟨j,hj,e⟩;have nd:((aY (m+1)).map fun j=>(ow o j).getD 0).Nodup:=by
  rw [kT,hV];refine B3 (fun {a b} ha hb kX e=>?_) (List.nodup_iff_pairwise_ne.mp (List.nodup_range (n:=m+1)));obtain⟨x,hx⟩:=Option.ne_none_iff_exists'.mp (all a (List.mem_range.mp ha));obtain⟨y,hy⟩:=Option.ne_none_iff_exists'.mp (all b (List.mem_range.mp hb));rw [hx,hy] at e;have e:x=y:=e;subst e;exact kX (L.uni a b x hx hy)
 have:=pig hs.length _ nd fun x hx=>by
  obtain⟨j,hj,rfl⟩:=List.mem_map.mp hx;obtain⟨k,e⟩:=Option.ne_none_iff_exists'.mp (all j (List.mem_range.mp hj));rw [e]; exact L.lt j k e
 rw [ag,cR] at this;lia
theorem KS{o:Array (Option Nat)}{j k:Nat}(hj:j < o.size)(i:Nat):ow (o.setIfInBounds j (some k)) i=if j=i then some k else ow o i:=by
 unfold ow;rw [bq,Array.getElem?_setIfInBounds];by_cases c:j=i
 ·rw [if_pos c,if_pos c,if_pos hj]; rfl
 ·rw [if_neg c,if_neg c,bq]
theorem Lay.step{m:Nat}(hm:Mk m){hs:List Int}{o:Array (Option Nat)}(L:Lay m hs o)(nE:hs.length<=m)(h:Int) :
  ∃ j,layClean.free m o (turns m) (bits h % (m+1)) (bits h)=some j/\Lay m (hs++[h]) (o.setIfInBounds j (some hs.length)):=by
 obtain⟨e,he,hf⟩:=L.free nE;have hb:bits h < 2 ^ 64:=by
  unfold bits;have h1:0<=h % (2 ^ 64:Int):=dP _ (by decide);have h2:h % (2 ^ 64:Int) < 2 ^ 64:=c7 _ (by decide);lia
 have hx:bits h % (m+1) < m+1:=kS _ (me m);obtain⟨k,hk,q⟩:=HJ hm (x:=(bits h % (m+1),bits h)) hx hb he;obtain⟨n,j,g,gj,hj,gn,ga⟩:=DF L.sz (turns m) (bits h % (m+1),bits h) hx ⟨k,by unfold turns; lia,by rw [q]; exact hf⟩;have hjs:j < o.size:=by rw [L.sz]; exact hj
 have old:∀ i k,ow o i=some k->ow (o.setIfInBounds j (some hs.length)) i=some k:=fun i k z=>by
  rw [KS hjs,if_neg (fun z2:j=i=>by rw [<-z2,gn] at z; cases z)]; exact z
 have inv:∀ i k,ow (o.setIfInBounds j (some hs.length)) i=some k->(i=j/\k=hs.length)\/(i≠j/\ow o i=some k/\k < hs.length):=fun i k z=>by
  rw [KS hjs] at z;by_cases c:j=i
  ·rw [if_pos c] at z; cases z; exact .inl ⟨c.symm,rfl⟩
  ·rw [if_neg c] at z; exact .inr ⟨fun z2=>c z2.symm,z,L.lt _ _ z⟩
 have nn:∀ i,ow o i≠none->ow (o.setIfInBounds j (some hs.length)) i≠none:=fun i z=>by
  obtain⟨k,e⟩:=Option.ne_none_iff_exists'.mp z;rw [old i k e]; exact fun z=>by cases z
 refine⟨j,g,⟨by rw [Array.size_setIfInBounds]; exact L.sz,fun i k z=>?_,fun k hk=>?_,fun i i' k z z'=>?_,fun i k z=>?_⟩⟩
 ·rw [aw,bg];rcases inv i k z with ⟨_,rfl⟩ | ⟨_,_,hk⟩ <;> lia
 ·rw [aw,bg] at hk;by_cases c:k=hs.length
  ·exact⟨j,by rw [KS hjs,if_pos rfl,c]⟩
  ·obtain⟨i,z⟩:=L.one k (by lia);exact⟨i,old i k z⟩
 ·rcases inv i k z with ⟨a,b⟩ | ⟨a,b,c⟩ <;> rcases inv i' k z' with ⟨a',b'⟩ | ⟨a',b',c'⟩
  ·rw [a,a']
  ·lia
  ·lia
  ·exact L.uni i i' k b b'
 ·rcases inv i k z with ⟨a,b⟩ | ⟨a,b,c⟩
  ·have e:(hs++[h]).getD k 0=h:=by rw [b,aF,cE (aK _),Gh]; rfl
   rw [e,a];exact⟨n,gj,fun n' z=>nn _ (ga n' z).2⟩
  ·have e:(hs++[h]).getD k 0=hs.getD k 0:=by rw [aF,dG c,<-aF]
   rw [e];obtain⟨n,q1,q2⟩:=L.way i k b;exact⟨n,q1,fun n' z=>nn _ (q2 n' z)⟩
theorem M5{m:Nat}(hm:Mk m):∀ (hs:List Int) (TL:List Int) (o:Array (Option Nat)),Lay m TL o->TL.length+hs.length<=m+1 ->
  ∃ o',hs.foldl (fun WF h=>do
   let (owner,k) ← WF
   let j ← layClean.free m owner (turns m) (bits h % (m+1)) (bits h)
   pure (owner.setIfInBounds j (some k),k+1)) (some (o,TL.length))=some (o',(TL++hs).length)/\Lay m (TL++hs) o'
 | [],TL,o,L,_=>⟨o,by rw [bL]; rfl,by rw [bL]; exact L⟩
 | h :: hs,TL,o,L,nE=>by
  obtain⟨j,g,L'⟩:=L.step hm (by rw [aj] at nE; lia) h;obtain⟨o',e,L''⟩:=M5 hm hs (TL++[h]) _ L' (by rw [aw,bg]; rw [aj] at nE; lia);rw [cG,List.singleton_append] at e L'';refine⟨o',?_,L''⟩;rw [dO];rw [aw,bg] at e;rw [<-e];congr 1;show (do let j ← layClean.free m o (turns m) (bits h % (m+1)) (bits h); pure (o.setIfInBounds j (some TL.length),TL.length+1))=_;rw [g]; rfl
theorem HM{m:Nat}(hm:Mk m)(hs:Array Int)(nE:hs.size<=m+1):∃ o,layClean m hs=some o/\Lay m hs.toList o:=by
 obtain⟨o,e,L⟩:=M5 hm hs.toList [] _ (Lay.nil m) (by rw [ay,bz]; lia);refine⟨o,?_,L⟩;unfold layClean;rw [<-Array.foldl_toList];rw [ay] at e;rw [e];rfl
end K2.S
end
section
namespace K2.S
open PySem PySem.SetTable
theorem Sq(es:En):∀ (l:List Nat),(∀ k∈l,k < es.size)->l.filterMap (es[·]?)=l.map fun k=>es.getD k (0,.none)
 | [],_=>rfl
 | k :: l,h=>by
  have hk:k < es.size:=h k aA;have e:es[k]?=some (es.getD k (0,.none)):=by rw [bq,bb hk]; rfl
  rw [tY e,av,Sq es l fun x hx=>h x (ax _ hx)]
theorem U4{m:Nat}(hm:Mk m)(es:En)(nE:es.size<=m)(finger moves:Nat)(led plain:Bool) :
  ∃ t' order,laid m finger moves led plain (es.map (·.1))=some (t',order)/\t'.mask=m/\t'.led=led/\t'.plain=plain/\(order.filterMap (es[·]?)).size=es.size /\
   List.Perm (order.filterMap (es[·]?)).toList es.toList/\VH t' (order.filterMap (es[·]?)):=by
 obtain⟨o,e,L⟩:=HM hm (es.map (·.1)) (by rw [Array.size_map]; lia);have hl:(es.map (·.1)).toList.length=es.size:=by rw [bz,Array.size_map]
 generalize hlv:((aY (m+1)).filterMap fun j=>(o.getD j none).map (j,·))=lv;have mem:∀ p:Nat×Nat,p∈lv↔ow o p.1=some p.2:=by
  rintro⟨j,k⟩;rw [<-hlv,List.mem_filterMap];constructor
  ·rintro⟨a,_,q⟩;obtain⟨b,hb,q⟩:=Option.map_eq_some_iff.mp q;cases q; exact hb
  ·intro q;exact⟨j,List.mem_range.mpr (by have:=VS q; rw [L.sz] at this; exact this),Option.map_eq_some_iff.mpr ⟨k,q,rfl⟩⟩
 have asc:lv.Pairwise fun a b=>a.1 < b.1:=by
  rw [<-hlv];refine List.Pairwise.filterMap _ (fun a a' r b hb b' Ii=>?_) (Qc (n:=m+1));obtain⟨_,_,rfl⟩:=Option.map_eq_some_iff.mp hb;obtain⟨_,_,rfl⟩:=Option.map_eq_some_iff.mp Ii;exact r
 have nd:(lv.map (·.2)).Nodup:=by
  rw [kT,hV];refine B3 (fun {a b} ha hb r e=>?_) asc;have h1:=(mem a).mp ha;have h2:=(mem b).mp hb;rw [e] at h1;have:=L.uni _ _ _ h1 h2;lia
 have pm:(lv.map (·.2)).Perm (aY es.size):=by
  refine(JV nd List.nodup_range).mpr fun k=>?_;rw [zB,List.mem_map];constructor
  ·rintro⟨p,hp,rfl⟩;have:=L.lt _ _ ((mem p).mp hp);rw [hl] at this; exact this
  ·intro hk;obtain⟨j,q⟩:=L.one k (by rw [hl]; exact hk);exact⟨(j,k),(mem _).mpr q,rfl⟩
 have ll:lv.length=es.size:=by have:=pm.length_eq; rw [ag,cR] at this; exact this
 have inb:∀ k∈lv.map (·.2),k < es.size:=fun k hk=>List.mem_range.mp (pm.mem_iff.mp hk);have es':((lv.map (·.2)).toArray.filterMap (es[·]?)).toList=lv.map fun p=>es.getD p.2 (0,.none):=by
  rw [PN,Sq es _ inb,bU]; rfl
 have pes:List.Perm ((lv.map (·.2)).toArray.filterMap (es[·]?)).toList es.toList:=by
  rw [PN];refine(pm.filterMap _).trans ?_;rw [filterMap_getElem?_range]
 have ges:∀ i,((lv.map (·.2)).toArray.filterMap (es[·]?))[i]?=lv[i]?.map fun p:Nat×Nat=>es.getD p.2 (0,.none):=fun i=>by
  rw [<-cL,es',bu]
 have szs:((lv.map (·.2)).toArray.filterMap (es[·]?)).size=es.size:=by
  rw [<-bz,pes.length_eq,bz]
 have gpl:∀ i (hi:i < lv.length),(lv.map (·.1)).toArray.getD i 0=lv[i].1:=fun i hi=>by
  rw [bq,Tq,bu,ah hi]; rfl
 have Yv:(lv.map (·.1)).toArray.size=es.size:=by rw [a8,ag,ll]
 have ful:∀ j,ow o j≠none->Full (lv.map (·.1)).toArray j:=fun j z=>by
  obtain⟨k,q⟩:=Option.ne_none_iff_exists'.mp z;obtain⟨i,hi,ei⟩:=c8 ((mem (j,k)).mpr q);exact⟨i,by rw [Yv,<-ll]; exact hi,by rw [gpl i hi,ei]⟩
 refine⟨{ mask:=m,place:=(lv.map (·.1)).toArray,dummies:=#[],finger,led,moves,plain },(lv.map (·.2)).toArray,?_,rfl,rfl,rfl,szs,pes,?_⟩
 ·unfold laid;rw [e];show some _=some _;rw [hlv]
 ·refine⟨hm,rfl,by show (lv.map (·.1)).toArray.size=_; rw [Yv,szs],?_,?_,by show (lv.map (·.1)).toArray.size<=m; rw [Yv]; exact nE,?_⟩
  ·intro a b ab hb;have hb:b < lv.length:=by rw [ll,<-Yv]; exact hb
   show (lv.map (·.1)).toArray.getD a 0 < (lv.map (·.1)).toArray.getD b 0;rw [gpl a (by lia),gpl b hb];exact List.pairwise_iff_getElem.mp asc a b (by lia) hb ab
  ·intro k hk;have hk:k < lv.length:=by rw [ll,<-Yv]; exact hk
   show (lv.map (·.1)).toArray.getD k 0<=m;rw [gpl k hk];have:=VS ((mem _).mp (cu hk));rw [L.sz] at this; lia
  ·intro k hk;have hk:k < lv.length:=by rw [ll,<-Yv]; exact hk
   have hi:=(mem _).mp (cu hk);have mj:=inb lv[k].2 (aW (cu hk));have eh:S.hk ((lv.map (·.2)).toArray.filterMap (es[·]?)) k=(es.map (·.1)).toList.getD lv[k].2 0:=by
    unfold S.hk;rw [ges,ah hk,aF,cL,Array.getElem?_map,bb mj];show (es.getD lv[k].2 (0,.none)).1=(es[lv[k].2]).1;rw [bq,bb mj]; rfl
   rw [eh];obtain⟨n,q1,q2⟩:=L.way _ _ hi;refine⟨n,?_,fun n' z=>ful _ (q2 n' z)⟩;show _=(lv.map (·.1)).toArray.getD k 0;rw [gpl k hk]; exact q1
end K2.S
end
section
namespace K2
open PySem PySem.Spec PyProof.Rows L2
def YN(K:ak)(H:Hp)(a:Addr)(xs:List V):Prop :=
 (∃ o,H a=some (.lB o (.lst xs))) \/
  ∃ (o:Obj) (bH:Array Value) (n:Nat),K.lookup a=some o/\o.cls=.type "list"/\o.dict=none/\o.data=.seq bH n/\bH.size<=bx/\Vals xs bH.toList
theorem YN.sq{K:ak}{H:Hp}{a:Addr}{xs:List V}(h:YN K H a xs):rW K H a xs:=by
 rcases h with ⟨o,h⟩ | h
 ·exact .inl (.inr ⟨o,h⟩)
 ·exact .inr h
def eZ:Key->D
 | .inl i=>.int i
 | .inr x=>.str x
def ExcAt(K:ak)(H:Hp)(a:Addr)(c:Str):Prop:=∃ (o:Obj) (C:Addr),H a=some (.lB o (.ext fun h=>h.get? a=some o))/\o.cls=.ref C/\cJ K bP c=some (some (.ref C))
mutual
inductive cM (K:ak) (H:Hp):V->D->Prop
 | dh:cM K H .dh .dh
 | bl (b:Bool):cM K H (.bl b) (.bl b)
 | int (i:Int):cM K H (.int i) (.int i)
 | str (x:Str):cM K H (.str x) (.str x)
 | tup {a:Addr} {vs:List V} {ds:List D}:H a=some (.tup vs)->bp K H vs ds->cM K H (.ref a) (.tup ds)
 | fx {a:Addr} {vs:List V} {ds:List D}:YN K H a vs->bp K H vs ds->cM K H (.ref a) (.fx ds)
 | pS {a:Addr} {o:Obj} {kv:List (Key×V)} {WP:List (D×D)}:H a=some (.lB o (.dK kv))->pM K H kv WP->cM K H (.ref a) (.lI WP)
 | pR {a:Addr} {o:Obj} {kv:List (List Key×V)} {WP:List (D×D)}:H a=some (.lB o (.dT kv))->mS K H kv WP->cM K H (.ref a) (.lI WP)
 | ref (a:Addr):cM K H (.ref a) (.ref a)
 | exc {a:Addr} {c:Str}:ExcAt K H a c->cM K H (.ref a) (.exc c)
inductive bp (K:ak) (H:Hp):List V->List D->Prop
 | nil:bp K H [] []
 | cons {v:V} {d:D} {vs:List V} {ds:List D}:cM K H v d->bp K H vs ds->bp K H (v :: vs) (d :: ds)
inductive pM (K:ak) (H:Hp):List (Key×V)->List (D×D)->Prop
 | nil:pM K H [] []
 | cons {k:Key} {v:V} {d:D} {r:List (Key×V)} {t:List (D×D)}:cM K H v d->pM K H r t->pM K H ((k,v) :: r) ((eZ k,d) :: t)
inductive mS (K:ak) (H:Hp):List (List Key×V)->List (D×D)->Prop
 | nil:mS K H [] []
 | cons {k:List Key} {v:V} {d:D} {r:List (List Key×V)} {t:List (D×D)}:cM K H v d->mS K H r t->mS K H ((k,v) :: r) ((.tup (k.map eZ),d) :: t)
end
structure Kp(H H':Hp):Prop where
 tup:∀ a xs,H a=some (.tup xs)->H' a=some (.tup xs)
 lB:∀ a o u,H a=some (.lB o u)->H' a=some (.lB o u)
theorem Kp.refl(H:Hp):Kp H H:=⟨fun _ _ h=>h,fun _ _ _ h=>h⟩
theorem Kp.trans{H H1 H2:Hp}(a:Kp H H1)(b:Kp H1 H2):Kp H H2:=⟨fun c xs h=>b.tup c xs (a.tup c xs h),fun c o u h=>b.lB c o u (a.lB c o u h)⟩
theorem Kp.sqT{K:ak}{H H':Hp}{a:Addr}{xs:List V}(k:Kp H H')(h:BM K H a xs):BM K H' a xs:=by
 rcases h with (h | ⟨o,h⟩) | h
 ·exact .inl (.inl (k.tup _ _ h))
 ·exact .inl (.inr ⟨o,k.lB _ _ _ h⟩)
 ·exact .inr h
theorem Kp.WH{K:ak}{H H':Hp}{a:Addr}{xs:List V}(k:Kp H H')(h:YN K H a xs):YN K H' a xs:=by
 rcases h with ⟨o,h⟩ | h
 ·exact .inl ⟨o,k.lB _ _ _ h⟩
 ·exact .inr h
theorem ExcAt.mono{K:ak}{H H':Hp}(k:Kp H H'){a:Addr}{c:Str}(h:ExcAt K H a c):ExcAt K H' a c :=
 let ⟨o,C,h1,h2,h3⟩:=h
 ⟨o,C,k.lB _ _ _ h1,h2,h3⟩
theorem bp.HY{K:ak}{H:Hp}{P:List V->List D->Prop}(h0:P [] [])(h1:∀ {v:V} {d:D} {vs:List V} {ds:List D},cM K H v d->bp K H vs ds->P vs ds->P (v :: vs) (d :: ds)){vs:List V}{ds:List D}(h:bp K H vs ds):P vs ds :=
 bp.rec (motive_1:=fun _ _ _=>True) (motive_2:=fun vs ds _=>P vs ds) (motive_3:=fun _ _ _=>True) (motive_4:=fun _ _ _=>True) trivial (fun _=>trivial) (fun _=>trivial) (fun _=>trivial) (fun _ _ _=>trivial) (fun _ _ _=>trivial) (fun _ _ _=>trivial) (fun _ _ _=>trivial) (fun _=>trivial) (fun _=>trivial) h0 (fun a b _ ih=>h1 a b ih) trivial (fun _ _ _ _=>trivial) trivial (fun _ _ _ _=>trivial) h
theorem cM.mono{K:ak}{H H':Hp}(k:Kp H H'):∀ {v:V} {d:D},cM K H v d->cM K H' v d:=fun h =>
 cM.rec (motive_1:=fun v d _=>cM K H' v d) (motive_2:=fun v d _=>bp K H' v d) (motive_3:=fun v d _=>pM K H' v d) (motive_4:=fun v d _=>mS K H' v d)
  .dh .bl .int .str (fun h _ r=>.tup (k.tup _ _ h) r) (fun h _ r=>.fx (k.WH h) r) (fun h _ r=>.pS (k.lB _ _ _ h) r) (fun h _ r=>.pR (k.lB _ _ _ h) r) .ref (fun h=>.exc (h.mono k)) .nil (fun _ _ a b=>.cons a b) .nil (fun _ _ a b=>.cons a b) .nil (fun _ _ a b=>.cons a b) h
theorem bp.mono{K:ak}{H H':Hp}(k:Kp H H'){v:List V}{d:List D}(h:bp K H v d):bp K H' v d :=
 bp.HY (P:=fun v d=>bp K H' v d) .nil (fun r _ ih=>.cons (r.mono k) ih) h
theorem pM.mono{K:ak}{H H':Hp}(k:Kp H H'){v:List (Key×V)}{d:List (D×D)}(h:pM K H v d):pM K H' v d :=
 pM.rec (motive_1:=fun v d _=>cM K H' v d) (motive_2:=fun v d _=>bp K H' v d) (motive_3:=fun v d _=>pM K H' v d) (motive_4:=fun v d _=>mS K H' v d)
  .dh .bl .int .str (fun h _ r=>.tup (k.tup _ _ h) r) (fun h _ r=>.fx (k.WH h) r) (fun h _ r=>.pS (k.lB _ _ _ h) r) (fun h _ r=>.pR (k.lB _ _ _ h) r) .ref (fun h=>.exc (h.mono k)) .nil (fun _ _ a b=>.cons a b) .nil (fun _ _ a b=>.cons a b) .nil (fun _ _ a b=>.cons a b) h
theorem mS.mono{K:ak}{H H':Hp}(k:Kp H H'){v:List (List Key×V)}{d:List (D×D)}(h:mS K H v d):mS K H' v d :=
 mS.rec (motive_1:=fun v d _=>cM K H' v d) (motive_2:=fun v d _=>bp K H' v d) (motive_3:=fun v d _=>pM K H' v d) (motive_4:=fun v d _=>mS K H' v d)
  .dh .bl .int .str (fun h _ r=>.tup (k.tup _ _ h) r) (fun h _ r=>.fx (k.WH h) r) (fun h _ r=>.pS (k.lB _ _ _ h) r) (fun h _ r=>.pR (k.lB _ _ _ h) r) .ref (fun h=>.exc (h.mono k)) .nil (fun _ _ a b=>.cons a b) .nil (fun _ _ a b=>.cons a b) .nil (fun _ _ a b=>.cons a b) h
theorem bp.length{K:ak}{H:Hp}:∀ {vs:List V} {ds:List D},bp K H vs ds->vs.length=ds.length:=fun h =>
 bp.HY (P:=fun vs ds=>vs.length=ds.length) rfl (fun _ _ ih=>congrArg (· + 1) ih) h
theorem bp.get{K:ak}{H:Hp}:∀ {vs:List V} {ds:List D} {i:Nat} {d:D},bp K H vs ds->ds[i]?=some d->∃ v,vs[i]?=some v/\cM K H v d:=by
 intro vs ds i d h;refine bp.HY (P:=fun vs ds=>∀ (i:Nat) (d:D),ds[i]?=some d->∃ v,vs[i]?=some v/\cM K H v d) (fun i d e=>by cases e) (fun r _ ih i d e=>?_) h i d;cases i with
 | zero=>cases e; exact⟨_,rfl,r⟩
 | succ i=>exact ih i d e
theorem bp.append{K:ak}{H:Hp}:∀ {vs ws:List V} {ds es:List D},bp K H vs ds->bp K H ws es->bp K H (vs++ws) (ds++es):=fun {_ ws _ es} h s =>
 bp.HY (P:=fun vs ds=>bp K H (vs++ws) (ds++es)) s (fun r _ ih=>.cons r ih) h
theorem bp.take{K:ak}{H:Hp}:∀ {vs:List V} {ds:List D} (n:Nat),bp K H vs ds->bp K H (vs.take n) (ds.take n):=fun {_ _} n h =>
 bp.HY (P:=fun vs ds=>∀ n,bp K H (vs.take n) (ds.take n)) (fun n=>by rw [BZ,BZ]; exact .nil) (fun r _ ih n=>by
  cases n with
  | zero=>exact .nil
  | succ n=>exact .cons r (ih n)) h n
theorem bp.drop{K:ak}{H:Hp}:∀ {vs:List V} {ds:List D} (n:Nat),bp K H vs ds->bp K H (vs.drop n) (ds.drop n):=fun {_ _} n h =>
 bp.HY (P:=fun vs ds=>∀ n,bp K H (vs.drop n) (ds.drop n)) (fun n=>by rw [B1,B1]; exact .nil) (fun r t ih n=>by
  cases n with
  | zero=>exact .cons r t
  | succ n=>exact ih n) h n
theorem bp.set{K:ak}{H:Hp}{v:V}{d:D}(r:cM K H v d):∀ {vs:List V} {ds:List D} (i:Nat),bp K H vs ds->bp K H (vs.set i v) (ds.set i d):=fun {_ _} i h =>
 bp.HY (P:=fun vs ds=>∀ i,bp K H (vs.set i v) (ds.set i d)) (fun i=>by rw [D5,D5]; exact .nil) (fun q t ih i=>by
  cases i with
  | zero=>exact .cons r t
  | succ i=>exact .cons q (ih i)) h i
theorem bp.one{K:ak}{H:Hp}:∀ {vs:List V} {d:D},bp K H vs [d]->∃ v,vs=[v]/\cM K H v d:=by
 intro vs d h;cases h with
 | cons r t=>cases t; exact⟨_,rfl,r⟩
theorem bp.two{K:ak}{H:Hp}:∀ {vs:List V} {d e:D},bp K H vs [d,e]->∃ v u,vs=[v,u]/\cM K H v d/\cM K H u e:=by
 intro vs d e h;cases h with
 | cons r t =>
  obtain⟨u,rfl,q⟩:=bp.one t;exact⟨_,_,rfl,r,q⟩
theorem bp.zero{K:ak}{H:Hp}:∀ {vs:List V},bp K H vs []->vs=[]
 | _,.nil=>rfl
theorem bp.ints{K:ak}{H:Hp}:∀ {vs:List V} {ns:List Int},bp K H vs (ns.map D.int)->vs=ns.map V.int:=by
 intro vs ns;induction ns generalizing vs with
 | nil=>intro h; exact h.zero
 | cons n ns ih =>
  intro h;cases h with
  | cons r t =>
   cases r;rw [ih t]; rfl
theorem bp.EY{K:ak}{H:Hp}:∀ (ns:List Int),bp K H (ns.map V.int) (ns.map D.int)
 | []=>.nil
 | n :: ns=>.cons (.int n) (bp.EY ns)
theorem pM.ind{K:ak}{H:Hp}{motive:∀ (kv:List (Key×V)) (WP:List (D×D)),pM K H kv WP->Prop}(nil:motive [] [] .nil)
  (cons:∀ {k:Key} {v:V} {d:D} {r:List (Key×V)} {t:List (D×D)} (re:cM K H v d) (rs:pM K H r t),motive r t rs->motive ((k,v) :: r) ((eZ k,d) :: t) (.cons re rs)):∀ {kv:List (Key×V)} {WP:List (D×D)} (h:pM K H kv WP),motive kv WP h:=fun h =>
 pM.rec (motive_1:=fun _ _ _=>True) (motive_2:=fun _ _ _=>True) (motive_3:=motive) (motive_4:=fun _ _ _=>True) trivial (fun _=>trivial) (fun _=>trivial) (fun _=>trivial) (fun _ _ _=>trivial) (fun _ _ _=>trivial) (fun _ _ _=>trivial) (fun _ _ _=>trivial) (fun _=>trivial) (fun _=>trivial) trivial (fun _ _ _ _=>trivial) nil (fun a b _ ih=>cons a b ih) trivial (fun _ _ _ _=>trivial) h
theorem mS.ind{K:ak}{H:Hp}{motive:∀ (kv:List (List Key×V)) (WP:List (D×D)),mS K H kv WP->Prop}(nil:motive [] [] .nil)
  (cons:∀ {k:List Key} {v:V} {d:D} {r:List (List Key×V)} {t:List (D×D)} (re:cM K H v d) (rs:mS K H r t),motive r t rs->motive ((k,v) :: r) ((.tup (k.map eZ),d) :: t) (.cons re rs)):∀ {kv:List (List Key×V)} {WP:List (D×D)} (h:mS K H kv WP),motive kv WP h:=fun h =>
 mS.rec (motive_1:=fun _ _ _=>True) (motive_2:=fun _ _ _=>True) (motive_3:=fun _ _ _=>True) (motive_4:=motive) trivial (fun _=>trivial) (fun _=>trivial) (fun _=>trivial) (fun _ _ _=>trivial) (fun _ _ _=>trivial) (fun _ _ _=>trivial) (fun _ _ _=>trivial) (fun _=>trivial) (fun _=>trivial) trivial (fun _ _ _ _=>trivial) trivial (fun _ _ _ _=>trivial) nil (fun a b _ ih=>cons a b ih) h
theorem pM.length{K:ak}{H:Hp}:∀ {v:List (Key×V)} {d:List (D×D)},pM K H v d->v.length=d.length:=fun h =>
 pM.ind (motive:=fun v d _=>v.length=d.length) rfl (fun _ _ ih=>congrArg (· + 1) ih) h
theorem mS.length{K:ak}{H:Hp}:∀ {v:List (List Key×V)} {d:List (D×D)},mS K H v d->v.length=d.length:=fun h =>
 mS.ind (motive:=fun v d _=>v.length=d.length) rfl (fun _ _ ih=>congrArg (· + 1) ih) h
def PF(K:ak)(H:Hp)(a:Addr):GO->Prop
 | .lst ds=>∃ vs,H a=some (.lst vs)/\bp K H vs ds
 | .jg WP=>(∃ kv,H a=some (.dK kv)/\pM K H kv WP)\/∃ kv,H a=some (.dT kv)/\mS K H kv WP
def mx(K:ak)(H:Hp)(G:Gp):Prop:=∀ a g,G a=some g->PF K H a g
theorem PF.dk{K:ak}{H:Hp}{a:Addr}{kv:List (Key×V)}{WP:List (D×D)}(h:H a=some (.dK kv))(r:pM K H kv WP):PF K H a (.jg WP):=.inl ⟨kv,h,r⟩
theorem PF.dt{K:ak}{H:Hp}{a:Addr}{kv:List (List Key×V)}{WP:List (D×D)}(h:H a=some (.dT kv))(r:mS K H kv WP):PF K H a (.jg WP):=.inr ⟨kv,h,r⟩
theorem PF.mono{K:ak}{H H':Hp}{a:Addr}{g:GO}(k:Kp H H')(e:H' a=H a)(h:PF K H a g):PF K H' a g:=by
 cases g with
 | lst ds=>obtain⟨vs,q,r⟩:=h; exact⟨vs,e.trans q,r.mono k⟩
 | jg WP =>
  rcases h with ⟨kv,q,r⟩ | ⟨kv,q,r⟩
  ·exact .inl ⟨kv,e.trans q,r.mono k⟩
  ·exact .inr ⟨kv,e.trans q,r.mono k⟩
theorem PF.tracked{K:ak}{H:Hp}{a:Addr}{g:GO}(h:PF K H a g):H a≠none:=by
 cases g with
 | lst ds=>obtain⟨vs,q,r⟩:=h; rw [q]; simp
 | jg WP =>
  rcases h with ⟨kv,q,r⟩ | ⟨kv,q,r⟩
  ·rw [q]; simp
  ·rw [q]; simp
theorem mx.free{K:ak}{H:Hp}{G:Gp}{a:Addr}(h:mx K H G)(e:H a=none):G a=none:=by
 cases q:G a with
 | none=>rfl
 | some g=>exact absurd e (h a g q).tracked
theorem mx.ZJ{K:ak}{H:Hp}{G:Gp}{a:Addr}{xs:List V}(h:mx K H G)(e:H a=some (.tup xs)):G a=none:=by
 cases q:G a with
 | none=>rfl
 | some g =>
  have z:=h a g q;cases g with
  | lst ds=>obtain⟨vs,q,r⟩:=z; rw [e] at q; cases q
  | jg WP =>
   rcases z with ⟨kv,q,r⟩ | ⟨kv,q,r⟩
   ·rw [e] at q; cases q
   ·rw [e] at q; cases q
theorem mx.ZL{K:ak}{H:Hp}{G:Gp}{a:Addr}{o:Obj}{u:HO}(h:mx K H G)(e:H a=some (.lB o u)):G a=none:=by
 cases q:G a with
 | none=>rfl
 | some g =>
  have z:=h a g q;cases g with
  | lst ds=>obtain⟨vs,q,r⟩:=z; rw [e] at q; cases q
  | jg WP =>
   rcases z with ⟨kv,q,r⟩ | ⟨kv,q,r⟩
   ·rw [e] at q; cases q
   ·rw [e] at q; cases q
structure Mv(K:ak)(H:Hp)(G:Gp)(H':Hp)(G':Gp):Prop where
 keep:∀ a o,H a=some o->G a=none->H' a=some o/\G' a=none
 kb:∀ a,G a≠none->H' a≠none
 ab:mx K H' G'
theorem Mv.refl{K:ak}{H:Hp}{G:Gp}(h:mx K H G):Mv K H G H G:=⟨fun _ _ e n=>⟨e,n⟩,fun a n=>by
 cases q:G a with
 | none=>exact absurd q n
 | some g=>exact(h a g q).tracked,h⟩
theorem Mv.trans{K:ak}{H H1 H2:Hp}{G G1 G2:Gp}(a:Mv K H G H1 G1)(b:Mv K H1 G1 H2 G2):Mv K H G H2 G2 :=
 ⟨fun c o e n=>let ⟨e1,n1⟩:=a.keep c o e n; b.keep c o e1 n1,fun c n=>by
  have h1:=a.kb c n;cases q:G1 c with
  | some g=>exact b.kb c (by rw [q]; simp)
  | none =>
   cases q1:H1 c with
   | none=>exact absurd q1 h1
   | some o=>rw [(b.keep c o q1 q).1]; simp,b.ab⟩
theorem Mv.kp{K:ak}{H H':Hp}{G G':Gp}(m:Mv K H G H' G')(h:mx K H G):Kp H H' :=
 ⟨fun a xs e=>(m.keep a _ e (h.ZJ e)).1,fun a o u e=>(m.keep a _ e (h.ZL e)).1⟩
theorem Kp.new{H:Hp}{p:Addr}{o:HO}(hp:H p=none):Kp H (upd H p o):=⟨fun a xs e=>by rw [bR (fJ e hp)]; exact e,fun a ob u e=>by rw [bR (fJ e hp)]; exact e⟩
theorem Kp.putL{H:Hp}{p:Addr}{xs:List V}{o:HO}(hp:H p=some (.lst xs)):Kp H (upd H p o) :=
 ⟨fun a ys e=>by rw [bR (by rintro rfl; rw [hp] at e; cases e)]; exact e,fun a ob u e=>by rw [bR (by rintro rfl; rw [hp] at e; cases e)]; exact e⟩
theorem Mv.new{K:ak}{H:Hp}{G:Gp}{p:Addr}{o:HO}{g:GO}(h:mx K H G)(hp:H p=none)(ho:PF K (upd H p o) p g):Mv K H G (upd H p o) (fG G p g) where
 keep:=fun a ob e n=>by
  have ne:=fJ e hp;exact⟨by rw [bR ne]; exact e,by rw [fe ne]; exact n⟩
 kb:=fun a n=>by
  have ne:a≠p:=by rintro rfl; exact n (h.free hp)
  rw [bR ne];exact(Mv.refl h).kb a n
 ab:=fun a g' e=>by
  by_cases ha:a=p
  ·subst ha; rw [aM] at e; cases e; exact ho
  ·rw [fe ha] at e;exact(h a g' e).mono (.new hp) (bR ha)
theorem Mv.O0{K:ak}{H:Hp}{G:Gp}{p:Addr}{o:HO}(h:mx K H G)(hp:H p=none):Mv K H G (upd H p o) G where
 keep:=fun a ob e n=>⟨by rw [bR (fJ e hp)]; exact e,n⟩
 kb:=fun a n=>by
  have ne:a≠p:=by rintro rfl; exact n (h.free hp)
  rw [bR ne];exact(Mv.refl h).kb a n
 ab:=fun a g' e=>by
  have ne:a≠p:=by rintro rfl; rw [h.free hp] at e; cases e
  exact(h a g' e).mono (.new hp) (bR ne)
theorem Mv.put{K:ak}{H:Hp}{G:Gp}{p:Addr}{o:HO}{g g0:GO}(h:mx K H G)(hg:G p=some g0)(k:Kp H (upd H p o))(ho:PF K (upd H p o) p g):Mv K H G (upd H p o) (fG G p g) where
 keep:=fun a ob e n=>by
  have ne:a≠p:=by rintro rfl; rw [hg] at n; cases n
  exact⟨by rw [bR ne]; exact e,by rw [fe ne]; exact n⟩
 kb:=fun a n=>by
  by_cases ha:a=p
  ·subst ha; rw [cV]; simp
  ·rw [bR ha]; exact(Mv.refl h).kb a n
 ab:=fun a g' e=>by
  by_cases ha:a=p
  ·subst ha; rw [aM] at e; cases e; exact ho
  ·rw [fe ha] at e;exact(h a g' e).mono k (bR ha)
theorem mx.lst{K:ak}{H:Hp}{G:Gp}{a:Addr}{ds:List D}(h:mx K H G)(e:G a=some (.lst ds)):∃ vs,H a=some (.lst vs)/\bp K H vs ds:=h a _ e
theorem Mv.Ba{K:ak}{H:Hp}{G:Gp}{p:Addr}{vs:List V}{ds:List D}(h:mx K H G)(hp:H p=none)(r:bp K H vs ds):Mv K H G (upd H p (.lst vs)) (fG G p (.lst ds)) :=
 .new h hp ⟨vs,cV,r.mono (.new hp)⟩
theorem Mv.putL{K:ak}{H:Hp}{G:Gp}{p:Addr}{vs0 vs:List V}{ds0 ds:List D}(h:mx K H G)(hg:G p=some (.lst ds0))(hp:H p=some (.lst vs0))(r:bp K H vs ds):Mv K H G (upd H p (.lst vs)) (fG G p (.lst ds)) :=
 .put h hg (.putL hp) ⟨vs,cV,r.mono (.putL hp)⟩
structure Ma(K:ak)(H:Hp)(σ:L2.St)(τ:iS):Prop where
 len:σ.length=τ.length
 at':∀ (i:Nat) (d:D),τ[i]?=some (some d)->∃ v,σ[i]?=some (some v)/\cM K H v d
theorem Ma.mono{K:ak}{H H':Hp}{σ:L2.St}{τ:iS}(k:Kp H H')(a:Ma K H σ τ):Ma K H' σ τ :=
 ⟨a.len,fun i d e=>let ⟨v,h1,h2⟩:=a.at' i d e; ⟨v,h1,h2.mono k⟩⟩
theorem Ma.set{K:ak}{H:Hp}{σ:L2.St}{τ:iS}{v:V}{d:D}(a:Ma K H σ τ)(i:Nat)(r:cM K H v d):Ma K H (σ.set i (some v)) (τ.set i (some d)):=by
 refine⟨by rw [bO,bO]; exact a.len,fun j e h=>?_⟩;by_cases hj:i=j
 ·subst hj;by_cases hi:i < τ.length
  ·rw [dI hi] at h;cases h;exact⟨v,by rw [dI (by rw [a.len]; exact hi)],r⟩
  ·rw [List.set_eq_of_length_le (by lia)] at h;rw [dW (by lia)] at h;cases h
 ·rw [dg hj] at h;obtain⟨w,h1,h2⟩:=a.at' j e h;exact⟨w,by rw [dg hj]; exact h1,h2⟩
structure I2(X:Cx)(ZB:List (Addr×Obj))(σ:L2.St)(H:Hp)(τ:iS)(G:Gp)(s:az):Prop where
 inv:Inv X ZB σ H s
 st:Ma X.K H σ τ
 ab:mx X.K H G
theorem I2.mv{X:Cx}{ZB:List (Addr×Obj)}{σ:L2.St}{H H':Hp}{τ:iS}{G G':Gp}{s s':az}(I:I2 X ZB σ H τ G s)(I':Inv X ZB σ H' s')(m:Mv X.K H G H' G'):I2 X ZB σ H' τ G' s' :=
 ⟨I',I.st.mono (m.kp I.ab),m.ab⟩
def L9(P:bT)(w:World):PC:=fun outer H s E e s'=>∃ (a C t:Addr) (B:Heap) (H':Hp),e=.ref a/\s'.os=s.os/\AA s'.gens/\Un (uI outer) [] H H' s.heap s'.heap/\sf P w H' s'.heap /\
 (∀ b o,s'.heap.get? b=some o->b∉uI outer->(s.heap.get? b≠none\/H' b≠none)->B.get? b=some o)/\xP B outer a (.ref C) (.ref t) s'.heap/\H' a=none/\s.heap.get? a=none/\E (.ref C) none H'
def exK(mg:Str->Option Value)(E:md):XK:=fun cls _ _=>∃ (ex:Ex) (C:Addr),cls=.ref C/\mg ex.cls=some (.ref C)/\E ex (fun _=>none)
structure Lk(X:Cx)(E:md):Prop where
 made:∀ (ZB:List (Addr×Obj)) (σ:L2.St) (H:Hp) (s:az) (h1:Heap) (a C:Addr) (args:List Value) (ex:Ex),Inv X ZB σ H s->PySem.Heap.MadeExcOf s.heap h1 a (.ref C) args->X.mg ex.cls=some (.ref C)->E ex (fun _=>none)->X.xe (.ref a) { s with heap:=h1 }
 pass:∀ (ZB:List (Addr×Obj)) (σ:L2.St) (H:Hp) (s s':az) (e:Value),Inv X ZB σ H s->L9 X.prog X.w X.stack H s (exK X.mg E) e s'->X.xe e s'
theorem Lk.none{X:Cx}{E:md}(h:∀ ex G,¬ E ex G):Lk X E where
 made:=fun _ _ _ _ _ _ _ _ ex _ _ _ z=>absurd z (h ex _)
 pass:=fun _ _ _ _ _ _ _ hc=>by
  obtain⟨_,_,_,_,_,_,_,_,_,_,_,_,_,_,hz⟩:=hc;obtain⟨ex,_,_,_,z⟩:=hz;exact absurd z (h ex _)
inductive sr (X:Cx) (ZB:List (Addr×Obj)) (σ:L2.St) (H:Hp) (G:Gp) (Q:DK) (u:Value) (s':az):Prop
 | mk (v:V) (H':Hp) (d:D) (G':Gp) (i:Inv X ZB σ H' s') (m:Mv X.K H G H' G') (r:RelV v u) (rd:cM X.K H' v d) (q:Q d G'):sr X ZB σ H G Q u s'
inductive YL (X:Cx) (ZB:List (Addr×Obj)) (σ:L2.St) (H:Hp) (G:Gp) (Q:Bool->Gp->Prop) (b:Bool) (s':az):Prop
 | mk (H':Hp) (G':Gp) (i:Inv X ZB σ H' s') (m:Mv X.K H G H' G') (q:Q b G'):YL X ZB σ H G Q b s'
inductive AP2 (X:Cx) (ZB:List (Addr×Obj)) (σ:L2.St) (H:Hp) (G:Gp) (Q:List D->Gp->Prop) (us:List Value) (s':az):Prop
 | mk (vs:List V) (H':Hp) (ds:List D) (G':Gp) (i:Inv X ZB σ H' s') (m:Mv X.K H G H' G') (r:Vals vs us) (rd:bp X.K H' vs ds) (q:Q ds G'):AP2 X ZB σ H G Q us s'
inductive SPn (X:Cx) (ZB:List (Addr×Obj)) (H:Hp) (G:Gp) (P:iS->Gp->Prop) (s':az):Prop
 | mk (j5:L2.St) (H':Hp) (nI:iS) (G':Gp) (i:I2 X ZB j5 H' nI G' s') (m:Mv X.K H G H' G') (q:P nI G'):SPn X ZB H G P s'
inductive SPr (X:Cx) (ZB:List (Addr×Obj)) (H:Hp) (G:Gp) (P:D->Gp->Prop) (u:Value) (s':az):Prop
 | mk (v:V) (j5:L2.St) (H':Hp) (d:D) (G':Gp) (i:Inv X ZB j5 H' s') (m:Mv X.K H G H' G') (r:RelV v u) (rd:cM X.K H' v d) (q:P d G'):SPr X ZB H G P u s'
def VC(X:Cx)(ZB:List (Addr×Obj))(H:Hp)(G:Gp)(D:nF)(f:Flow)(s':az):Prop :=
 match f with
 | .next=>SPn X ZB H G D.nx s'
 | .brk=>SPn X ZB H G D.bk s'
 | .cont=>SPn X ZB H G D.ct s'
 | .ret u=>SPr X ZB H G D.rt u s'
def ia(X:Cx)(e:Expr)(t:gN):Prop :=
 ∀ (E:md) (ZB:List (Addr×Obj)) (s:az) (σ:L2.St) (H:Hp) (τ:iS) (G:Gp) (Q:DK),Lk X E->I2 X ZB σ H τ G s->t E τ G Q->wpAny (model X.prog X.w) X.A (eval e X.env) (sr X ZB σ H G Q) X.xe s
def Gw(X:Cx)(e:Expr)(t:zM):Prop :=
 ∀ (E:md) (ZB:List (Addr×Obj)) (s:az) (σ:L2.St) (H:Hp) (τ:iS) (G:Gp) (Q:Bool->Gp->Prop),Lk X E->I2 X ZB σ H τ G s->t E τ G Q->wpAny (model X.prog X.w) X.A (isTrue e X.env (eval e X.env)) (YL X ZB σ H G Q) X.xe s
def NT(X:Cx)(e:Expr)(t:zM):Prop :=
 ∀ (wh:Sem Value) (E:md) (ZB:List (Addr×Obj)) (s:az) (σ:L2.St) (H:Hp) (τ:iS) (G:Gp) (Q:Bool->Gp->Prop),Lk X E->I2 X ZB σ H τ G s->t E τ G Q->wpAny (model X.prog X.w) X.A (isTrue e X.env wh) (YL X ZB σ H G Q) X.xe s
def Gy(X:Cx)(es:List Expr)(t:CF):Prop :=
 ∀ (pos:Pos) (E:md) (ZB:List (Addr×Obj)) (s:az) (σ:L2.St) (H:Hp) (τ:iS) (G:Gp) (Q:List D->Gp->Prop),Lk X E->I2 X ZB σ H τ G s->t E τ G Q->wpAny (model X.prog X.w) X.A (xX (iT pos (bJ es X.env))) (AP2 X ZB σ H G Q) X.xe s
def Gx(X:Cx)(st:Stmt)(t:iC):Prop :=
 ∀ (E:md) (ZB:List (Addr×Obj)) (s:az) (σ:L2.St) (H:Hp) (τ:iS) (G:Gp) (D:nF),Lk X E->I2 X ZB σ H τ G s->t E D τ G->wpAny (model X.prog X.w) X.A (exec st X.env) (VC X ZB H G D) X.xe s
def vT(X:Cx)(st:List Stmt)(t:iC):Prop :=
 ∀ (E:md) (ZB:List (Addr×Obj)) (s:az) (σ:L2.St) (H:Hp) (τ:iS) (G:Gp) (D:nF),Lk X E->I2 X ZB σ H τ G s->t E D τ G->wpAny (model X.prog X.w) X.A (execs st X.env) (VC X ZB H G D) X.xe s
theorem VC.trans{X:Cx}{ZB:List (Addr×Obj)}{H H1:Hp}{G G1:Gp}{D:nF}{f:Flow}{s':az}(m:Mv X.K H G H1 G1)(h:VC X ZB H1 G1 D f s'):VC X ZB H G D f s':=by
 cases f with
 | next=>obtain⟨j5,H',nI,G',I,m',q⟩:=h; exact⟨j5,H',nI,G',I,m.trans m',q⟩
 | brk=>obtain⟨j5,H',nI,G',I,m',q⟩:=h; exact⟨j5,H',nI,G',I,m.trans m',q⟩
 | cont=>obtain⟨j5,H',nI,G',I,m',q⟩:=h; exact⟨j5,H',nI,G',I,m.trans m',q⟩
 | ret u=>obtain⟨v,j5,H',d,G',I,m',r,rd,q⟩:=h; exact⟨v,j5,H',d,G',I,m.trans m',r,rd,q⟩
section
variable {X:Cx} {a b c:Expr} {ta tb tc:gN} {pos:Pos}
theorem kU{ZB:List (Addr×Obj)}{σ:L2.St}{H:Hp}{τ:iS}{G:Gp}{s:az}{E:md}{R:DK}{Q:Value->az->Prop}(ha:ia X a ta)(hE:Lk X E)(I:I2 X ZB σ H τ G s)(h:ta E τ G R)
  (k:∀ v H1 d G1 u s1,I2 X ZB σ H1 τ G1 s1->Mv X.K H G H1 G1->RelV v u->cM X.K H1 v d->R d G1->Q u s1):wpAny (model X.prog X.w) X.A (eval a X.env) Q X.xe s :=
 g6 (ha E ZB s σ H τ G R hE I h) (by rintro u s1 ⟨v,H1,d,G1,I1,m,r,rd,q⟩; exact k v H1 d G1 u s1 (I.mv I1 m) m r rd q)
theorem sr.trans{ZB:List (Addr×Obj)}{σ:L2.St}{H H1:Hp}{G G1:Gp}{Q:DK}{u:Value}{s':az}(m:Mv X.K H G H1 G1)(h:sr X ZB σ H1 G1 Q u s'):sr X ZB σ H G Q u s':=by
 obtain⟨v,H',d,G',I,m',r,rd,q⟩:=h;exact⟨v,H',d,G',I,m.trans m',r,rd,q⟩
theorem YL.trans{ZB:List (Addr×Obj)}{σ:L2.St}{H H1:Hp}{G G1:Gp}{Q:Bool->Gp->Prop}{u:Bool}{s':az}(m:Mv X.K H G H1 G1)(h:YL X ZB σ H1 G1 Q u s'):YL X ZB σ H G Q u s':=by
 obtain⟨H',G',I,m',r⟩:=h;exact⟨H',G',I,m.trans m',r⟩
theorem UP {i:Nat} {x:Str} (hN:X.N[i]?=some x) (hv:Vis X.env.scope x) (hd:(x == ("__debug__" : Str))=false:=by decide) (Gs:(x == ("__classdict__" : Str))=false:=by decide):ia X (.Name x pos) (au i):=by
 intro E ZB s σ H τ G Q hE I h;unfold au at h;split at h
 ·rename_i d e;obtain⟨v,h1,h2⟩:=I.st.at' i d e;exact g6 (W2 hN hv hd Gs ZB s σ H (fun v' H'=>v'=v/\H'=H) I.inv ⟨v,h1,rfl,rfl⟩) fun u s1 JE=>by
   obtain⟨v',H',I1,r,e1,e2⟩:=JE;subst e1; subst e2;exact⟨_,_,d,G,I1,.refl I.ab,r,h2,h⟩
 ·exact h.elim
theorem qi{e:Expr}{v:V}{d:D}(h:PE X e (tC v))(r:∀ K H,cM K H v d):ia X e (dC d):=by
 intro E ZB s σ H τ G Q hE I hq;exact g6 (h ZB s σ H (fun v' H'=>v'=v/\H'=H) I.inv ⟨rfl,rfl⟩) fun u s1 hp1=>by
  obtain⟨v',H',I1,rr,e1,e2⟩:=hp1;subst e1; subst e2;exact⟨_,_,d,G,I1,.refl I.ab,rr,r _ _,hq⟩
theorem aS{i j}:ia X (.Constant (.int i) j pos) (dC (.int i)):=qi W5 fun _ _=>.int i
def o3(X:Cx)(f:Value->Value->Sem Value)(r:B7):Prop :=
 ∀ (ZB:List (Addr×Obj)) (s:az) (σ:L2.St) (H:Hp) (G:Gp) (x y:V) (dx dy:D) (v u:Value) (Q:DK),Inv X ZB σ H s->mx X.K H G->RelV x v->RelV y u->cM X.K H x dx->cM X.K H y dy->r dx dy G Q ->
  wpAny (model X.prog X.w) X.A (f v u) (sr X ZB σ H G Q) X.xe s
def aaU(X:Cx)(f:Value->Sem Value)(r:D->Gp->DK->Prop):Prop :=
 ∀ (ZB:List (Addr×Obj)) (s:az) (σ:L2.St) (H:Hp) (G:Gp) (x:V) (dx:D) (v:Value) (Q:DK),Inv X ZB σ H s->mx X.K H G->RelV x v->cM X.K H x dx->r dx G Q ->
  wpAny (model X.prog X.w) X.A (f v) (sr X ZB σ H G Q) X.xe s
def vW(X:Cx)(f:Value)(r:List D->Gp->DK->Prop):Prop :=
 ∀ (ZB:List (Addr×Obj)) (s:az) (σ:L2.St) (H:Hp) (G:Gp) (xs:List V) (ds:List D) (us:List Value) (Q:DK),Inv X ZB σ H s->mx X.K H G->Vals xs us->bp X.K H xs ds->r ds G Q ->
  wpAny (model X.prog X.w) X.A (call f us) (sr X ZB σ H G Q) X.xe s
abbrev CH(K:ak)(H:Hp)(G:Gp)(Q:DK):VK:=fun v H'=>∃ d G',Mv K H G H' G'/\cM K H' v d/\Q d G'
theorem sr.of{ZB:List (Addr×Obj)}{σ:L2.St}{H:Hp}{G:Gp}{Q:DK}{u:Value}{s':az}(h:EP X ZB σ (CH X.K H G Q) u s'):sr X ZB σ H G Q u s':=by
 obtain⟨v,H',I,r,d,G',m,rd,q⟩:=h;exact⟨v,H',d,G',I,m,r,rd,q⟩
theorem S7(ha:ia X a ta)(hb:ia X b tb){E:md}{ZB:List (Addr×Obj)}{s:az}{σ:L2.St}{H:Hp}{τ:iS}{G:Gp}{R:D->D->Gp->Prop}(hE:Lk X E)(I:I2 X ZB σ H τ G s)
  (h:ta E τ G fun x G1=>tb E τ G1 fun y G2=>R x y G2) {Q:Value->az->Prop} {f:Value->Value->Sem Value}
  (hf:∀ v u s2 x y dx dy H2 G2,I2 X ZB σ H2 τ G2 s2->Mv X.K H G H2 G2->RelV x v->RelV y u->cM X.K H2 x dx->cM X.K H2 y dy->R dx dy G2->wpAny (model X.prog X.w) X.A (f v u) Q X.xe s2) :
  wpAny (model X.prog X.w) X.A (eval a X.env) (fun v gx=>wpAny (model X.prog X.w) X.A (eval b X.env) (fun u vm=>wpAny (model X.prog X.w) X.A (f v u) Q X.xe vm) X.xe gx) X.xe s:=by
 refine kU ha hE I h fun x H1 dx G1 v s1 I1 m1 r1 j6 q1=>?_;refine kU hb hE I1 q1 fun y H2 dy G2 u s2 nV m2 r2 zV q2=>?_;exact hf v u s2 x y dx dy H2 G2 nV (m1.trans m2) r1 r2 (j6.mono (m2.kp I1.ab)) zV q2
theorem cc{op:Operator}{r:B7}(ho:o3 X (lL op) r)(ha:ia X a ta)(hb:ia X b tb):ia X (.BinOp a op b pos) (a9 r ta tb):=by
 intro E ZB s σ H τ G Q hE I h;exact wpAny_BinOp (S7 ha hb hE I h fun v u s2 x y dx dy H2 G2 nV m rx ry dX dY q=>g6 (ho ZB s2 σ H2 G2 x y dx dy v u Q nV.inv nV.ab rx ry dX dY q) fun _ _ z=>z.trans m)
theorem KR{op:UnaryOp}{r:D->Gp->DK->Prop}(ho:aaU X (unaryOp op) r)(ha:ia X a ta):ia X (.UnaryOp op a pos) (NG r ta):=by
 intro E ZB s σ H τ G Q hE I h;exact UnaryOp_ (kU ha hE I h fun x H1 dx G1 v s1 I1 m1 r1 j6 q1=>g6 (ho ZB s1 σ H1 G1 x dx v Q I1.inv I1.ab r1 j6 q1) fun _ _ z=>z.trans m1)
theorem ET{op:CmpOp}{r:B7}(ho:o3 X (eO op) r)(ha:ia X a ta)(hb:ia X b tb)(hm:xZ op b=false):ia X (.Compare a [op] [b] pos) (a9 r ta tb):=by
 intro E ZB s σ H τ G Q hE I h;exact wpAny_Compare1 (S7 ha hb hE I h fun v u s2 x y dx dy H2 G2 nV m rx ry dX dY q=>g6 (ho ZB s2 σ H2 G2 x y dx dy v u Q nV.inv nV.ab rx ry dX dY q) fun _ _ z=>z.trans m) hm
end
end K2
end
section
namespace K2
open PySem PySem.Spec PyProof.Rows L2
theorem Y5{K:ak}{H:Hp}{G:Gp}{x:V}{d:D}{k:Bool}(ab:mx K H G)(r:cM K H x d)(e:Oc d G=some k):(∃ p,x=.ref p/\Rd H p (.dT [])/\k=false)\/(∃ p kv,x=.ref p/\Rd H p (.dK kv)/\k=!kv.isEmpty)\/Yp K x H k:=by
 have SH:∀ WP:List (D×D),(if (WP.all fun p=>gb p.1)=true then some (!WP.isEmpty) else none)=some k->∀ p,((∃ kv,Rd H p (.dK kv)/\pM K H kv WP)\/∃ kv,Rd H p (.dT kv)/\mS K H kv WP) ->
   (∃ p',V.ref p=.ref p'/\Rd H p' (.dT [])/\k=false)\/(∃ p' kv,V.ref p=.ref p'/\Rd H p' (.dK kv)/\k=!kv.isEmpty)\/Yp K (.ref p) H k:=by
  intro WP e p z;by_cases ha:(WP.all fun p=>gb p.1)=true
  ·rw [if_pos ha] at e;cases e;rcases z with ⟨kv,hv,rs⟩ | ⟨kv,hv,rs⟩
   ·right; left;refine⟨p,kv,rfl,hv,?_⟩;cases rs <;> rfl
   ·left;cases rs with
    | nil=>exact⟨p,rfl,hv,rfl⟩
    | cons _ _=>simp [gb] at ha
  ·rw [if_neg ha] at e; cases e
 cases r with
 | dh=>right; right; cases e; rfl
 | bl b=>right; right; cases e; rfl
 | int i=>right; right; cases e; rfl
 | str y =>
  right; right;unfold Oc at e;dsimp only at e;by_cases h:y.length<=SZ
  ·rw [if_pos h] at e; cases e; exact⟨by rw [cC]; exact h,rfl⟩
  ·rw [if_neg h] at e; cases e
 | tup h rs =>
  right; right;cases e;refine .inr (.inl ⟨_,.of h,?_⟩);cases rs <;> rfl
 | fx h rs =>
  right; right;cases e;refine .inl ⟨_,h.sq,?_⟩;cases rs <;> rfl
 | pS h rs=>exact SH _ e _ (.inl ⟨_,.inr ⟨_,h⟩,rs⟩)
 | pR h rs=>exact SH _ e _ (.inr ⟨_,.inr ⟨_,h⟩,rs⟩)
 | exc h=>simp [Oc] at e
 | ref a =>
  unfold Oc at e;dsimp only at e;cases q:G a with
  | none=>rw [q] at e; cases e
  | some g =>
   rw [q] at e;have z:=ab a g q;cases g with
   | lst ds =>
    right; right;obtain⟨vs,hv,rs⟩:=z;cases e;refine .inl ⟨vs,.of hv,?_⟩;cases rs <;> rfl
   | jg WP =>
    refine SH WP e a ?_;rcases z with ⟨kv,hv,rs⟩ | ⟨kv,hv,rs⟩
    ·exact .inl ⟨kv,.inl hv,rs⟩
    ·exact .inr ⟨kv,.inl hv,rs⟩
section
variable {X:Cx} {a b c:Expr} {ta tb tc:gN} {pos:Pos}
def aaV(X:Cx):Prop:=∀ (ZB:List (Addr×Obj)) (s:az) (σ:L2.St) (H:Hp) (G:Gp) (x:V) (d:D) (v:Value) (k:Bool) (Q:Bool->az->Prop),Inv X ZB σ H s->mx X.K H G->RelV x v->cM X.K H x d->Oc d G=some k ->
  (∀ s',Inv X ZB σ H s'->Q k s')->wpAny (model X.prog X.w) X.A (truthy v) Q X.xe s
theorem Ob:aaV X:=by
 intro ZB s σ H G x d v k Q I ab rx rd e q;rcases Y5 ab rd e with ⟨p,rfl,hv,hk⟩ | ⟨p,kv,rfl,hv,hk⟩ | h
 ·obtain⟨z,hS,xs,rel,o,es,ep,ho,hx,Ag,hl,nd⟩:=hv.ok I.cB;have hxs:xs=[]:=by cases rel; rfl
  subst hxs;have he:es=#[]:=by simpa using hl
  subst he;cases rx;have dd:s.heap.DictOf (cA X.prog X.w) p []:=⟨o,#[],ep,ho,hx,Ag,(fun _ h=>by simp at h),.nil,df⟩;refine JI hS dd (by simp) ?_;subst hk;exact q _ (I.tok _)
 ·cases rx;subst hk;exact Vr I hv q
 ·exact g6 (Wv ZB s σ H x v (fun k' H'=>k'=k/\H'=H) I rx ⟨k,h,rfl,rfl⟩) fun k' s' JE=>by
   obtain⟨H',I',e1,e2⟩:=JE;subst e1; subst e2; exact q s' I'
theorem i7(ha:ia X a ta)(he:∀ whole,isTrue a X.env whole=(do let v ← whole; standAt a.pos; JO [v] (truthy v)):=by intro _; rfl):Gw X a (gL ta):=by
 intro E ZB s σ H τ G Q hE I h;refine isTrue_plain (kU ha hE I h fun x H1 d G1 v s1 I1 m1 r1 j6 q1=>?_) (he _)
 try dsimp only at q1
 split at q1
 ·rename_i k e;exact Ob ZB s1 σ H1 G1 x d v k _ I1.inv I1.ab r1 j6 e fun s' I'=>⟨H1,G1,I',m1,q1⟩
 ·exact q1.elim
theorem ff{op:CmpOp}{r:B7}(ho:o3 X (eO op) r)(ha:ia X a ta)(hb:ia X b tb)(hm:xZ op b=false):Gw X (.Compare a [op] [b] pos) (gL (a9 r ta tb)):=by
 intro E ZB s σ H τ G Q hE I h;refine wpAny_isTrue_Compare1 (kU ha hE I h fun x H1 dx G1 v s1 I1 m1 r1 j6 q1=>kU hb hE I1 q1 fun y H2 dy G2 u s2 nV m2 r2 zV q2 =>
  g6 (ho ZB s2 σ H2 G2 x y dx dy v u _ nV.inv nV.ab r1 r2 (j6.mono (m2.kp I1.ab)) zV q2) ?_) hm
 rintro c s3 ⟨z,H3,dz,G3,I3,m3,r3,WU,q3⟩
 try dsimp only at q3
 split at q3
 ·rename_i k e;exact Ob ZB s3 σ H3 G3 z dz c k _ I3 m3.ab r3 WU e fun s' I'=>⟨H3,G3,I',(m1.trans m2).trans m3,q3⟩
 ·exact q3.elim
variable {tA tB:zM} {rest:List Expr}
theorem NT.pt{e:Expr}{t:zM}(h:NT X e t):Gw X e t:=fun E ZB s σ H τ G Q hE I q=>h _ E ZB s σ H τ G Q hE I q
theorem Od{ZB:List (Addr×Obj)}{σ:L2.St}{H:Hp}{τ:iS}{G:Gp}{s:az}{E:md}{R:Bool->Gp->Prop}{Q:Bool->az->Prop}(ha:Gw X a tA)(hE:Lk X E)(I:I2 X ZB σ H τ G s)(h:tA E τ G R)
  (k:∀ c H1 G1 s1,I2 X ZB σ H1 τ G1 s1->Mv X.K H G H1 G1->R c G1->Q c s1):wpAny (model X.prog X.w) X.A (isTrue a X.env (eval a X.env)) Q X.xe s :=
 g6 (ha E ZB s σ H τ G R hE I h) (by rintro c s1 ⟨H1,G1,I1,m,q⟩; exact k c H1 G1 s1 (I.mv I1 m) m q)
theorem Hs(ha:Gw X a tA):NT X (.BoolOp .And [a] pos) tA:=by
 intro wh E ZB s σ H τ G Q hE I h;refine isTrue_and (g6 (ha E ZB s σ H τ G Q hE I h) fun c s1 e=>?_);cases c with
 | true=>exact isTrue_and_nil e
 | false=>exact e
theorem zX(ha:Gw X a tA):NT X (.BoolOp .Or [a] pos) tA:=by
 intro wh E ZB s σ H τ G Q hE I h;refine isTrue_or (g6 (ha E ZB s σ H τ G Q hE I h) fun c s1 e=>?_);cases c with
 | false=>exact isTrue_or_nil e
 | true=>exact e
theorem MO(ha:Gw X a tA)(hb:NT X (.BoolOp .And (b :: rest) pos) tB):NT X (.BoolOp .And (a :: b :: rest) pos) (IU tA tB):=by
 intro wh E ZB s σ H τ G Q hE I h;refine isTrue_and (Od ha hE I h fun c H1 G1 s1 I1 m1 q1=>?_);cases c with
 | true=>exact g6 (hb wh E ZB s1 σ H1 τ G1 Q hE I1 (by simpa using q1)) fun _ _ z=>z.trans m1
 | false=>exact⟨H1,G1,I1.inv,m1,by simpa using q1⟩
theorem EN(ha:Gw X a tA)(hb:NT X (.BoolOp .Or (b :: rest) pos) tB):NT X (.BoolOp .Or (a :: b :: rest) pos) (SQ tA tB):=by
 intro wh E ZB s σ H τ G Q hE I h;refine isTrue_or (Od ha hE I h fun c H1 G1 s1 I1 m1 q1=>?_);cases c with
 | false=>exact g6 (hb wh E ZB s1 σ H1 τ G1 Q hE I1 (by simpa using q1)) fun _ _ z=>z.trans m1
 | true=>exact⟨H1,G1,I1.inv,m1,by simpa using q1⟩
theorem qU(ha:Gw X a tA):Gw X (.UnaryOp .Not a pos) (vO tA):=by
 intro E ZB s σ H τ G Q hE I h;exact isTrue_not (g6 (ha E ZB s σ H τ G (fun c H1=>Q (!c) H1) hE I h) (by rintro c s' ⟨H',G',i,m,q⟩; exact⟨H',G',i,m,q⟩))
theorem MU{op}{t:gN}(h:ia X a t):ia X (.BoolOp op [a] pos) t:=fun E ZB s σ H τ G Q hE I hw=>BoolOp_one (h E ZB s σ H τ G Q hE I hw)
theorem MW(ha:ia X a ta)(hb:ia X (.BoolOp .And (b :: rest) pos) tb):ia X (.BoolOp .And (a :: b :: rest) pos) (IT ta tb):=by
 intro E ZB s σ H τ G Q hE I h;refine BoolOp_and (kU ha hE I h fun x H1 d G1 v s1 I1 m1 r1 j6 q1=>?_)
 try dsimp only at q1
 split at q1
 ·rename_i e;exact Ob ZB s1 σ H1 G1 x d v true _ I1.inv I1.ab r1 j6 e fun s' I'=>g6 (hb E ZB s' σ H1 τ G1 Q hE ⟨I',I1.st,I1.ab⟩ q1) fun _ _ z=>z.trans m1
 ·rename_i e;exact Ob ZB s1 σ H1 G1 x d v false _ I1.inv I1.ab r1 j6 e fun s' I'=>⟨x,H1,d,G1,I',m1,r1,j6,q1⟩
 ·exact q1.elim
theorem UQ(ha:ia X a ta):ia X (.UnaryOp .Not a pos) (SR ta):=by
 intro E ZB s σ H τ G Q hE I h;refine UnaryOp_ (kU ha hE I h fun x H1 d G1 v s1 I1 m1 r1 j6 q1=>?_)
 try dsimp only at q1
 split at q1
 ·rename_i k e;exact not_of (Ob ZB s1 σ H1 G1 x d v k _ I1.inv I1.ab r1 j6 e fun s' I'=>⟨.bl (!k),H1,.bl (!k),G1,I',m1,rfl,.bl _,q1⟩)
 ·exact q1.elim
theorem Ra(hc:Gw X c tA)(ha:ia X a ta)(hb:ia X b tb):ia X (.IfExp c a b pos) (YJ tA ta tb):=by
 intro E ZB s σ H τ G Q hE I h;refine wpAny_IfExp (Od hc hE I h fun d H1 G1 s1 I1 m1 q1=>?_);cases d with
 | true=>exact g6 (ha E ZB s1 σ H1 τ G1 Q hE I1 (by simpa using q1)) fun _ _ z=>z.trans m1
 | false=>exact g6 (hb E ZB s1 σ H1 τ G1 Q hE I1 (by simpa using q1)) fun _ _ z=>z.trans m1
variable {e:Expr} {es:List Expr} {te:gN} {t:CF}
theorem aL:Gy X [] bc:=fun _ _ _ _ _ H _ G Q _ I h=>nH ⟨[],H,[],G,I.inv,.refl I.ab,.nil,.nil,h⟩
theorem ao(ha:ia X e te)(hr:Gy X es t)(hs:bJ (e :: es) X.env=(false,eval e X.env) :: bJ es X.env:=by rfl):Gy X (e :: es) (aB te t):=by
 intro pos E ZB s σ H τ G Q hE I h;rw [hs];show wpAny _ _ (xX ((false,eval e X.env) :: iT pos (bJ es X.env))) _ _ s;refine fV (kU ha hE I h fun x H1 d G1 u s1 I1 m1 r1 j6 q1=>?_);exact g6 (hr pos E ZB s1 σ H1 τ G1 _ hE I1 q1) (by rintro us s2 ⟨xs,H2,ds,G2,nV,m2,r2,zV,q2⟩; exact⟨x :: xs,H2,d :: ds,G2,nV,m1.trans m2,.cons r1 r2,.cons (j6.mono (m2.kp I1.ab)) zV,q2⟩)
theorem zF{ZB:List (Addr×Obj)}{σ:L2.St}{H:Hp}{τ:iS}{G:Gp}{s:az}{E:md}{R:List D->Gp->Prop}{Q:List Value->az->Prop}(ha:Gy X es t)(pos:Pos)(hE:Lk X E)(I:I2 X ZB σ H τ G s)(h:t E τ G R)
  (k:∀ vs H1 ds G1 us s1,I2 X ZB σ H1 τ G1 s1->Mv X.K H G H1 G1->Vals vs us->bp X.K H1 vs ds->R ds G1->Q us s1):wpAny (model X.prog X.w) X.A (xX (iT pos (bJ es X.env))) Q X.xe s :=
 g6 (ha pos E ZB s σ H τ G R hE I h) (by rintro us s1 ⟨vs,H1,ds,G1,I1,m,r,rd,q⟩; exact k vs H1 ds G1 us s1 (I.mv I1 m) m r rd q)
theorem gY{x1}(h:Gy X es t):ia X (.Tuple es x1 pos) (iZ t):=by
 intro E ZB s σ H τ G Q hE I hq;refine wpAny_Tuple_spliced (zF h pos hE I hq ?_);rintro xs H1 ds G1 us s1 I1 m1 r rd ⟨z,q⟩;refine⟨by rw [<-r.length,rd.length,cC]; exact z,?_⟩;have hf:H1 s1.heap.objs.size=none:=I1.inv.cB.fresh (aK _);refine⟨.ref s1.heap.objs.size,upd H1 s1.heap.objs.size (.tup xs),.tup ds,G1,I1.inv.laid (t':=s1.toks) (fun b u e=>aN _ e) (aK _) ?_,m1.trans (.O0 I1.ab hf),rfl,?_,q⟩
 ·exact⟨by rw [rd.length,cC]; exact z,us,r,⟨_,br _ rfl,rfl,_,rfl⟩⟩
 ·exact .tup cV (rd.mono (.new hf))
theorem lj(h:Gy X es t):ia X (.List es pos) (nq t):=by
 intro E ZB s σ H τ G Q hE I hq;refine wpAny_List_spliced (zF h pos hE I hq ?_);rintro xs H1 ds G1 us s1 I1 m1 r rd ⟨z,q⟩;refine⟨by rw [<-r.length,rd.length,cC]; exact z,?_⟩;have hf:H1 s1.heap.objs.size=none:=I1.inv.cB.fresh (aK _);refine⟨.ref s1.heap.objs.size,upd H1 s1.heap.objs.size (.lst xs),.ref _,fG G1 s1.heap.objs.size (.lst ds),I1.inv.laid (t':=s1.toks) (fun b u e=>aN _ e) (aK _) ?_,m1.trans (.Ba I1.ab hf rd),rfl,.ref _,q _ (I1.ab.free hf)⟩;exact⟨by rw [rd.length,cC]; exact z,us,0,r,br _ rfl⟩
def cX(K:ak)(sp:mw):Sp:=fun vs H Q _=>∃ ds G Q2,bp K H vs ds/\mx K H G/\sp ds G Q2 (fun _ _=>False)/\∀ d G' v H',Q2 d G'->Mv K H G H' G'->cM K H' v d->Q v H'
variable {k:Nat} {f:Addr} {fd:aG} {ps:List Str} {sp:mw} {x:Str} {p:Pos} {r:List D->Gp->DK->Prop} {id:String}
theorem Rb(F:gf X.prog X.w X.K X.mg X.base gP k f fd ps (cX X.K sp))(hr:lM k X.A)(hg:Gl X x)(hm:X.mg x=some (.ref f))(hk:ji X.K (.ref f)=true)(hb:Binds X.K fd ps [])
  (ha:Gy X (e :: es) t) (Co:(x == ("__debug__" : Str))=false:=by decide) (he:bJ (e :: es) X.env=(false,eval e X.env) :: bJ es X.env:=by rfl) (Bt:(iT pos (bJ es X.env)).any (·.1)=false:=by rfl) :
  ia X (.Call (.Name x p) (e :: es) [] pos) (fun E τ G Q=>bW (fun ds G1 Q1 _=>sp ds G1 Q1 fun _ _=>False) t E τ G Q):=by
 intro E ZB s σ H τ G Q hE I h;refine dZ (pE I.inv hg hm ?_ Co);refine zy (h₀:=X.base) I.inv.ok.mod.RC hk (zF ha pos hE I h fun vs H1 ds G1 us s1 I1 m1 r rd q=>⟨I1.inv.B5,?_⟩) he Bt;refine g6 (QJ F hr hb .nil Zv I1.inv r (Q:=CH X.K H1 G1 Q) ?_) fun _ _ z=>(sr.of z).trans m1;rw [bL];exact⟨ds,G1,Q,rd,I1.ab,q,fun d G' v H' q' m' QS=>⟨d,G',m',QS,q'⟩⟩
theorem eY (hc:vW X (.builtin id) r) (hg:Gl X x) (hm:X.mg x=none) (hv:fH x=some (.builtin id)) (ha:Gy X (e :: es) t) (hn:x≠"__name__":=by decide) (Co:(x == ("__debug__" : Str))=false:=by decide)
  (he:bJ (e :: es) X.env=(false,eval e X.env) :: bJ es X.env:=by rfl) (Bt:(iT pos (bJ es X.env)).any (·.1)=false:=by rfl):ia X (.Call (.Name x p) (e :: es) [] pos) (og r t):=by
 intro E ZB s σ H τ G Q hE I h;refine dZ (lY I.inv hg hm hv ?_ hn Co);exact iD (zF ha pos hE I h fun vs H1 ds G1 us s1 I1 m1 r1 j6 q1=>g6 (hc ZB s1 σ H1 G1 vs ds us Q I1.inv I1.ab r1 j6 q1) fun _ _ z=>z.trans m1) he Bt
variable {st:Stmt} {sts:List Stmt} {u v:iC}
theorem e8:vT X [] eE:=fun _ _ _ σ H τ G _ _ I h=>jr ⟨σ,H,τ,G,I,.refl I.ab,h⟩
theorem aE(h1:Gx X st u)(h2:vT X sts v):vT X (st :: sts) (cD u v):=by
 intro E ZB s σ H τ G D hE I h;refine yU (g6 (h1 E ZB s σ H τ G { D with nx:=v E D } hE I h) fun f s1 q=>?_);cases f with
 | next =>
  obtain⟨j5,H',nI,G',I',m,q⟩:=q;exact g6 (h2 E ZB s1 j5 H' nI G' D hE I' q) fun _ _ z=>z.trans m
 | ret v=>exact q
 | brk=>exact q
 | cont=>exact q
theorem aP(h1:Gx X st u):vT X [st] u:=by
 intro E ZB s σ H τ G D hE I h;refine yU (g6 (h1 E ZB s σ H τ G D hE I h) fun f s1 q=>?_);cases f with
 | next=>exact jr q
 | ret v=>exact q
 | brk=>exact q
 | cont=>exact q
theorem ck(he:ia X e te):Gx X (.Return (some e) pos) (cT te):=by
 intro E ZB s σ H τ G D hE I h;exact wpAny_Return_some (g6 (he E ZB s σ H τ G _ hE I h) (by rintro v s1 ⟨x,H1,d,G1,I1,m,r1,rd,q1⟩; exact⟨x,σ,H1,d,G1,I1,m,r1,rd,q1⟩))
theorem hU{sa sb:List Stmt}(hc:Gw X c tA)(ha:vT X sa u)(hb:vT X sb v):Gx X (.If c sa sb pos) (mI tA u v):=by
 intro E ZB s σ H τ G D hE I h;refine wpAny_If (Od hc hE I h fun d H1 G1 s1 I1 m1 q1=>?_);cases d with
 | true=>exact g6 (ha E ZB s1 σ H1 τ G1 D hE I1 (by simpa using q1)) fun _ _ z=>z.trans m1
 | false=>exact g6 (hb E ZB s1 σ H1 τ G1 D hE I1 (by simpa using q1)) fun _ _ z=>z.trans m1
def PZ(X:Cx)(target:Expr)(t:CD):Prop :=
 ∀ (E:md) (ZB:List (Addr×Obj)) (s:az) (σ:L2.St) (H:Hp) (τ:iS) (G:Gp) (w:V) (d:D) (u:Value) (Q:iS->Gp->Prop),Lk X E->I2 X ZB σ H τ G s->RelV w u->cM X.K H w d->t E d τ G Q ->
  wpAny (model X.prog X.w) X.A (P9 target X.env u) (fun _ s'=>∃ j5 H' nI G',I2 X ZB j5 H' nI G' s'/\Mv X.K H G H' G'/\Q nI G') X.xe s
def VE(X:Cx)(ts:List Expr)(t:FU):Prop :=
 ∀ (E:md) (ZB:List (Addr×Obj)) (s:az) (σ:L2.St) (H:Hp) (τ:iS) (G:Gp) (ws:List V) (ds:List D) (us:List Value) (Q:iS->Gp->Prop),Lk X E->I2 X ZB σ H τ G s->Vals ws us->bp X.K H ws ds->t E ds τ G Q ->
  wpAny (model X.prog X.w) X.A (assignInOrder ((BY ts X.env).map (·.2)) us) (fun _ s'=>∃ j5 H' nI G',I2 X ZB j5 H' nI G' s'/\Mv X.K H G H' G'/\Q nI G') X.xe s
theorem Q8{i:Nat}{x:Str}(hN:X.N.Nodup)(hi:X.N[i]?=some x)(hx:Loc X.env.scope x)(hf:autoParam (X.fn x=true\/X.env.scope.names.lookup x=some .local) Ao._auto_1):PZ X (.Name x pos) (aJ i):=by
 intro E ZB s σ H τ G w d u Q hE I r rd h;exact JL (wt I.inv hN hi hx r (fun s' I'=>⟨_,H,_,G,⟨I',I.st.set i rd,I.ab⟩,.refl I.ab,h⟩) hf)
theorem jC:VE X [] ng:=by
 intro E ZB s σ H τ G ws ds us Q hE I r rd h;unfold ng at h;split at h
 ·have e:=rd.zero;subst e;cases r;exact assignInOrder_nil ⟨σ,H,τ,G,I,.refl I.ab,h⟩
 ·exact h.elim
theorem du{t:CD}{u:FU}(h1:PZ X e t)(h2:VE X es u)
  (hs:(BY (e :: es) X.env).map (·.2)=P9 e X.env :: (BY es X.env).map (·.2):=by rfl):VE X (e :: es) (fK t u):=by
 intro E ZB s σ H τ G ws ds us Q hE I r rd h;unfold fK at h;split at h
 ·cases rd with
  | cons j6 zV =>
   cases r with
   | cons r1 r2 =>
    rw [hs];refine assignInOrder_cons (g6 (h1 E ZB s σ H τ G _ _ _ _ hE I r1 j6 h) ?_);rintro _ s1 ⟨Yu,H1,qJ,G1,I1,m1,q1⟩;exact g6 (h2 E ZB s1 Yu H1 qJ G1 _ _ _ Q hE I1 r2 (zV.mono (m1.kp I.ab)) q1) (by rintro _ _ ⟨σ2,H2,ye,G2,nV,m2,q2⟩; exact⟨σ2,H2,ye,G2,nV,m1.trans m2,q2⟩)
 ·exact h.elim
theorem lh{k:Nat}{t:FU}{n:Nat}(hc:X.calm=true)(h:VE X es t)(hgl:∀ E ds τ G Q,t E ds τ G Q->ds.length=n)
  (hn:(BY es X.env).length=n:=by rfl) (zI:(BY es X.env).findIdx? (·.1)=none:=by rfl):PZ X (.Tuple es k pos) (nO t):=by
 intro E ZB s σ H τ G w d u Q hE I r rd hw;unfold nO at hw;split at hw
 ·cases rd with
  | tup hq rs =>
   cases r;obtain⟨bH,rv,ht,hz⟩:=I.inv.tuple (.of hq);refine assign_Tuple_tuple (I.inv.ok.hd hc) ht (by rw [hn,a8,<-rv.length,rs.length]; exact(hgl _ _ _ _ _ hw).symm) zI fun h' hx=>?_;have I1:Inv X ZB σ H { s with heap:=h' }:=I.inv.kept (t':=s.toks) fun b o e=>hx b o (bQ (aR e)) e;exact h E ZB _ σ H τ G _ _ _ Q hE ⟨I1,I.st,I.ab⟩ (by simpa using rv) rs hw
 ·exact hw.elim
theorem jE:∀ E ds τ G Q,ng E ds τ G Q->ds.length=0:=by
 intro E ds τ G Q h;cases ds with
 | nil=>rfl
 | cons _ _=>exact h.elim
theorem O7{t:CD}{u:FU}{n:Nat}(h:∀ E ds τ G Q,u E ds τ G Q->ds.length=n)(hm:∀ E d τ G (Q Q':iS->Gp->Prop),t E d τ G Q->(∀ nI G',Q nI G'->Q' nI G')->t E d τ G Q')(hx:∀ E d τ G,¬ t E d τ G fun _ _=>False) :
  ∀ E ds τ G Q,fK t u E ds τ G Q->ds.length=n+1:=by
 intro E ds τ G Q q;cases ds with
 | nil=>exact q.elim
 | cons d ds =>
  by_cases hl:ds.length=n
  ·rw [aj,hl]
  ·exact absurd (hm E d τ G _ (fun _ _=>False) q fun nI G' z=>hl (h _ _ _ _ _ z)) (hx E d τ G)
theorem kz{tg:Expr}{g:CD}(he:ia X e te)(hg:PZ X tg g)(hs:swapsWithSole [tg] e pos.line X.env=pure false:=by rfl)(hw:swappedStores [tg] e X.env=pure none:=by rfl)
  (h1:(BY [tg] X.env).map (·.2)=[P9 tg X.env]:=by rfl):Gx X (.Assign [tg] e pos) (bM te g):=by
 intro E ZB s σ H τ G D hE I h;refine wpAny_Assign_stores (kU he hE I h fun x H1 d G1 v s1 I1 m1 r1 j6 q1=>?_) hs hw;rw [h1];exact g6 (hg E ZB s1 σ H1 τ G1 x d v _ hE I1 r1 j6 q1) (by rintro _ s2 ⟨σ2,H2,ye,G2,nV,m2,q2⟩; exact⟨σ2,H2,ye,G2,nV,m1.trans m2,q2⟩)
theorem UL{i:Nat}{x:Str}{pos':Pos}(hN:X.N.Nodup)(hi:X.N[i]?=some x)(hx:Loc X.env.scope x)(he:ia X e te)(hs:Aq e (some (.Name x pos')) pos.line X.env=pure false:=by rfl)(hf:autoParam (X.fn x=true\/X.env.scope.names.lookup x=some .local) Ao._auto_1) :
  Gx X (.Assign [.Name x pos'] e pos) (bM te (aJ i)):=by
 intro E ZB s σ H τ G D hE I h;refine wpAny_Assign_Name (kU he hE I h fun y H1 d G1 v s1 I1 m1 r1 j6 q1=>?_) hs;exact wt I1.inv hN hi hx r1 (fun s2 nV=>⟨_,H1,_,G1,⟨nV,I1.st.set i j6,I1.ab⟩,m1,q1⟩) hf
theorem kg(he:ia X e te)(hs:Aq e none pos.line X.env=pure false:=by rfl):Gx X (.Expr e pos) (i0 te):=by
 intro E ZB s σ H τ G D hE I h;exact wpAny_Expr_any (kU he hE I h fun y H1 d G1 v s1 I1 m1 r1 j6 q1=>⟨σ,H1,τ,G1,I1,m1,q1⟩) I.inv.quiet hs
end
end K2
end
section
namespace K2
open PySem PySem.Spec PyProof.Rows L2
def Wd(K:ak)(J:It)(H':Hp)(ds:List D)(ok:Gp->Prop):Prop :=
 ∀ i H1 G1,Kp H' H1->mx K H1 G1->ok G1->(∀ d,ds[i]?=some d->J.go i H1/\∀ x H2,J.yld i H1 x H2->cM K H2 x d/\Mv K H1 G1 H2 G1)/\(ds.length<=i->J.stop i H1)
inductive LU (X:Cx) (ZB:List (Addr×Obj)) (σ:L2.St) (tg:Expr) (H:Hp) (G:Gp) (R:List D->(Gp->Prop)->Gp->Prop) (U5:Value) (s2:az):Prop
 | mk (it:Addr) (fp:List Addr) (tn:Nat->Heap->Prop) (J:It) (H':Hp) (G':Gp) (ds:List D) (ok:Gp->Prop) (e:U5=.ref it) (i:Inv X ZB σ H' s2) (m:Mv X.K H G H' G') (T:Turn X.prog X.w X.K tg J fp it tn) (t0:tn 0 s2.heap) (f:∀ b∈fp,o4 X ZB H' b)
  (wk:Wd X.K J H' ds ok) (q:R ds ok G'):LU X ZB σ tg H G R U5 s2
def Tg(X:Cx)(tg iter:Expr)(wi:Te):Prop :=
 ∀ (E:md) (ZB:List (Addr×Obj)) (s:az) (σ:L2.St) (H:Hp) (τ:iS) (G:Gp) (R:List D->(Gp->Prop)->Gp->Prop),Lk X E->I2 X ZB σ H τ G s->wi E τ G R ->
  wpAny (model X.prog X.w) X.A (eval iter X.env) (fun v s1=>wpAny (model X.prog X.w) X.A (CM v) (LU X ZB σ tg H G R) X.xe s1) X.xe s
section
variable {X:Cx} {tg:Expr} {a b:Expr} {ta tb:gN} {pos p:Pos}
theorem M4{ZB:List (Addr×Obj)}{σ:L2.St}{H H1:Hp}{G G1:Gp}{s1:az}{l:Addr}{vs:List V}{ds:List D}{ok:Gp->Prop}{R:List D->(Gp->Prop)->Gp->Prop}(I1:Inv X ZB σ H1 s1)(m:Mv X.K H G H1 G1)(hq:rW X.K H1 l vs)
  (hk:∀ H2 G2,Kp H1 H2->mx X.K H2 G2->ok G2->∃ ws,rW X.K H2 l ws/\bp X.K H2 ws ds) (q:R ds ok G1):wpAny (model X.prog X.w) X.A (CM (.ref l)) (LU X ZB σ tg H G R) X.xe s1:=by
 obtain⟨bH,rv,pl,hz⟩:=I1.list hq;refine JJ pl.isList ?_;refine⟨s1.heap.objs.size,[s1.heap.objs.size],_,_,H1,G1,ds,ok,rfl,I1.kept (t':=s1.toks) fun b o e=>aN _ e,m,N6 l _,⟨_,br _ rfl,rfl,rfl⟩,fun b hb=>?_,fun i H2 G2 k ab o=>?_,q⟩
 ·have e:b=s1.heap.objs.size:=by simpa using hb
  subst e;exact I1.Im (aK _) (I1.cB.fresh (aK _))
 ·obtain⟨ws,hw,rd⟩:=hk H2 G2 k ab o;refine⟨fun d hd=>?_,fun hl=>⟨ws,hw,by rw [rd.length]; exact hl⟩⟩;obtain⟨v,hv,r⟩:=rd.get hd;refine⟨⟨ws,v,hw,hv⟩,?_⟩;rintro x H3 ⟨e,y⟩;subst e;have:=y ws hw;rw [hv] at this;cases this;exact⟨r,.refl ab⟩
theorem Wt{ZB:List (Addr×Obj)}{σ:L2.St}{H H1:Hp}{G G1:Gp}{s1:az}{l:Addr}{vs:List V}{ds:List D}{R:List D->(Gp->Prop)->Gp->Prop}(I1:Inv X ZB σ H1 s1)(m:Mv X.K H G H1 G1)(hq:BM X.K H1 l vs)(rd:bp X.K H1 vs ds)
  (q:R ds (fun _=>True) G1):wpAny (model X.prog X.w) X.A (CM (.ref l)) (LU X ZB σ tg H G R) X.xe s1:=by
 obtain⟨bH,rv,pl,hz⟩:=I1.tuple hq;refine wpAny_pyIter_tuple (show s1.heap.IsTuple l bH.toArray from pl) ?_;refine⟨s1.heap.objs.size,[s1.heap.objs.size],_,_,H1,G1,ds,_,rfl,I1.kept (t':=s1.toks) fun b o e=>aN _ e,m,Ks l _,⟨_,br _ rfl,rfl,rfl⟩,fun b hb=>?_,fun i H2 G2 k ab _=>?_,q⟩
 ·have e:b=s1.heap.objs.size:=by simpa using hb
  subst e;exact I1.Im (aK _) (I1.cB.fresh (aK _))
 ·have hw:=k.sqT hq;have zV:=rd.mono k;refine⟨fun d hd=>?_,fun hl=>⟨vs,hw,by rw [rd.length]; exact hl⟩⟩;obtain⟨v,hv,r⟩:=zV.get hd;refine⟨⟨vs,v,hw,hv⟩,?_⟩;rintro x H3 ⟨e,y⟩;subst e;have:=y vs hw;rw [hv] at this;cases this;exact⟨r,.refl ab⟩
theorem fF(ha:ia X a ta):Tg X tg a (lZ ta):=by
 intro E ZB s σ H τ G R hE I h;refine kU ha hE I h fun x H1 d G1 v s1 I1 m1 r1 j6 q1=>?_;cases j6 with
 | tup hq rs=>cases r1; exact Wt I1.inv m1 (.of hq) rs q1
 | fx hq rs=>cases r1; exact M4 I1.inv m1 hq.sq (fun H2 G2 k ab _=>⟨_,(k.WH hq).sq,rs.mono k⟩) q1
 | ref p =>
  cases r1;dsimp only at q1;split at q1
  ·rename_i ds e;obtain⟨vs,hv,rs⟩:=I1.ab.lst e;refine M4 I1.inv m1 (.of hv) (fun H2 G2 k ab o=>?_) q1;obtain⟨ws,hw,vn⟩:=ab.lst o;exact⟨ws,.of hw,vn⟩
  ·exact q1.elim
 | pS _ _=>exact q1.elim
 | pR _ _=>exact q1.elim
 | dh=>exact q1.elim
 | bl _=>exact q1.elim
 | int _=>exact q1.elim
 | str _=>exact q1.elim
 | exc _=>exact q1.elim
theorem WR{ZB:List (Addr×Obj)}{σ:L2.St}{H H1:Hp}{G G1:Gp}{s:az}{R:List D->(Gp->Prop)->Gp->Prop}{lo hi:Int}{t u v:Tok}{tk:Nat}(I:Inv X ZB σ H1 s)(m:Mv X.K H G H1 G1)(h1:-(2 ^ 62)<=lo)(h2:lo < 2 ^ 62)(h3:-(2 ^ 62)<=hi)(h4:hi < 2 ^ 62)
  (q:R (dB lo (hi - lo).toNat) (fun _=>True) G1):wpAny (model X.prog X.w) X.A (CM (.ref s.heap.objs.size)) (LU X ZB σ tg H G R) X.xe { s with heap:=s.heap.push { cls:=.type "range",data:=.fields #[.int lo t,.int hi u,.int 1 v] },toks:=tk }:=by
 refine g6 (QU (tg:=tg) I h1 h2 h3 h4 (R:=fun J H'=>J=Itr lo (hi - lo).toNat/\H'=H1) ⟨rfl,rfl⟩) ?_;rintro U5 s2 ⟨it,fp,tn,J,H',e,nV,T,st,fo,eJ,eH⟩;subst eJ; subst eH;refine⟨it,fp,tn,_,H',G1,_,_,e,nV,m,T,st,fo,fun i H2 G2 k ab _=>⟨fun d hd=>?_,fun hl=>?_⟩,q⟩
 ·unfold dB at hd;rw [bu] at hd;cases B6:(aY (hi - lo).toNat)[i]? with
  | none=>rw [B6] at hd; cases hd
  | some j =>
   rw [B6] at hd;obtain⟨mj,ej⟩:=List.getElem?_eq_some_iff.mp B6;rw [cR] at mj;rw [mQ] at ej;subst ej;cases hd;refine⟨mj,?_⟩;rintro x H3 ⟨e1,e2⟩;subst e1; subst e2;exact⟨.int _,.refl ab⟩
 ·unfold dB at hl;rw [ag,cR] at hl;exact hl
theorem fZ (hg:Gl X "range") (hm:X.mg "range" = none) (ha:ia X a ta) (hs:bJ [a] X.env=[(false,eval a X.env)]:=by rfl):Tg X tg (.Call (.Name "range" p) [a] [] pos) (oH ta):=by
 intro E ZB s σ H τ G R hE I h;have hA:Gy X [a] (aB ta bc):=ao ha aL hs;refine Call_ (lY I.inv hg hm boot_range (dE (zF hA pos hE I (R:=fun ds G1=>match ds with | [.int n]=>-(2 ^ 62)<=n/\n < 2 ^ 62/\R (dB 0 n.toNat) (fun _=>True) G1 | _=>False) ?_ fun vs H1 ds G1 us s1 I1 m1 r1 j6 q1=>?_) hs rfl))
 ·show ta E τ G _;have e:(fun (x:D) (G1:Gp)=>match [x] with | [.int n]=>-(2 ^ 62)<=n/\n < 2 ^ 62/\R (dB 0 n.toNat) (fun _=>True) G1 | _=>False)=fun x G1=>match x with | .int n=>-(2 ^ 62)<=n/\n < 2 ^ 62/\R (dB 0 n.toNat) (fun _=>True) G1 | _=>False:=by
   funext x G1; cases x <;> rfl
  exact e ▸ h
 ·split at q1
  ·rename_i n;obtain⟨w,rfl,KL⟩:=j6.one;cases KL;obtain⟨u,rfl,ru⟩:=r1.one;obtain⟨t,rfl⟩:=ru;obtain⟨q1,q2,q⟩:=q1;exact call_range_1 (WR I1.inv m1 (by lia) (by lia) q1 q2 (by simpa using q))
  ·exact q1.elim
theorem ft{iter:Expr}{body:List Stmt}{wi:Te}{g:CD}{t:iC}(hp:PassesOwn (model X.prog X.w) X.A X.env X.xe)(hc:X.calm=true)(hi:Tg X tg iter wi)(hg:PZ X tg g)(hb:vT X body t)
  (hs:∀ x,lK iter X.env x=pure x:=by intro _; rfl):Gx X (.For tg iter body [] pos) (gB wi g t):=by
 intro E ZB s σ H τ G D hE I h;refine wpAny_For (g6 (hi E ZB s σ H τ G _ hE I h) fun v s1 h1=>g6 h1 fun U5 s2 h2=>?_) hs;obtain⟨it,fp,tn,J,H2,G2,ds,ok,e,nV,m2,T,PR,f2,wk,q⟩:=h2;subst e;have Kz:∀ {H':Hp},(∀ b∈fp,H' b=none)->∀ b∈fp,o4 X ZB H' b:=fun hn b hb=>⟨hn b hb,(f2 b hb).2⟩;refine codeAny_forLoop_any (fun n s'=>∃ i j5 H' nI G',I2 X ZB j5 H' nI G' s'/\Mv X.K H G H' G'/\Kp H2 H'/\tn i s'.heap/\(∀ b∈fp,H' b=none)/\n=ds.length - i/\i<=ds.length/\va g t ok (ds.drop i) E D nI G') ?_ ds.length
  ⟨0,σ,H2,τ,G2,I.mv nV m2,m2,.refl _,PR,fun b hb=>(f2 b hb).1,rfl,cP _,q⟩
 rintro n s3 ⟨i,GK,H3,Qj,G3,I3,m3,k3,st3,fr3,rfl,hle,w3⟩;by_cases mj:i < ds.length
 ·rw [gC mj] at w3;obtain⟨Yx,w3⟩:=w3;obtain⟨go,yl⟩:=(wk i H3 G3 k3 I3.ab Yx).1 ds[i] (by simp [mj]);refine fI hp (g6 (T.item X rfl rfl rfl hc i ZB s3 GK H3 X.xe I3.inv (Kz fr3) st3 go) ?_);rintro r s4 ⟨u,hr,h4⟩;subst hr;refine fI hp (g6 h4 ?_);rintro _ s5 ⟨x,H5,I5,r5,y5,WE,fr5⟩;obtain⟨rd5,m5⟩:=yl x H5 y5;have I5':=I5.pinned (Kz fr5) (T.obj _ _ WE);have J5:I2 X (ZB++oD fp s5.heap) GK H5 Qj G3 s5:=⟨I5',I3.st.mono (m5.kp I3.ab),m5.ab⟩;refine fI hp (g6 (hg E _ s5 GK H5 Qj G3 x ds[i] u _ hE J5 r5 rd5 w3) ?_);rintro _ s6 ⟨σ6,H6,τ6,G6,I6,m6,q6⟩;refine fI hp (g6 (hb E _ s6 σ6 H6 τ6 G6 _ hE I6 q6) fun f s7 q7=>?_);have again:∀ {PQ:L2.St} {H7:Hp} {PO:iS} {G7:Gp},I2 X (ZB++oD fp s5.heap) PQ H7 PO G7 s7->Mv X.K H6 G6 H7 G7->va g t ok (ds.drop (i+1)) E D PO G7 ->
    ∃ m,m < ds.length - i/\∃ i j5 H' nI G',I2 X ZB j5 H' nI G' s7/\Mv X.K H G H' G'/\Kp H2 H'/\tn i s7.heap/\(∀ b∈fp,H' b=none)/\m=ds.length - i/\i<=ds.length/\va g t ok (ds.drop i) E D nI G':=fun {PQ H7 PO G7} I7 m7 n7=>by
   have mm:=m5.trans (m6.trans m7);refine⟨ds.length - (i+1),by lia,i+1,PQ,H7,PO,G7,⟨I7.inv.sJ,I7.st,I7.ab⟩,m3.trans mm,k3.trans (mm.kp I3.ab),T.keep _ _ _ WE fun b hb o e=>(I7.inv.pin (b,o) (bA _ (bA _ (lX hb e)))).1,fun b hb=>?_,rfl,mj,n7⟩;obtain⟨o,e,d⟩:=T.obj _ _ WE b hb;exact(I7.inv.pin (b,o) (bA _ (bA _ (lX hb e)))).2.1
  cases f with
  | next=>obtain⟨PQ,H7,PO,G7,I7,m7,n7⟩:=q7; exact again I7 m7 n7
  | cont=>obtain⟨PQ,H7,PO,G7,I7,m7,n7⟩:=q7; exact again I7 m7 n7
  | brk=>obtain⟨PQ,H7,PO,G7,I7,m7,q7⟩:=q7; exact⟨PQ,H7,PO,G7,⟨I7.inv.sJ,I7.st,I7.ab⟩,m3.trans (m5.trans (m6.trans m7)),q7⟩
  | ret v=>obtain⟨x7,PQ,H7,d7,G7,I7,m7,r7,rd7,q7⟩:=q7; exact⟨x7,PQ,H7,d7,G7,I7.sJ,m3.trans (m5.trans (m6.trans m7)),r7,rd7,q7⟩
 ·have hn:ds.length<=i:=by lia
  rw [jV hn] at w3;obtain⟨Yx,qn⟩:=w3;have stop:=(wk i H3 G3 k3 I3.ab Yx).2 hn;refine fI hp (g6 (T.done X rfl rfl rfl hc i ZB s3 GK H3 X.xe I3.inv (Kz fr3) st3 stop) ?_);rintro r s4 ⟨hr,I4⟩;subst hr;exact jr ⟨GK,H3,Qj,G3,⟨I4,I3.st,I3.ab⟩,m3,qn⟩
theorem Oy{c:Expr}{body:List Stmt}{tc:zM}{t:iC}(hp:PassesOwn (model X.prog X.w) X.A X.env X.xe)(hc:Gw X c tc)(hb:vT X body t):Gx X (.While c body [] pos) (SO tc t):=by
 intro E ZB s σ H τ G D hE I h;obtain⟨n0,w0⟩:=h;refine wpAny_While (codeAny_whileLoop (fun n s'=>∃ j5 H' nI G',I2 X ZB j5 H' nI G' s'/\Mv X.K H G H' G'/\GS tc t n E D nI G') ?_ n0 ⟨σ,H,τ,G,I,.refl I.ab,w0⟩);rintro n s1 ⟨Yu,H1,qJ,G1,I1,m1,w1⟩;cases n with
 | zero=>exact w1.elim
 | succ n =>
  refine fI hp (Od hc hE I1 w1 fun b H2 G2 s2 nV m2 q2=>?_);cases b with
  | true =>
   rw [if_pos rfl] at q2 ⊢;refine fI hp (g6 (hb E ZB s2 Yu H2 qJ G2 _ hE nV q2) fun f s3 q3=>?_);cases f with
   | next=>obtain⟨GK,H3,Qj,G3,I3,m3,n3⟩:=q3; exact⟨n,GG _,GK,H3,Qj,G3,I3,m1.trans (m2.trans m3),n3⟩
   | cont=>obtain⟨GK,H3,Qj,G3,I3,m3,n3⟩:=q3; exact⟨n,GG _,GK,H3,Qj,G3,I3,m1.trans (m2.trans m3),n3⟩
   | brk=>exact q3.trans (m1.trans m2)
   | ret v=>exact q3.trans (m1.trans m2)
  | false =>
   rw [if_neg eV] at q2 ⊢;exact jr ⟨Yu,H2,qJ,G2,nV,m1.trans m2,q2⟩
end
end K2
end
section
namespace K2
open PySem PySem.Spec PyProof.Rows L2
theorem ED(n d:Nat)(o:Option Int):HT.kE n d o=kE n d o:=by cases o <;> rfl
theorem bp.cut{K:ak}{H:Hp}{vs:List V}{ds:List D}(r:bp K H vs ds)(lo hi:Option Int):bp K H (IV vs lo hi) (K2.cut ds lo hi):=by
 unfold IV K2.cut;rw [ED,ED,r.length];exact(r.drop _).take _
theorem bp.pL{K:ak}{H:Hp}{vs:List V}{ds:List D}{i:Int}{d:D}(r:bp K H vs ds)(h:K2.pL ds i=some d):∃ v,L2.pL vs i=some v/\cM K H v d:=by
 unfold K2.pL at h;cases e:K2.Fb ds.length i with
 | none=>rw [e] at h; cases h
 | some j =>
  rw [e] at h;obtain⟨v,h1,h2⟩:=r.get (show ds[j]?=some d from h);refine⟨v,?_,h2⟩;show (L2.Fb vs.length i).bind _=_;have e':L2.Fb vs.length i=some j:=by rw [r.length]; exact e
  rw [e'];exact h1
section
variable {X:Cx} {a b c e:Expr} {ta tb tc te:gN} {pos p2:Pos}
theorem oP{ZB:List (Addr×Obj)}{s:az}{σ:L2.St}{H:Hp}{G:Gp}{x:V}{d:D}{v:Value}{zs:List D}(I:Inv X ZB σ H s)(ab:mx X.K H G)(rx:RelV x v)(rd:cM X.K H x d)(hi:pD d G=some zs) :
  ∃ l vs bH,v=.ref l/\Vals vs bH/\bp X.K H vs zs/\s.heap.IsList l bH.toArray/\vs.length<=bx:=by
 cases rd with
 | fx hq rs =>
  cases hi;cases rx;obtain⟨bH,rv,pl,hz⟩:=I.list hq.sq;exact⟨_,_,bH,rfl,rv,rs,pl.isList,hz⟩
 | ref l =>
  unfold pD at hi;dsimp only at hi;cases hg:G l with
  | none=>rw [hg] at hi; cases hi
  | some gg =>
   rw [hg] at hi;cases gg with
   | lst ds =>
    cases hi;cases rx;obtain⟨vs,hv,rs⟩:=ab.lst hg;obtain⟨bH,rv,pl,hz⟩:=I.list (.of hv);exact⟨_,_,bH,rfl,rv,rs,pl.isList,hz⟩
   | jg _=>cases hi
 | _=>cases hi
theorem nY{ZB:List (Addr×Obj)}{s:az}{σ:L2.St}{H:Hp}(I:Inv X ZB σ H s){m:Str->Option Value}(F0:Fr X.base X.env.locals s.heap m){h':Heap}(F:Fr X.base X.env.locals h' m)(N:News X.base X.env.locals h' (rK X.base s.heap X.env.locals)) :
  (∀ b o,b≠X.env.locals->s.heap.get? b=some o->h'.get? b=some o)/\∀ m',s.heap.Ns X.env.locals m'->h'.Ns X.env.locals m':=by
 refine⟨fun b o hb e=>?_,fun m' hm=>?_⟩
 ·cases q:X.base.get? b with
  | some u =>
   have:=I.bk b u q;rw [e] at this; cases this;exact F.keep b _ q
  | none=>exact(N (b,o) (pB hb q e)).1
 ·have e1:=hm.eq_nsMap;have e2:=F0.ns.eq_nsMap;rw [e1,<-e2]; exact F.ns
theorem lV{P:bT}{w:World}{H:Hp}{h:Heap}{a:Addr}:∀ {o:HO},ij P w H h a o->∃ ob,h.get? a=some ob:=by
 intro o x;cases o with
 | lst _=>obtain⟨_,_,_,_,e⟩:=x; exact⟨_,e⟩
 | tup _=>obtain⟨_,_,_,ob,e,_⟩:=x; exact⟨ob,e⟩
 | dK _=>obtain⟨_,_,_,_,ob,_,_,e,_⟩:=x; exact⟨ob,e⟩
 | dT _=>obtain⟨_,_,_,_,ob,_,_,e,_⟩:=x; exact⟨ob,e⟩
 | set _ _=>obtain⟨ob,_,_,_,e,_⟩:=x; exact⟨ob,e⟩
 | ins _ _ _=>obtain⟨_,_,_,e,_⟩:=x; exact⟨_,e⟩
 | own _=>exact x
 | xd _=>obtain⟨_,⟨ob,_,_,e,_⟩,_⟩:=x; exact⟨ob,e⟩
 | met _ _=>exact⟨_,x⟩
 | Zm _ _=>obtain⟨_,_,_,e⟩:=x; exact⟨_,e⟩
 | lB _ _=>exact⟨_,x.1⟩
 | Us _=>exact⟨_,x⟩
 | ext _=>exact x.2.1
theorem Ai{P:bT}{w:World}{H:Hp}{h:Heap}{a:Addr}(ok:sf P w H h)(e:h.get? a=none):H a=none:=by
 cases q:H a with
 | none=>rfl
 | some o =>
  obtain⟨ob,z⟩:=lV (ok a o q);rw [e] at z; cases z
theorem Inv.M6{ZB:List (Addr×Obj)}{s:az}{σ:L2.St}{H:Hp}(I:Inv X ZB σ H s){h':Heap}{t':Nat}{a:Addr}{o:HO}(k:∀ b o,b≠X.env.locals->s.heap.get? b=some o->h'.get? b=some o)(ns:∀ m',s.heap.Ns X.env.locals m'->h'.Ns X.env.locals m')
  (hp:s.heap.get? a=none) (new:ij X.prog X.w (upd H a o) h' a o):Inv X ZB σ (upd H a o) { s with heap:=h',toks:=t' }:=by
 have hn:H a=none:=Ai I.cB hp;have ne:∀ b u,H b=some u->b≠a:=fun b u e=>fJ e hn;have nL:∀ b u,H b=some u->b≠X.env.locals:=fun b u e=>fJ e I.free;have ht:∀ b u,s.heap.get? b=some u->b≠a:=fun b u e z=>by subst z; rw [hp] at e; cases e
 have thL:∃ o',h'.get? X.env.locals=some o':=by
  obtain⟨m,hm,_⟩:=I.loc;obtain⟨o',_,_,ho,_⟩:=ns m hm;exact⟨o',ho⟩
 refine I.step (g':=s.gens) (d':=s.drawn) (ch:=[]) (fun b hb=>absurd hb (by simp)) (fun b o hL _ _ e _=>k b o hL e) (fun b o hL _ _ e _=>⟨o.slots,k b o hL e⟩) (fun b o _ e n=>by rw [bR (ht b o e)]; exact n)
  (fun b o _ e=>?_) (fun b xs e=>by rw [bR (ne _ _ e)]; exact e) (fun b o u e=>by rw [bR (ne _ _ e)]; exact e) (fun b ps e=>⟨#[],by rw [bR (ne _ _ e),e]; simp⟩) ns (fun b u e=>?_) I.bare
 ·by_cases hb:b=X.env.locals
  ·rw [hb]; exact thL
  ·exact⟨o,k b o hb e⟩
 ·by_cases hb:b=a
  ·subst hb; rw [cV] at e; cases e; exact new
  ·rw [bR hb] at e;refine(I.cB b u e).kb (fun c v hc r=>k c v ?_ r) (fun c z=>by rw [bR (ne _ _ z)]; exact z) (fun c xs z=>by rw [bR (ne _ _ z)]; exact z);rcases hc with rfl | hc
   ·exact nL _ _ e
   ·exact nL _ _ hc
theorem lr:o3 X (lL .Add) se:=by
 intro ZB s σ H G x y dx dy v u Q I ab rx ry dX dY q;have lists:LS dx dy G Q->wpAny (model X.prog X.w) X.A (lL .Add v u) (sr X ZB σ H G Q) X.xe s:=by
  intro q;unfold LS at q;split at q
  ·rename_i xs ys e1 e2;obtain⟨hz,q⟩:=q;obtain⟨l,vs,bH,rfl,rv,rs,hl,_⟩:=oP I ab rx dX e1;obtain⟨b,ws,yy,rfl,QG,TB,hb,_⟩:=oP I ab ry dY e2;obtain⟨m,F0⟩:=I.fr;have hsz:bH.length+yy.length<=bx:=by rw [<-rv.length,<-QG.length,rs.length,TB.length,cC]; exact hz
   refine PyProof.Rows.add_lists F0 A9 hl hb (fun h' F N=>?_) hsz;obtain⟨kk,ns⟩:=nY I F0 F fun p hp=>N p (ax _ hp);have hp:H s.heap.objs.size=none:=I.cB.fresh (aK _);refine⟨.ref s.heap.objs.size,upd H s.heap.objs.size (.lst (vs++ws)),.ref _,_,Inv.M6 (t':=s.toks) I kk ns (Ug (aK _)) ?_,.Ba ab hp (rs.append TB),rfl,.ref _,q _ (ab.free hp)⟩;exact⟨by rw [aw,rv.length,QG.length]; exact hsz,bH++yy,0,rv.append QG,(N _ aA).1⟩
  ·exact q.elim
 cases dX with
 | int i =>
  cases dY with
  | int j=>exact g6 (Xd ZB s σ H _ _ v u (CH X.K H G Q) I rx ry ⟨i,j,rfl,rfl,_,_,.refl ab,.int _,q⟩) fun _ _ z=>.of z
  | _=>exact lists q
 | str i =>
  cases dY with
  | str j =>
   obtain⟨hz,q⟩:=q;exact g6 (KW ZB s σ H _ _ v u (CH X.K H G Q) I rx ry ⟨i,j,rfl,rfl,by rw [cC]; exact hz,_,_,.refl ab,.str _,q⟩) fun _ _ z=>.of z
  | _=>exact lists q
 | tup h1 r1 =>
  cases dY with
  | tup h2 r2 =>
   obtain⟨hn,hz,q⟩:=q;refine g6 (UW ZB s σ H _ _ v u (CH X.K H G Q) I rx ry ⟨_,_,_,_,rfl,rfl,.of h1,.of h2,?_,?_,fun e=>?_,fun e p hp=>?_⟩) fun _ _ z=>.of z
   ·rintro rfl; cases r1; exact hn rfl
   ·rw [r1.length,r2.length,cC]; exact hz
   ·subst e;cases r2;rw [bL] at q;exact⟨_,_,.refl ab,.tup h1 r1,q⟩
   ·exact⟨_,_,.O0 ab hp,.tup cV ((r1.append r2).mono (.new hp)),q⟩
  | _=>exact lists q
 | ref l=>exact lists (by rw [wU] at q; exact q)
 | fx _ _=>exact lists (by rw [sZ] at q; exact q)
 | _=>exact lists (by cases dY <;> exact q)
theorem jO:o3 X (lL .Sub) vo:=by
 intro ZB s σ H G x y dx dy v u Q I ab rx ry dX dY q;cases dX with
 | int i =>
  cases dY with
  | int j=>exact g6 (W8 ZB s σ H _ _ v u (CH X.K H G Q) I rx ry ⟨i,j,rfl,rfl,_,_,.refl ab,.int _,q⟩) fun _ _ z=>.of z
  | _=>exact bY q
 | _=>exact bY q
theorem lq:o3 X (lL .Mult) wQ:=by
 intro ZB s σ H G x y dx dy v u Q I ab rx ry dX dY q;cases dX with
 | int i =>
  cases dY with
  | int j=>exact g6 (W9 ZB s σ H _ _ v u (CH X.K H G Q) I rx ry ⟨i,j,rfl,rfl,q.1,_,_,.refl ab,.int _,q.2⟩) fun _ _ z=>.of z
  | _=>exact bY q
 | _=>exact bY q
theorem gi:o3 X (lL .Mod) mW:=by
 intro ZB s σ H G x y dx dy v u Q I ab rx ry dX dY q;cases dX with
 | int i =>
  cases dY with
  | int j=>exact g6 (Xa ZB s σ H _ _ v u (CH X.K H G Q) I rx ry ⟨i,j,rfl,rfl,q.1,_,_,.refl ab,.int _,q.2⟩) fun _ _ z=>.of z
  | _=>exact bY q
 | _=>exact bY q
theorem oE:o3 X (lL .FloorDiv) u3:=by
 intro ZB s σ H G x y dx dy v u Q I ab rx ry dX dY q;cases dX with
 | int i =>
  cases dY with
  | int j=>exact g6 (UU ZB s σ H _ _ v u (CH X.K H G Q) I rx ry ⟨i,j,rfl,rfl,⟨q.1,q.2.1⟩,_,_,.refl ab,.int _,q.2.2⟩) fun _ _ z=>.of z
  | _=>exact bY q
 | _=>exact bY q
theorem Rg(hu:X.A.units < cLine):o3 X (eO .Lt) Zq:=by
 intro ZB s σ H G x y dx dy v u Q I ab rx ry dX dY q;cases dX with
 | int i =>
  cases dY with
  | int j=>exact g6 (Zy ZB s σ H _ _ v u (CH X.K H G Q) I rx ry ⟨i,j,rfl,rfl,_,_,.refl ab,.bl _,q⟩) fun _ _ z=>.of z
  | _=>exact bY q
 | tup h1 r1 =>
  cases dY with
  | tup h2 r2 =>
   obtain⟨xs,ys,e1,e2,q⟩:=q;subst e1 e2;have z1:=r1.ints;have z2:=r2.ints;subst z1 z2;have el:∀ xs ys:List Int,HT.lexLt xs ys=K2.lexLt xs ys:=by
    intro xs;induction xs with
    | nil=>intro ys; cases ys <;> rfl
    | cons x xs ih=>intro ys; cases ys with
     | nil=>rfl
     | cons y ys=>unfold HT.lexLt K2.lexLt; rw [ih]
   exact g6 (Xb hu ZB s σ H _ _ v u (CH X.K H G Q) I rx ry ⟨_,_,xs,ys,rfl,rfl,.of h1,.of h2,_,_,.refl ab,.bl _,by rw [el]; exact q⟩) fun _ _ z=>.of z
  | _=>exact bY q
 | _=>exact bY q
theorem Xf:o3 X (eO .LtE) rLe:=by
 intro ZB s σ H G x y dx dy v u Q I ab rx ry dX dY q;cases dX with
 | int i =>
  cases dY with
  | int j=>exact g6 (Zz ZB s σ H _ _ v u (CH X.K H G Q) I rx ry ⟨i,j,rfl,rfl,_,_,.refl ab,.bl _,q⟩) fun _ _ z=>.of z
  | _=>exact bY q
 | _=>exact bY q
theorem EW:o3 X (eO .Gt) Yw:=by
 intro ZB s σ H G x y dx dy v u Q I ab rx ry dX dY q;cases dX with
 | int i =>
  cases dY with
  | int j=>exact g6 (ZA ZB s σ H _ _ v u (CH X.K H G Q) I rx ry ⟨i,j,rfl,rfl,_,_,.refl ab,.bl _,q⟩) fun _ _ z=>.of z
  | _=>exact bY q
 | _=>exact bY q
mutual
def pd:D->PyData
 | .dh=>.none
 | .bl b=>.bool b
 | .int i=>.int i
 | .str x=>.str x
 | .tup ds=>.tuple (nC ds)
 | .fx ds=>.list (nC ds)
 | .lI _=>.none
 | .exc _=>.none
 | .ref _=>.none
def nC:List D->List PyData
 | []=>[]
 | d :: r=>pd d :: nC r
end
mutual
theorem vJ:∀ (s t:D),nr s=true->nr t=true->v9 (pd s) (pd t)=jf s t
 | .dh,t,_,ht=>by cases t <;> first | rfl | (exact bB (show false=true from ht))
 | .bl a,t,_,ht=>by cases t <;> first | rfl | (exact bB (show false=true from ht))
 | .int a,t,_,ht=>by cases t <;> first | rfl | (exact bB (show false=true from ht))
 | .str a,t,_,ht=>by cases t <;> first | rfl | (exact bB (show false=true from ht))
 | .tup a,t,hs,ht=>by
  cases t with
  | tup b=>exact Fy a b hs ht
  | ref _=>exact bB (show false=true from ht)
  | exc _=>exact bB (show false=true from ht)
  | lI _=>exact bB (show false=true from ht)
  | _=>rfl
 | .fx a,t,hs,ht=>by
  cases t with
  | fx b=>exact Fy a b hs ht
  | ref _=>exact bB (show false=true from ht)
  | exc _=>exact bB (show false=true from ht)
  | lI _=>exact bB (show false=true from ht)
  | _=>rfl
 | .ref _,_,hs,_=>bB (show false=true from hs)
 | .exc _,_,hs,_=>bB (show false=true from hs)
 | .lI _,_,hs,_=>bB (show false=true from hs)
theorem Fy:∀ (s t:List D),rQ s=true->rQ t=true->PyData.eqvAll (nC s) (nC t)=mF s t
 | [],[],_,_=>rfl
 | [],_ :: _,_,_=>rfl
 | _ :: _,[],_,_=>rfl
 | a :: r,b :: t,hs,ht=>by
  have Bs:nr a=true/\rQ r=true:=(kY).mp hs;have Z3:nr b=true/\rQ t=true:=(kY).mp ht;show (v9 (pd a) (pd b)&&PyData.eqvAll (nC r) (nC t))=(jf a b&&mF r t);rw [vJ a b Bs.1 Z3.1,Fy r t Bs.2 Z3.2]
end
mutual
theorem lu:∀ (s:D),nr s=true->(pd s).canLay0=true
 | .dh,_=>rfl
 | .bl a,_=>rfl
 | .int a,_=>rfl
 | .str a,h=>h
 | .tup a,h=>w8 a h
 | .fx a,h=>w8 a h
 | .exc _,_=>rfl
 | .ref _,_=>rfl
 | .lI _,_=>rfl
theorem w8:∀ (s:List D),rQ s=true->PyData.canLayAll0 (nC s)=true
 | [],_=>rfl
 | a :: r,h=>by
  have h':nr a=true/\rQ r=true:=(kY).mp h;show ((pd a).canLay0&&PyData.canLayAll0 (nC r))=true;rw [lu a h'.1,w8 r h'.2]; rfl
end
theorem yK{G:Gp}{n:Nat}{d t:D}(h:Sn G n d t):(pd t).depth<=n:=by
 induction h with
 | dh=>exact cP _
 | bl b=>exact cP _
 | int i=>exact cP _
 | str x h=>exact cP _
 | Er=>exact vX (cP _)
 | om _ _ RO RN =>
  exact vX (Nat.max_le.mpr ⟨RO,wb RN⟩)
 | EG=>exact vX (cP _)
 | zh _ _ RO RN =>
  exact vX (Nat.max_le.mpr ⟨RO,wb RN⟩)
 | ref _ _ ih=>exact ih
theorem h8{ZB:List (Addr×Obj)}{σ:L2.St}{H:Hp}{s:az}{G:Gp}(I:Inv X ZB σ H s)(ab:mx X.K H G){n:Nat}{d t:D}(h:Sn G n d t) :
  (∀ v u,cM X.K H v d->RelV v u->∃ as,Reads s.heap u (pd t) as) /\
  (∀ ds ss,(d=.fx ds/\t=.fx ss)\/(d=.tup ds/\t=.tup ss)->∀ vs us,bp X.K H vs ds->Vals vs us->∃ as,iB s.heap us (nC ss) as):=by
 have VL:∀ {ds ss:List D},(∀ vs us,bp X.K H vs ds->Vals vs us->∃ as,iB s.heap us (nC ss) as)->∀ v u,cM X.K H v (.tup ds)->RelV v u->∃ as,Reads s.heap u (pd (.tup ss)) as:=by
  intro ds ss k v u r ru;cases r with
  | tup hq rs =>
   cases ru;obtain⟨bH,rv,⟨o,ho,hc,n,hd⟩,hz⟩:=I.tuple (.of hq);obtain⟨as,ra⟩:=k _ bH rs rv;exact⟨as,.tuple ho hc hd (by simpa using ra)⟩
 have VN:∀ {ds ss:List D},(∀ vs us,bp X.K H vs ds->Vals vs us->∃ as,iB s.heap us (nC ss) as)->∀ v u,cM X.K H v (.fx ds)->RelV v u->∃ as,Reads s.heap u (pd (.fx ss)) as:=by
  intro ds ss k v u r ru;cases r with
  | fx hq rs =>
   cases ru;obtain⟨bH,rv,pl,hz⟩:=I.list hq.sq;obtain⟨o,ho,hc,n,hd⟩:=pl.isList;obtain⟨as,ra⟩:=k _ bH rs rv;exact⟨_,.list ho hc hd (by simpa using ra)⟩
 induction h with
 | dh=>exact⟨fun v u r ru=>by cases r; cases ru; exact⟨_,.none⟩,fun ds ss e=>by rcases e with ⟨e,_⟩ | ⟨e,_⟩ <;> cases e⟩
 | bl b=>exact⟨fun v u r ru=>by cases r; cases ru; exact⟨_,.bool b⟩,fun ds ss e=>by rcases e with ⟨e,_⟩ | ⟨e,_⟩ <;> cases e⟩
 | int i=>exact⟨fun v u r ru=>by cases r; obtain⟨t,rfl⟩:=ru; exact⟨_,.int i t⟩,fun ds ss e=>by rcases e with ⟨e,_⟩ | ⟨e,_⟩ <;> cases e⟩
 | str x hx=>exact⟨fun v u r ru=>by cases r; obtain⟨t,rfl⟩:=ru; exact⟨_,.str x t⟩,fun ds ss e=>by rcases e with ⟨e,_⟩ | ⟨e,_⟩ <;> cases e⟩
 | Er =>
  have k:∀ vs us,bp X.K H vs []->Vals vs us->∃ as,iB s.heap us (nC []) as:=fun vs us r ru=>by
   have e:=r.zero;subst e;cases ru;exact⟨_,.nil⟩
  refine⟨VL k,fun ds ss e=>?_⟩;rcases e with ⟨e,_⟩ | ⟨e,e2⟩
  ·cases e
  ·cases e; cases e2; exact k
 | om h1 h2 RO RN =>
  have k2:=RN.2 _ _ (.inr ⟨rfl,rfl⟩);have k:∀ vs us,bp X.K H vs (_ :: _)->Vals vs us->∃ as,iB s.heap us (nC (_ :: _)) as:=fun vs us r ru=>by
   cases r with
   | cons r1 r2 =>
    cases ru with
    | cons u1 u2 =>
     obtain⟨as,ra⟩:=RO.1 _ _ r1 u1;obtain⟨bs,rb⟩:=k2 _ _ r2 u2;exact⟨_,.cons ra rb⟩
  refine⟨VL k,fun ds ss e=>?_⟩;rcases e with ⟨e,_⟩ | ⟨e,e2⟩
  ·cases e
  ·cases e; cases e2; exact k
 | EG =>
  have k:∀ vs us,bp X.K H vs []->Vals vs us->∃ as,iB s.heap us (nC []) as:=fun vs us r ru=>by
   have e:=r.zero;subst e;cases ru;exact⟨_,.nil⟩
  refine⟨VN k,fun ds ss e=>?_⟩;rcases e with ⟨e,e2⟩ | ⟨e,_⟩
  ·cases e; cases e2; exact k
  ·cases e
 | zh h1 h2 RO RN =>
  have k2:=RN.2 _ _ (.inl ⟨rfl,rfl⟩);have k:∀ vs us,bp X.K H vs (_ :: _)->Vals vs us->∃ as,iB s.heap us (nC (_ :: _)) as:=fun vs us r ru=>by
   cases r with
   | cons r1 r2 =>
    cases ru with
    | cons u1 u2 =>
     obtain⟨as,ra⟩:=RO.1 _ _ r1 u1;obtain⟨bs,rb⟩:=k2 _ _ r2 u2;exact⟨_,.cons ra rb⟩
  refine⟨VN k,fun ds ss e=>?_⟩;rcases e with ⟨e,e2⟩ | ⟨e,_⟩
  ·cases e; cases e2; exact k
  ·cases e
 | ref hg h1 ih =>
  refine⟨fun v u r ru=>?_,fun ds ss e=>by rcases e with ⟨e,_⟩ | ⟨e,_⟩ <;> cases e⟩;cases r;cases ru;obtain⟨vs,hv,rs⟩:=ab.lst hg;obtain⟨bH,rv,pl,hz⟩:=I.list (.of hv);obtain⟨o,ho,hc,n,hd⟩:=pl.isList;obtain⟨as,ra⟩:=ih.2 _ _ (.inl ⟨rfl,rfl⟩) vs bH rs rv;exact⟨_,.list ho hc hd (by simpa using ra)⟩
theorem mX(hu:X.A.units+64 < cLine):o3 X (eO .Eq) (A1 false):=by
 intro ZB s σ H G x y dx dy v u Q I ab rx ry dX dY q;obtain⟨a,b,sa,sb,q⟩:=q;obtain⟨as,ra⟩:=(h8 I ab sa).1 x v dX rx;obtain⟨bs,rb⟩:=(h8 I ab sb).1 y u dY ry;have d1:=yK sa;refine SeqAt.compareEq_reads ra rb (lu _ sa.nr) (lu _ sb.nr) (by unfold SN at d1; lia) ?_;rw [vJ _ _ sa.nr sb.nr];exact⟨.bl _,H,.bl _,G,I,.refl ab,rfl,.bl _,q⟩
theorem yp(hu:X.A.units+64 < cLine):o3 X (eO .NotEq) (A1 true):=by
 intro ZB s σ H G x y dx dy v u Q I ab rx ry dX dY q;obtain⟨a,b,sa,sb,q⟩:=q;obtain⟨as,ra⟩:=(h8 I ab sa).1 x v dX rx;obtain⟨bs,rb⟩:=(h8 I ab sb).1 y u dY ry;have d1:=yK sa;refine SeqAt.compareNe_reads ra rb (lu _ sa.nr) (lu _ sb.nr) (by unfold SN at d1; lia) ?_;rw [vJ _ _ sa.nr sb.nr];exact⟨.bl _,H,.bl _,G,I,.refl ab,rfl,.bl _,q⟩
end
end K2
end
section
namespace K2
open PySem PySem.Spec PyProof.Rows L2
theorem xq(j k:Key):jf (eZ j) (eZ k)=decide (j=k):=by
 cases j with
 | inl a=>cases k with
  | inl b=>rw [RF]; rfl
  | inr b=>exact(decide_eq_false (fun z=>nomatch z)).symm
 | inr a=>cases k with
  | inl b=>exact(decide_eq_false (fun z=>nomatch z)).symm
  | inr b=>rw [RE]; exact(Tw a b)
theorem DG:∀ (js ks:List Key),mF (js.map eZ) (ks.map eZ)=decide (js=ks)
 | [],[]=>(decide_eq_true rfl).symm
 | [],_ :: _=>(decide_eq_false (fun z=>nomatch z)).symm
 | _ :: _,[]=>(decide_eq_false (fun z=>nomatch z)).symm
 | j :: js,k :: ks=>by
  show (jf (eZ j) (eZ k)&&mF (js.map eZ) (ks.map eZ))=_;rw [xq,DG js ks,IK]
theorem qu(js ks:List Key):jf (.tup (js.map eZ)) (.tup (ks.map eZ))=decide (js=ks):=by
 exact DG js ks
section
variable {K:ak} {H:Hp}
theorem E8{d:D}(h:gb d=true):∃ k:Key,d=eZ k:=by
 cases d with
 | int i=>exact⟨.inl i,rfl⟩
 | str x=>exact⟨.inr x,rfl⟩
 | _=>exact absurd h (by simp [gb])
theorem M7:∀ {ds:List D},ds.all gb=true->∃ ks:List Key,ds=ks.map eZ
 | [],_=>⟨[],rfl⟩
 | d :: r,h=>by
  rw [p7,aQ] at h;obtain⟨k,rfl⟩:=E8 h.1;obtain⟨ks,rfl⟩:=M7 h.2;exact⟨k :: ks,rfl⟩
theorem M8{d:D}(h:mY d=true):∃ ks:List Key,d=.tup (ks.map eZ):=by
 cases d with
 | tup ds=>obtain⟨ks,rfl⟩:=M7 (ds:=ds) h; exact⟨ks,rfl⟩
 | _=>exact absurd h (by simp [mY])
theorem EI{v:V}{k:Key}(r:cM K H v (eZ k)):v=kV k:=by
 cases k with
 | inl i=>cases r; rfl
 | inr x=>cases r; rfl
theorem Hm:∀ {vs:List V} {ks:List Key},bp K H vs (ks.map eZ)->vs=ks.map kV
 | _,[],r=>r.zero
 | _,k :: ks,r=>by
  rw [av] at r;cases r with
  | cons r1 r2=>rw [EI r1,Hm r2]; rfl
theorem wH{v:V}{ks:List Key}(r:cM K H v (.tup (ks.map eZ))):∃ b,v=.ref b/\H b=some (.tup (ks.map kV)):=by
 cases r with
 | tup h rs=>have e:=Hm rs; subst e; exact⟨_,rfl,h⟩
theorem pM.look{kv:List (Key×V)}{WP:List (D×D)}(r:pM K H kv WP)(k:Key):(∃ v d,nJ kv k=some v/\K2.look WP (eZ k)=some d/\cM K H v d)\/(nJ kv k=none/\K2.look WP (eZ k)=none):=by
 induction r using pM.ind with
 | nil=>exact .inr ⟨rfl,rfl⟩
 | @cons j v d r t rd rs ih =>
  by_cases e:j=k
  ·left;refine⟨v,d,sH (p:=(j,v)) e,?_,rd⟩;unfold K2.look;rw [vZ (by show jf (eZ j) (eZ k)=true; rw [xq]; exact decide_eq_true e)]; rfl
  ·have e1:nJ ((j,v) :: r) k=nJ r k:=sI (p:=(j,v)) e;have e2:K2.look ((eZ j,d) :: t) (eZ k)=K2.look t (eZ k):=by
    unfold K2.look;rw [Qe (by show ¬ jf (eZ j) (eZ k)=true; rw [xq]; simpa using e)]
   rw [e1,e2];exact ih
theorem mS.look{kv:List (List Key×V)}{WP:List (D×D)}(r:mS K H kv WP)(k:List Key):(∃ v d,nJ kv k=some v/\K2.look WP (.tup (k.map eZ))=some d/\cM K H v d)\/(nJ kv k=none/\K2.look WP (.tup (k.map eZ))=none):=by
 induction r using mS.ind with
 | nil=>exact .inr ⟨rfl,rfl⟩
 | @cons j v d r t rd rs ih =>
  by_cases e:j=k
  ·left;refine⟨v,d,sH (p:=(j,v)) e,?_,rd⟩;unfold K2.look;rw [vZ (by show jf (.tup (j.map eZ)) (.tup (k.map eZ))=true; rw [qu]; exact decide_eq_true e)]; rfl
  ·have e1:nJ ((j,v) :: r) k=nJ r k:=sI (p:=(j,v)) e;have e2:K2.look ((.tup (j.map eZ),d) :: t) (.tup (k.map eZ))=K2.look t (.tup (k.map eZ)):=by
    unfold K2.look;rw [Qe (by show ¬ jf (.tup (j.map eZ)) (.tup (k.map eZ))=true; rw [qu]; simpa using e)]
   rw [e1,e2];exact ih
theorem pM.any{kv:List (Key×V)}{WP:List (D×D)}(r:pM K H kv WP)(k:Key):(kv.any fun p=>decide (p.1=k))=WP.any fun p=>jf p.1 (eZ k):=by
 induction r using pM.ind with
 | nil=>rfl
 | @cons j v d r t rd rs ih=>simp only [kL]; rw [ih,xq]
theorem mS.any{kv:List (List Key×V)}{WP:List (D×D)}(r:mS K H kv WP)(k:List Key):(kv.any fun p=>decide (p.1=k))=WP.any fun p=>jf p.1 (.tup (k.map eZ)):=by
 induction r using mS.ind with
 | nil=>rfl
 | @cons j v d r t rd rs ih=>simp only [kL]; rw [ih,qu]
theorem pM.put{kv:List (Key×V)}{WP:List (D×D)}(r:pM K H kv WP)(k:Key){v:V}{d:D}(rd:cM K H v d):pM K H (putK kv k v) (K2.put WP (eZ k) d):=by
 unfold putK K2.put;rw [r.any k];by_cases h:(WP.any fun p=>jf p.1 (eZ k))=true
 ·rw [if_pos h,if_pos h];clear h;induction r using pM.ind with
  | nil=>exact .nil
  | @cons j w e r t re rs ih =>
   simp only [av];rw [xq];by_cases e:j=k
   ·simp only [e,if_true,decide_true]; exact .cons rd ih
   ·simp only [e,if_false,decide_false,aC]; exact .cons re ih
 ·rw [if_neg h,if_neg h];clear h;induction r using pM.ind with
  | nil=>exact .cons rd .nil
  | cons re rs ih=>exact .cons re ih
theorem mS.put{kv:List (List Key×V)}{WP:List (D×D)}(r:mS K H kv WP)(k:List Key){v:V}{d:D}(rd:cM K H v d):mS K H (putK kv k v) (K2.put WP (.tup (k.map eZ)) d):=by
 unfold putK K2.put;rw [r.any k];by_cases h:(WP.any fun p=>jf p.1 (.tup (k.map eZ)))=true
 ·rw [if_pos h,if_pos h];clear h;induction r using mS.ind with
  | nil=>exact .nil
  | @cons j w e r t re rs ih =>
   simp only [av];rw [qu];by_cases e:j=k
   ·simp only [e,if_true,decide_true]; exact .cons rd ih
   ·simp only [e,if_false,decide_false,aC]; exact .cons re ih
 ·rw [if_neg h,if_neg h];clear h;induction r using mS.ind with
  | nil=>exact .cons rd .nil
  | cons re rs ih=>exact .cons re ih
end
theorem Kp.putD{H:Hp}{p:Addr}{o o':HO}(hp:H p=some o)(h:(∃ k,o=.dK k)\/∃ k,o=.dT k):Kp H (upd H p o') :=
 ⟨fun a ys e=>by rw [bR (by rintro rfl; rw [hp] at e; rcases h with ⟨_,rfl⟩ | ⟨_,rfl⟩ <;> cases e)]; exact e,fun a ob u e=>by rw [bR (by rintro rfl; rw [hp] at e; rcases h with ⟨_,rfl⟩ | ⟨_,rfl⟩ <;> cases e)]; exact e⟩
section
variable {X:Cx} {ZB:List (Addr×Obj)} {σ:L2.St} {H:Hp} {s:az} {G:Gp} {a:Addr} {WP:List (D×D)} {k:D} {y:V}
theorem toT(I:Inv X ZB σ H s)(e:H a=some (.dK [])):Inv X ZB σ (upd H a (.dT [])) s:=by
 obtain⟨z,hd,vs,rel,dd⟩:=Nz I.cB e;have hv:vs=[]:=by cases rel; rfl
 subst hv;obtain⟨o,es,ep,ho,hx,Ag,hko,hl,nd⟩:=dd;have he:es=#[]:=by
  cases hq:es.toList with
  | nil=>simpa using hq
  | cons _ _=>rw [hq] at hl; cases hl
 subst he;exact I.write (h':=s.heap) (t':=s.toks) (x:=a) (e:=a) (by rw [e]; exact i4) (.inl rfl) (fun b u _ q=>q) ⟨o,ho⟩ ⟨cP _,hd,[],.nil,o,#[],ep,ho,hx,Ag,rfl,df⟩
theorem toK(I:Inv X ZB σ H s)(e:H a=some (.dT [])):Inv X ZB σ (upd H a (.dK [])) s:=by
 obtain⟨z,hd,xs,rel,o,es,ep,ho,hx,Ag,hl,nd⟩:=I.cB a _ e;have hv:xs=[]:=by cases rel; rfl
 subst hv;have he:es=#[]:=by simpa using hl
 subst he;exact I.write (h':=s.heap) (t':=s.toks) (x:=a) (e:=a) (by rw [e]; exact i4) (.inl rfl) (fun b u _ q=>q) ⟨o,ho⟩ ⟨cP _,hd,[],.nil,o,#[],ep,ho,hx,Ag,(fun _ h=>by simp at h),.nil,df⟩
theorem E3{o:HO}(ab:mx X.K H G)(hg:G a=some (.jg WP))(k:Kp H (upd H a o))(ho:PF X.K (upd H a o) a (.jg WP)):Mv X.K H G (upd H a o) G:=by
 have m:=Mv.put ab hg k ho;have e:fG G a (.jg WP)=G:=by
  funext b; unfold fG; split
  ·rename_i z; rw [z,hg]
  ·rfl
 rw [e] at m;exact m
theorem NA(I:Inv X ZB σ H s)(ab:mx X.K H G)(hg:G a=some (.jg WP))(hk:jD WP k=true)(ry:cM X.K H y k) :
  ∃ H',Inv X ZB σ H' s/\Mv X.K H G H' G/\((∃ (kv:List (Key×V)) (kk:Key),H' a=some (.dK kv)/\pM X.K H' kv WP/\k=eZ kk/\y=kV kk)\/∃ (kv:List (List Key×V)) (kk:List Key) (b:Addr),H' a=some (.dT kv)/\mS X.K H' kv WP/\k=.tup (kk.map eZ)/\y=.ref b/\H' b=some (.tup (kk.map kV))):=by
 unfold jD at hk;rw [qF,aQ,aQ] at hk;rcases hk with ⟨h1,h2⟩ | ⟨h1,h2⟩
 ·obtain⟨kk,rfl⟩:=E8 h1;have ey:=EI ry;subst ey;rcases ab a _ hg with ⟨kv,hv,rs⟩ | ⟨kv,hv,rs⟩
  ·exact⟨H,I,.refl ab,.inl ⟨kv,kk,hv,rs,rfl,rfl⟩⟩
  ·cases rs with
   | nil =>
    refine⟨_,toK I hv,E3 ab hg (.putD hv (.inr ⟨_,rfl⟩)) (.inl ⟨[],cV,.nil⟩),.inl ⟨[],kk,cV,.nil,rfl,rfl⟩⟩
   | cons _ _=>simp [gb] at h2
 ·obtain⟨kk,rfl⟩:=M8 h1;obtain⟨b,rfl,hb⟩:=wH ry;rcases ab a _ hg with ⟨kv,hv,rs⟩ | ⟨kv,hv,rs⟩
  ·cases rs with
   | nil =>
    have kp:Kp H (upd H a (.dT [])):=.putD hv (.inl ⟨_,rfl⟩);exact⟨_,toT I hv,E3 ab hg kp (.inr ⟨[],cV,.nil⟩),.inr ⟨[],kk,b,cV,.nil,rfl,rfl,kp.tup _ _ hb⟩⟩
   | @cons j _ _ _ _ _ _=>cases j <;> simp [eZ,mY] at h2
  ·exact⟨H,I,.refl ab,.inr ⟨kv,kk,b,hv,rs,rfl,rfl,hb⟩⟩
theorem II(I:Inv X ZB σ H s)(ab:mx X.K H G)(hg:G a=some (.jg WP))(hk:jD WP k=true)(ry:cM X.K H y k) :
  ∃ H' o,Inv X ZB σ H' s/\Mv X.K H G H' G/\BU H' a y o/\o.isSome=(look WP k).isSome/\∀ d,look WP k=some d->∃ v,o=some v/\cM X.K H' v d:=by
 obtain⟨H',I',m,h⟩:=NA I ab hg hk ry;rcases h with ⟨kv,kk,hv,rs,rfl,rfl⟩ | ⟨kv,kk,b,hv,rs,rfl,rfl,hb⟩
 ·refine⟨H',nJ kv kk,I',m,.k hv,?_,fun d hd=>?_⟩
  ·rcases rs.look kk with ⟨v,d,e1,e2,_⟩ | ⟨e1,e2⟩ <;> rw [e1,e2] <;> rfl
  ·rcases rs.look kk with ⟨v,d',e1,e2,r⟩ | ⟨e1,e2⟩
   ·rw [e2] at hd; cases hd; exact⟨v,e1,r⟩
   ·rw [e2] at hd; cases hd
 ·refine⟨H',nJ kv kk,I',m,.t hv hb,?_,fun d hd=>?_⟩
  ·rcases rs.look kk with ⟨v,d,e1,e2,_⟩ | ⟨e1,e2⟩ <;> rw [e1,e2] <;> rfl
  ·rcases rs.look kk with ⟨v,d',e1,e2,r⟩ | ⟨e1,e2⟩
   ·rw [e2] at hd; cases hd; exact⟨v,e1,r⟩
   ·rw [e2] at hd; cases hd
theorem EF{x:V}(I:Inv X ZB σ H s)(rd:cM X.K H x (.lI WP))(hk:jD WP k=true)(ry:cM X.K H y k) :
  ∃ a o,x=.ref a/\(WP=[]\/BU H a y o)/\o.isSome=(look WP k).isSome/\∀ d,look WP k=some d->∃ v,o=some v/\cM X.K H v d:=by
 unfold jD at hk;rw [qF,aQ,aQ] at hk;cases rd with
 | pS h rs =>
  rename_i a ob kv;rcases hk with ⟨h1,h2⟩ | ⟨h1,h2⟩
  ·obtain⟨kk,rfl⟩:=E8 h1;have ey:=EI ry;subst ey;refine⟨a,nJ kv kk,rfl,.inr (.inl ⟨kv,kk,.inr ⟨_,h⟩,rfl,rfl⟩),?_,fun d hd=>?_⟩
   ·rcases rs.look kk with ⟨v,d,e1,e2,_⟩ | ⟨e1,e2⟩ <;> rw [e1,e2] <;> rfl
   ·rcases rs.look kk with ⟨v,d',e1,e2,r⟩ | ⟨e1,e2⟩
    ·rw [e2] at hd; cases hd; exact⟨v,e1,r⟩
    ·rw [e2] at hd; cases hd
  ·cases rs with
   | nil=>exact⟨a,none,rfl,.inl rfl,rfl,fun d hd=>by cases hd⟩
   | cons _ _ =>
    rename_i kx _ _ _ _ _ _;rw [p7,aQ] at h2;cases kx <;> exact absurd h2.1 (by simp [eZ,mY])
 | pR h rs =>
  rename_i a ob kv;rcases hk with ⟨h1,h2⟩ | ⟨h1,h2⟩
  ·cases rs with
   | nil=>exact⟨a,none,rfl,.inl rfl,rfl,fun d hd=>by cases hd⟩
   | cons _ _ =>
    rw [p7,aQ] at h2;exact absurd h2.1 (by simp [gb])
  ·obtain⟨kk,rfl⟩:=M8 h1;obtain⟨b,rfl,hb⟩:=wH ry;refine⟨a,nJ kv kk,rfl,.inr (.inr ⟨kv,kk,b,.inr ⟨_,h⟩,rfl,hb,rfl⟩),?_,fun d hd=>?_⟩
   ·rcases rs.look kk with ⟨v,d,e1,e2,_⟩ | ⟨e1,e2⟩ <;> rw [e1,e2] <;> rfl
   ·rcases rs.look kk with ⟨v,d',e1,e2,r⟩ | ⟨e1,e2⟩
    ·rw [e2] at hd; cases hd; exact⟨v,e1,r⟩
    ·rw [e2] at hd; cases hd
theorem SI{v:V}{d:D}(I:Inv X ZB σ H s)(ab:mx X.K H G)(hg:G a=some (.jg WP))(hk:jD WP k=true)(hz:WP.length < SZ)(ry:cM X.K H y k)(rv:cM X.K H v d) :
  ∃ H' H'',Inv X ZB σ H' s/\PB H' a y v H''/\Mv X.K H G H'' (fG G a (.jg (put WP k d))):=by
 obtain⟨H',I',m,h⟩:=NA I ab hg hk ry;have rv':=rv.mono (m.kp ab);have sz:bx=16777216:=cC;rcases h with ⟨kv,kk,hv,rs,rfl,rfl⟩ | ⟨kv,kk,b,hv,rs,rfl,rfl,hb⟩
 ·have kp:Kp H' (upd H' a (.dK (putK kv kk v))):=.putD hv (.inl ⟨_,rfl⟩);exact⟨H',_,I',.k hv (by rw [rs.length,sz]; exact hz),m.trans (.put m.ab hg kp (.inl ⟨_,cV,(rs.put kk rv').mono kp⟩))⟩
 ·have kp:Kp H' (upd H' a (.dT (putK kv kk v))):=.putD hv (.inr ⟨_,rfl⟩);exact⟨H',_,I',.t hv hb (by rw [rs.length,sz]; exact hz),m.trans (.put m.ab hg kp (.inr ⟨_,cV,(rs.put kk rv').mono kp⟩))⟩
end
end K2
end
section
namespace K2
open PySem PySem.Spec PyProof.Rows L2
section
variable {X:Cx} {a b c e:Expr} {es:List Expr} {ta tb tc te:gN} {t:CF} {pos p p2 apos jh:Pos} {x:Str}
theorem kF{k:Bool}{j}:ia X (.Constant (.bool k) j pos) (dC (.bl k)):=qi Zu fun _ _=>.bl k
theorem ES{j}:ia X (.Constant .none j pos) (dC .dh):=qi W4 fun _ _=>.dh
theorem MT{y:Str}{j}:ia X (.Constant (.str y) j pos) (dC (.str y)):=qi W3 fun _ _=>.str y
theorem Dg{st:Stmt}:Gx X st LJ:=fun _ _ _ _ _ _ _ _ _ _ h=>h.elim
theorem Ei:aaU X (unaryOp .USub) Oq:=by
 intro ZB s σ H G x dx v Q I ab rx dX q;cases dX with
 | int i=>exact g6 (Wr ZB s σ H _ v (CH X.K H G Q) I rx ⟨i,rfl,_,_,.refl ab,.int _,q⟩) fun _ _ z=>.of z
 | _=>exact bY q
theorem cQ(hu:X.A.units+64 < cLine)(ha:ia X a ta)(hb:ia X b tb)(hs:VD b):ia X (.Subscript a b pos) (a9 ky ta tb):=by
 intro E ZB s σ H τ G Q hE I h;refine Subscript_ (S7 ha hb hE I h fun v u s2 x y dx dy H2 G2 J m rx ry dX dY q=>?_);have fin:∀ {rb:R2},IxR X rb->rb x y H2 (CH X.K H2 G2 Q)->wpAny (model X.prog X.w) X.A (subscriptTail a b v u) (sr X ZB σ H G Q) X.xe s2:=fun hr hq =>
  g6 (hr a b ZB s2 σ H2 x y v u _ J.inv rx ry hq (hs _ _)) fun _ _ z=>(sr.of z).trans m
 cases dX with
 | tup hq rs =>
  cases dY with
  | int i =>
   rw [iz] at q;split at q
   ·rename_i d hd;obtain⟨w,hw,vn⟩:=rs.pL hd;exact fin XE ⟨_,_,i,w,rfl,rfl,.of hq,hw,d,G2,.refl J.ab,vn,q⟩
   ·exact q.elim
  | _=>exact bY q
 | fx hq rs =>
  cases dY with
  | int i =>
   rw [wR] at q;split at q
   ·rename_i d hd;obtain⟨w,hw,vn⟩:=rs.pL hd;exact fin M9 ⟨_,_,i,w,rfl,rfl,hq.sq,hw,d,G2,.refl J.ab,vn,q⟩
   ·exact q.elim
  | _=>exact bY q
 | pS h rs =>
  rw [qT] at q;obtain⟨hk,q⟩:=q;split at q
  ·rename_i d hd;obtain⟨a',o,ea,g,_,hv⟩:=EF J.inv (.pS h rs) hk dY;obtain⟨w,rfl,vn⟩:=hv d hd;cases ea;rcases g with rfl | g
   ·cases hd
   ·cases rx;exact tail_any (tS J.inv g) PySem.F.slot_dict_getitem.lookup (yM (by lia) J.inv g ry fun w' s3 I4 rv=>⟨w,H2,d,G2,I4,m,rv,vn,q⟩) (hs _ _)
  ·exact q.elim
 | pR h rs =>
  rw [qT] at q;obtain⟨hk,q⟩:=q;split at q
  ·rename_i d hd;obtain⟨a',o,ea,g,_,hv⟩:=EF J.inv (.pR h rs) hk dY;obtain⟨w,rfl,vn⟩:=hv d hd;cases ea;rcases g with rfl | g
   ·cases hd
   ·cases rx;exact tail_any (tS J.inv g) PySem.F.slot_dict_getitem.lookup (yM (by lia) J.inv g ry fun w' s3 I4 rv=>⟨w,H2,d,G2,I4,m,rv,vn,q⟩) (hs _ _)
  ·exact q.elim
 | ref l =>
  rw [MH] at q;split at q
  ·rename_i ds hl;obtain⟨vs,hv,rs⟩:=J.ab.lst hl;cases dY with
   | int i =>
    dsimp only at q;split at q
    ·rename_i d hd;obtain⟨w,hw,vn⟩:=rs.pL hd;exact fin M9 ⟨_,_,i,w,rfl,rfl,.of hv,hw,d,G2,.refl J.ab,vn,q⟩
    ·exact q.elim
   | _=>exact bY q
  ·rename_i WP hl;obtain⟨hk,q⟩:=q;split at q
   ·rename_i d hd;obtain⟨H3,o,I3,m3,g,_,hv⟩:=II J.inv J.ab hl hk dY;obtain⟨w,rfl,vn⟩:=hv d hd;cases rx;exact tail_any (tS I3 g) PySem.F.slot_dict_getitem.lookup (yM (by lia) I3 g ry fun w' s3 I4 rv=>⟨w,H3,d,G2,I4,m.trans m3,rv,vn,q⟩) (hs _ _)
   ·exact q.elim
  ·exact q.elim
 | _=>exact bY q
def PO2(X:Cx)(e:Option Expr)(t:TO2):Prop :=
 ∀ (E:md) (ZB:List (Addr×Obj)) (s:az) (σ:L2.St) (H:Hp) (τ:iS) (G:Gp) (Q:Option Int->Gp->Prop),Lk X E->I2 X ZB σ H τ G s->t E τ G Q ->
  wpAny (model X.prog X.w) X.A (evalPart e X.env) (fun u s'=>∃ o H' G',Inv X ZB σ H' s'/\Mv X.K H G H' G'/\IsPart u o/\Q o G') X.xe s
theorem lg:PO2 X none gM:=by
 intro E ZB s σ H τ G Q hE I h;rw [evalPart_none];exact aq ⟨none,H,G,I.inv,.refl I.ab,.none,h⟩
theorem jB(h:ia X e te):PO2 X (some e) (qw te):=by
 intro E ZB s σ H τ G Q hE I hw;rw [evalPart_some];refine kU h hE I hw fun x H1 d G1 u s1 I1 m1 r1 j6 q1=>?_;cases j6 with
 | int i =>
  obtain⟨t,rfl⟩:=r1;exact⟨some i,H1,G1,I1.inv,m1,.int i t,q1⟩
 | _=>exact bY q1
theorem i8{lo hi:Option Expr}{tl th:TO2}(he:ia X a ta)(hl:PO2 X lo tl)(hu:PO2 X hi th):ia X (.Subscript a (.Slice lo hi none p2) pos) (CB ta tl th):=by
 intro E ZB s σ H τ G Q hE I h;refine Subscript_ (kU he hE I h fun x H1 d G1 v s1 I1 m1 r1 j6 q1=>?_);refine wpAny_Slice (g6 (hl E ZB s1 σ H1 τ G1 _ hE I1 q1) ?_);rintro vl s2 ⟨l,H2,G2,nV,m2,pl,q2⟩;refine g6 (hu E ZB s2 σ H2 τ G2 _ hE (I1.mv nV m2) q2) ?_;rintro vu s3 ⟨r,H3,G3,I3,m3,pu,q3⟩;rw [evalPart_none];refine aq ?_;have ZR:=m2.trans m3;have mm:=m1.trans ZR;have I4:Inv X ZB σ H3 { s3 with heap:=s3.heap.push { cls:=.type "slice",data:=.fields #[vl,vu,.none] } }:=I3.kept (t':=s3.toks) fun b ob q=>aN _ q;have WU:=j6.mono (ZR.kp I1.ab);have PY:=m3.ab;have key:∀ {rb:V->Option Int->Option Int->Hp->VK->Prop},SlR X rb->rb x l r H3 (CH X.K H3 G3 Q)->wpAny (model X.prog X.w) X.A (subscriptTail a (.Slice lo hi none p2) v (.ref s3.heap.objs.size)) (sr X ZB σ H G Q) X.xe { s3 with heap:=s3.heap.push { cls:=.type "slice",data:=.fields #[vl,vu,.none] } }:=fun hr hq=>by
  obtain⟨T,id,hT,ht,hg⟩:=hr ZB { s3 with heap:=s3.heap.push { cls:=.type "slice",data:=.fields #[vl,vu,.none] } } σ H3 x v vl vu l r s3.heap.objs.size _ I4 r1 (Heap.IsSliceOf.new ..) pl pu hq;exact g6 (tail_any (ops:=[.ref s3.heap.objs.size,v]) ht hT hg (by with_unfolding_all rfl)) fun _ _ z=>(sr.of z).trans mm
 cases WU with
 | tup hq rs =>
  obtain⟨hw,q⟩:=q3;refine key WK ⟨_,_,rfl,.of hq,?_,fun p hp=>⟨_,G3,.O0 PY hp,.tup cV ((rs.cut l r).mono (.new hp)),q⟩⟩;rw [ED,ED,rs.length];exact hw
 | fx hq rs=>exact key MC ⟨_,_,rfl,hq.sq,fun p hp=>⟨_,_,.Ba PY hp (rs.cut l r),.ref _,q3 p (PY.free hp)⟩⟩
 | ref g =>
  rw [EL] at q3;split at q3
  ·rename_i ds hg;obtain⟨vs,hv,rs⟩:=PY.lst hg;exact key MC ⟨_,_,rfl,.of hv,fun p hp=>⟨_,_,.Ba PY hp (rs.cut l r),.ref _,q3 p (PY.free hp)⟩⟩
  ·exact q3.elim
 | _=>exact bY q3
theorem UR(ss:List D)(s:D)(h1:rQ ss=true)(h2:nr s=true):((nC ss).any fun y=>v9 y (pd s))=ss.any (jf · s):=by
 induction ss with
 | nil=>rfl
 | cons d r ih =>
  have h':nr d=true/\rQ r=true:=(kY).mp h1;show (v9 (pd d) (pd s)||(nC r).any _)=_;rw [ih h'.2,vJ d s h'.1 h2]; rfl
theorem NC{G:Gp}{n:Nat}{ds ss:List D}(h:Sn G (n+1) (.fx ds) (.fx ss)):cK (nC ss)<=n:=by
 exact wb (yK h)
theorem Aa(hu:X.A.units+64 < cLine)(neg:Bool){ZB:List (Addr×Obj)}{s:az}{σ:L2.St}{H:Hp}{G:Gp}{x y:V}{dx t:D}{ds ss:List D}{v u:Value}{Q:DK}(I:Inv X ZB σ H s)(ab:mx X.K H G)(rx:RelV x v)(dX:cM X.K H x dx)
  (hy:(∃ l vs bH,u=.ref l/\Vals vs bH/\bp X.K H vs ds/\(s.heap.IsList l bH.toArray\/s.heap.IsTuple l bH.toArray))) (s1:Sn G SN dx t) (s2:Sn G SN (.fx ds) (.fx ss))
  (q:Q (.bl (if neg then !ss.any (jf · t) else ss.any (jf · t))) G):wpAny (model X.prog X.w) X.A (eO (if neg then .NotIn else .In) v u) (sr X ZB σ H G Q) X.xe s:=by
 obtain⟨l,vs,bH,rfl,rv,rs,hl⟩:=hy;obtain⟨as,ra⟩:=(h8 I ab s1).1 x v dX rx;obtain⟨bs,rb⟩:=(h8 I ab s2).2 ds ss (.inl ⟨rfl,rfl⟩) vs bH rs rv;have d2:=NC (n:=7) s2;have n2:rQ ss=true:=s2.nr;have Bm:=w8 _ n2;have e:=UR ss t n2 s1.nr;have Ac:X.A.units+1+min (cK (nC ss)) (pd t).depth < cLine:=by lia
 have QT:iB s.heap bH.toArray.toList (nC ss) bs:=by simpa using rb
 have fin:∀ k:Bool,k=(if neg then !ss.any (jf · t) else ss.any (jf · t))->sr X ZB σ H G Q (.bool k) s:=fun k hk=>by subst hk; exact⟨.bl _,H,.bl _,G,I,.refl ab,rfl,.bl _,q⟩
 cases neg with
 | false =>
  rcases hl with hl | hl
  ·exact SeqAt.in_listAt _ hl (oU QT ra Bm (lu _ s1.nr) Ac) (by rw [sA QT Bm,e]; exact fin _ rfl)
  ·exact SeqAt.in_tupleAt _ hl (oU QT ra Bm (lu _ s1.nr) Ac) (by rw [sA QT Bm,e]; exact fin _ rfl)
 | true =>
  rcases hl with hl | hl
  ·exact SeqAt.notIn_listAt _ hl (oU QT ra Bm (lu _ s1.nr) Ac) (by rw [sA QT Bm,e]; exact fin _ rfl)
  ·exact SeqAt.notIn_tupleAt _ hl (oU QT ra Bm (lu _ s1.nr) Ac) (by rw [sA QT Bm,e]; exact fin _ rfl)
theorem RL(hu:X.A.units+64 < cLine)(neg:Bool){ZB:List (Addr×Obj)}{s:az}{σ:L2.St}{H:Hp}{G:Gp}{x y:V}{dx:D}{WP:List (D×D)}{v u:Value}{Q:DK}(I:Inv X ZB σ H s)(ab:mx X.K H G)(rx:RelV x v)(ry:RelV y u)(dY:cM X.K H y (.lI WP))(dX:cM X.K H x dx)
  (q:KO neg dx (.lI WP) G Q):wpAny (model X.prog X.w) X.A (eO (if neg then .NotIn else .In) v u) (sr X ZB σ H G Q) X.xe s:=by
 obtain⟨kX,hk,q⟩:=q;have go:∀ (a:Addr) (o:Option V),y=.ref a->BU H a x o->o.isSome=(look WP dx).isSome->wpAny (model X.prog X.w) X.A (eO (if neg then .NotIn else .In) v u) (sr X ZB σ H G Q) X.xe s:=by
  intro a o ea g ho;subst ea;cases ry;cases neg with
  | false=>exact aaK (by lia) I g rx fun s3 I4=>⟨.bl _,H,.bl _,G,I4,.refl ab,rfl,.bl _,by rw [ho]; exact q⟩
  | true=>exact NF (by lia) I g rx fun s3 I4=>⟨.bl _,H,.bl _,G,I4,.refl ab,rfl,.bl _,by rw [ho]; exact q⟩
 obtain⟨a,o,ea,g,ho,_⟩:=EF I dY hk dX;rcases g with rfl | g
 ·exact absurd rfl kX
 ·exact go a o ea g ho
theorem EV(hu:X.A.units+64 < cLine)(neg:Bool):o3 X (eO (if neg then .NotIn else .In)) (KO neg):=by
 intro ZB s σ H G x y dx dy v u Q I ab rx ry dX dY q;cases dY with
 | tup hq rs =>
  obtain⟨t,ss,s1,s2,q⟩:=q;cases ry;obtain⟨bH,rv,pl,hz⟩:=I.tuple (.of hq);exact Aa hu neg (y:=x) I ab rx dX ⟨_,_,bH,rfl,rv,rs,.inr pl⟩ s1 s2 q
 | fx hq rs =>
  obtain⟨t,ss,s1,s2,q⟩:=q;cases ry;obtain⟨bH,rv,pl,hz⟩:=I.list hq.sq;exact Aa hu neg (y:=x) I ab rx dX ⟨_,_,bH,rfl,rv,rs,.inl pl.isList⟩ s1 s2 q
 | pS h rs=>exact RL hu neg I ab rx ry (.pS h rs) dX q
 | pR h rs=>exact RL hu neg I ab rx ry (.pR h rs) dX q
 | ref l =>
  unfold KO at q;dsimp only at q;split at q
  ·rename_i WP hl;obtain⟨hk,q⟩:=q;obtain⟨H3,o,I3,m3,g,ho,_⟩:=II I ab hl hk dX;cases ry;cases neg with
   | false=>exact aaK (by lia) I3 g rx fun s3 I4=>⟨.bl _,H3,.bl _,G,I4,m3,rfl,.bl _,by rw [ho]; exact q⟩
   | true=>exact NF (by lia) I3 g rx fun s3 I4=>⟨.bl _,H3,.bl _,G,I4,m3,rfl,.bl _,by rw [ho]; exact q⟩
  ·rename_i ds hl;obtain⟨t,ss,s1,s2,q⟩:=q;cases ry;obtain⟨vs,hv,rs⟩:=ab.lst hl;obtain⟨bH,rv,pl,hz⟩:=I.list (.of hv);exact Aa hu neg (y:=x) I ab rx dX ⟨_,_,bH,rfl,rv,rs,.inl pl.isList⟩ s1 s2 q
  ·exact q.elim
 | _=>exact bY q
theorem Xg(hu:X.A.units+64 < cLine):o3 X (eO .In) (KO false):=EV hu false
theorem Dk(hu:X.A.units+64 < cLine):o3 X (eO .NotIn) (KO true):=EV hu true
end
end K2
end
section
namespace K2
open PySem PySem.Spec PyProof.Rows L2
section
variable {X:Cx} {a b c e o:Expr} {es:List Expr} {ta tb tc te to:gN} {t:CF} {pos p p2 apos jh:Pos} {x name:Str} {id T:String}
theorem fO:vW X (.builtin "len") nu:=by
 intro ZB s σ H G xs ds us Q I ab rx rd q;unfold nu at q;split at q
 ·rename_i x;obtain⟨v,rfl,r⟩:=rd.one;have Uo:∀ (n:Nat),aaZ X.K v H n->Q (.int (n:Int)) G->wpAny (model X.prog X.w) X.A (call (.builtin "len") us) (sr X ZB σ H G Q) X.xe s:=fun n hn hq =>
   g6 (S0 ZB s σ H [v] us (CH X.K H G Q) I rx ⟨v,n,rfl,hn,_,_,.refl ab,.int _,hq⟩) fun _ _ z=>.of z
  have sz:bx=16777216:=cC;cases r with
  | tup hq rs=>exact Uo _ (.inr ⟨_,.of hq,by rw [rs.length]⟩) q
  | fx hq rs=>exact Uo _ (.inl ⟨_,hq.sq,by rw [rs.length]⟩) q
  | str y =>
   unfold lenOf at q;dsimp only at q;by_cases hz:y.length<=SZ
   ·rw [if_pos hz] at q; exact Uo _ ⟨by rw [sz]; exact hz,rfl⟩ q
   ·rw [if_neg hz] at q; exact q.elim
  | pS h rs =>
   rename_i l o kv WP;obtain⟨u,rfl,ru⟩:=rx.one;cases ru;unfold lenOf at q;dsimp only at q;by_cases ha:(WP.all fun p=>gb p.1)=true
   ·rw [if_pos ha] at q;exact V7 I (.inr ⟨_,h⟩) fun t s' I'=>⟨.int kv.length,H,_,G,I',.refl ab,⟨t,rfl⟩,.int _,by rw [rs.length]; exact q⟩
   ·rw [if_neg ha] at q; exact q.elim
  | pR h rs =>
   rename_i l o kv WP;obtain⟨u,rfl,ru⟩:=rx.one;cases ru;unfold lenOf at q;dsimp only at q;by_cases ha:(WP.all fun p=>gb p.1)=true
   ·rw [if_pos ha] at q;cases rs with
    | nil =>
     obtain⟨z,hS,xs,rel,ob,es,ep,ho,hx,Ag,hl,nd⟩:=(I.cB l _ h).2;have hxs:xs=[]:=by cases rel; rfl
     subst hxs;have he:es=#[]:=by simpa using hl
     subst he;have dd:s.heap.DictOf (cA X.prog X.w) l []:=⟨ob,#[],ep,ho,hx,Ag,(fun _ h=>by simp at h),.nil,df⟩;refine call_len_dict hS dd (by simp) ?_;exact⟨.int 0,H,_,G,I.tok _,.refl ab,⟨_,rfl⟩,.int _,q⟩
    | cons _ _=>simp [gb] at ha
   ·rw [if_neg ha] at q; exact q.elim
  | ref l =>
   unfold lenOf at q;dsimp only at q;cases hg:G l with
   | none=>rw [hg] at q; exact q.elim
   | some g =>
    rw [hg] at q;cases g with
    | lst ds =>
     obtain⟨vs,hv,rs⟩:=ab.lst hg;exact Uo _ (.inl ⟨_,.of hv,by rw [rs.length]⟩) q
    | jg WP =>
     obtain⟨u,rfl,ru⟩:=rx.one;cases ru;dsimp only at q;by_cases ha:(WP.all fun p=>gb p.1)=true
     ·rw [if_pos ha] at q;rcases ab l _ hg with ⟨kv,hv,rs⟩ | ⟨kv,hv,rs⟩
      ·exact V7 I (.inl hv) fun t s' I'=>⟨.int kv.length,H,_,G,I',.refl ab,⟨t,rfl⟩,.int _,by rw [rs.length]; exact q⟩
      ·cases rs with
       | nil =>
        obtain⟨z,hd,vs,rel,dd⟩:=Nz (toK I hv).cB cV;have hvs:vs=[]:=by cases rel; rfl
        subst hvs;refine call_len_dict hd dd (by simp) ?_;exact⟨.int 0,H,_,G,I.tok _,.refl ab,⟨_,rfl⟩,.int _,q⟩
       | cons _ _=>simp [gb] at ha
     ·rw [if_neg ha] at q; exact q.elim
  | _=>exact bY q
 ·exact q.elim
theorem LP:vW X (.type "list") BK:=by
 intro ZB s σ H G xs ds us Q I ab rx rd q;unfold BK at q;split at q
 ·rename_i x;obtain⟨v,rfl,r⟩:=rd.one;have via:∀ (l:Addr) (ys:List V) (zs:List D),v=.ref l->(rW X.K H l ys\/BM X.K H l ys)->bp X.K H ys zs->jH G (.lst zs) Q->wpAny (model X.prog X.w) X.A (call (.type "list") us) (sr X ZB σ H G Q) X.xe s:=fun l ys zs e h rs hq=>by
   subst e;exact g6 (FL ZB s σ H _ us (CH X.K H G Q) I rx ⟨l,ys,rfl,h,fun p hp=>⟨_,_,.Ba ab hp rs,.ref _,hq p (ab.free hp)⟩⟩) fun _ _ z=>.of z
  cases r with
  | tup hq rs=>exact via _ _ _ rfl (.inr (.of hq)) rs q
  | fx hq rs=>exact via _ _ _ rfl (.inl hq.sq) rs q
  | ref l =>
   unfold itemsOf at q;dsimp only at q;cases hg:G l with
   | none=>rw [hg] at q; exact q.elim
   | some g =>
    rw [hg] at q;cases g with
    | lst ds =>
     obtain⟨vs,hv,rs⟩:=ab.lst hg;exact via _ _ _ rfl (.inl (.of hv)) rs q
    | jg WP=>exact q.elim
  | _=>exact bY q
 ·exact q.elim
theorem A4 {r:List D->Gp->DK->Prop} (hc:vW X (.type T) r) (hg:Gl X x) (hm:X.mg x=none) (hv:fH x=some (.type T)) (ha:Gy X (e :: es) t) (hn:x≠"__name__":=by decide) (Co:(x == ("__debug__" : Str))=false:=by decide)
  (he:bJ (e :: es) X.env=(false,eval e X.env) :: bJ es X.env:=by rfl) (Bt:(iT pos (bJ es X.env)).any (·.1)=false:=by rfl):ia X (.Call (.Name x p) (e :: es) [] pos) (og r t):=by
 intro E ZB s σ H τ G Q hE I h;refine dZ (lY I.inv hg hm hv ?_ hn Co);exact dE (zF ha pos hE I h fun vs H1 ds G1 us s1 I1 m1 r1 j6 q1=>g6 (hc ZB s1 σ H1 G1 vs ds us Q I1.inv I1.ab r1 j6 q1) fun _ _ z=>z.trans m1) he Bt
theorem XA (K:ak):∀ C∈["int","bool","list","tuple","dict","str"],∀ T∈["NoneType","bool","int","str","tuple","list","dict"],dN K (.type T) (.type C)=some (T == C||(T == "bool" && C == "int")):=by
 intro C hC T hT;simp only [jj,cZ,or_false] at hC hT;rcases hC with rfl | rfl | rfl | rfl | rfl | rfl <;> rcases hT with rfl | rfl | rfl | rfl | rfl | rfl | rfl <;> kernel_rfl
theorem RH (C:String) (hC:C∈["int","bool","list","tuple","dict","str"]) {ZB:List (Addr×Obj)} {s:az} {σ:L2.St} {H:Hp} {G:Gp} {v:V} {d:D} {u:Value} {k:Bool} {Q:DK} (I:Inv X ZB σ H s) (ab:mx X.K H G) (ru:RelV v u) (r:cM X.K H v d)
  (hk:YC C d G=some k) (q:Q (.bl k) G):wpAny (model X.prog X.w) X.A (call (.builtin "isinstance") [u,.type C]) (sr X ZB σ H G Q) X.xe s:=by
 have fin:∀ tk,sr X ZB σ H G Q (.bool k) { s with toks:=tk }:=fun tk=>⟨.bl k,H,.bl k,G,I.tok _,.refl ab,rfl,.bl k,q⟩;have hl:∀ T∈["NoneType","bool","int","str","tuple","list","dict"],k=(T == C||(T == "bool" && C == "int"))->dN X.K (.type T) (.type C)=some k:=fun T hT e=>by rw [XA X.K C hC T hT,e]
 have tl:∀ {l:Addr} {o:Obj},s.heap.get? l=some o->o.cls=.type "list"->k=("list" == C||("list" == "bool" && C == "int"))->v=.ref l->wpAny (model X.prog X.w) X.A (call (.builtin "isinstance") [u,.type C]) (sr X ZB σ H G Q) X.xe s:=fun ho hc e ev=>by
  subst ev;cases ru;exact g7 PySem.W.kitx_list I.B5 ⟨_,ho,hc⟩ (hl "list" (by decide) e) (fun z=>nomatch z) fin
 have td:∀ {l:Addr} {o:Obj},s.heap.get? l=some o->o.cls=.type "dict"->k=("dict" == C||("dict" == "bool" && C == "int"))->v=.ref l->wpAny (model X.prog X.w) X.A (call (.builtin "isinstance") [u,.type C]) (sr X ZB σ H G Q) X.xe s:=fun ho hc e ev=>by
  subst ev;cases ru;exact g7 PySem.W.kitx_dict I.B5 ⟨_,ho,hc⟩ (hl "dict" (by decide) e) (fun z=>nomatch z) fin
 have pW:∀ P:String->Prop,(∀ C'∈["int","bool","list","tuple","dict","str"],P C')->P C:=fun P h=>h C hC;cases r with
 | dh =>
  cases ru;have e:k=("NoneType" == C||("NoneType" == "bool" && C == "int")):=by
   have:k=false:=(bN hk).symm;rw [this];exact pW (fun C=>false=("NoneType" == C||("NoneType" == "bool" && C == "int"))) (by decide)
  exact g7 T7 I.B5 i4 (hl _ (by decide) e) (fun z=>nomatch z) fin
 | bl y =>
  cases ru;have e:k=("bool" == C||("bool" == "bool" && C == "int")):=by
   have:k=(C == "bool" || C == "int"):=(bN hk).symm;rw [this];exact pW (fun C=>(C == "bool" || C == "int")=("bool" == C||("bool" == "bool" && C == "int"))) (by decide)
  exact g7 PySem.W.kitx_bool I.B5 i4 (hl _ (by decide) e) (fun z=>nomatch z) fin
 | int y =>
  obtain⟨t,rfl⟩:=ru;have e:k=("int" == C||("int" == "bool" && C == "int")):=by
   have:k=(C == "int"):=(bN hk).symm;rw [this];exact pW (fun C=>(C == "int")=("int" == C||("int" == "bool" && C == "int"))) (by decide)
  exact g7 PySem.W.kitx_int I.B5 i4 (hl _ (by decide) e) (fun z=>nomatch z) fin
 | str y =>
  obtain⟨t,rfl⟩:=ru;have e:k=("str" == C||("str" == "bool" && C == "int")):=by
   have:k=(C == "str"):=(bN hk).symm;rw [this];exact pW (fun C=>(C == "str")=("str" == C||("str" == "bool" && C == "int"))) (by decide)
  exact g7 PySem.W.kitx_str I.B5 i4 (hl _ (by decide) e) (fun z=>nomatch z) fin
 | tup hq rs =>
  cases ru;have e:k=("tuple" == C||("tuple" == "bool" && C == "int")):=by
   have:k=(C == "tuple"):=(bN hk).symm;rw [this];exact pW (fun C=>(C == "tuple")=("tuple" == C||("tuple" == "bool" && C == "int"))) (by decide)
  obtain⟨bH,rv,⟨o,h1,h2,_⟩,hz⟩:=I.tuple (.of hq);exact g7 PySem.W.kitx_tuple I.B5 ⟨o,h1,h2⟩ (hl _ (by decide) e) (fun z=>nomatch z) fin
 | fx hq rs =>
  obtain⟨bH,rv,pl,hz⟩:=I.list hq.sq;obtain⟨o,h1,h2,_⟩:=pl.isList;refine tl h1 h2 ?_ rfl;have:k=(C == "list"):=(bN hk).symm;rw [this];exact pW (fun C=>(C == "list")=("list" == C||("list" == "bool" && C == "int"))) (by decide)
 | pS h rs =>
  have e:k=("dict" == C||("dict" == "bool" && C == "int")):=by
   have:k=(C == "dict"):=(bN hk).symm;rw [this];exact pW (fun C=>(C == "dict")=("dict" == C||("dict" == "bool" && C == "int"))) (by decide)
  obtain⟨_,_,vs,_,ob,_,_,h1,h2,_⟩:=xr I.cB (.inr ⟨_,h⟩);exact td h1 h2.1 e rfl
 | pR h rs =>
  have e:k=("dict" == C||("dict" == "bool" && C == "int")):=by
   have:k=(C == "dict"):=(bN hk).symm;rw [this];exact pW (fun C=>(C == "dict")=("dict" == C||("dict" == "bool" && C == "int"))) (by decide)
  obtain⟨_,_,ys,_,ob,_,_,h1,h2,_⟩:=zt I.cB (.inr ⟨_,h⟩);exact td h1 h2.1 e rfl
 | exc h=>simp [YC] at hk
 | ref l =>
  unfold YC at hk;dsimp only at hk;cases hg:G l with
  | none=>rw [hg] at hk; cases hk
  | some g =>
   rw [hg] at hk;cases g with
   | lst ds =>
    obtain⟨vs,hv,rs⟩:=ab.lst hg;obtain⟨bH,rv,pl,hz⟩:=I.list (.of hv);obtain⟨o,h1,h2,_⟩:=pl.isList;refine tl h1 h2 ?_ rfl;have:k=(C == "list"):=(bN hk).symm;rw [this];exact pW (fun C=>(C == "list")=("list" == C||("list" == "bool" && C == "int"))) (by decide)
   | jg WP =>
    have e:k=("dict" == C||("dict" == "bool" && C == "int")):=by
     have:k=(C == "dict"):=(bN hk).symm;rw [this];exact pW (fun C=>(C == "dict")=("dict" == C||("dict" == "bool" && C == "int"))) (by decide)
    rcases ab l _ hg with ⟨kv,hv,rs⟩ | ⟨kv,hv,rs⟩
    ·obtain⟨_,_,vs,_,ob,_,_,h1,h2,_⟩:=Nz I.cB hv;exact td h1 h2.1 e rfl
    ·obtain⟨_,_,ys,_,ob,_,_,h1,h2,_⟩:=SD I.cB hv;exact td h1 h2.1 e rfl
theorem zY (C:String) (hC:C∈["int","bool","list","tuple","dict","str"]) {y:Str} {py:Pos} (hg:Gl X "isinstance") (hm:X.mg "isinstance" = none) (hgC:Gl X y) (hmC:X.mg y=none) (hvC:fH y=some (.type C)) (ha:ia X a ta) (hn:y≠"__name__":=by decide) (Co:(y == ("__debug__" : Str))=false:=by decide)
  (he:bJ [a,.Name y py] X.env=(false,eval a X.env) :: bJ [.Name y py] X.env:=by rfl) (Bt:(iT pos (bJ [Expr.Name y py] X.env)).any (·.1)=false:=by rfl) (XW:bJ [.Name y py] X.env=[(false,eval (.Name y py) X.env)]:=by rfl) :
  ia X (.Call (.Name "isinstance" p) [a,.Name y py] [] pos) (Pn C ta):=by
 intro E ZB s σ H τ G Q hE I h;refine dZ (lY I.inv hg hm zA ?_);refine iD ?_ he Bt;rw [he];show wpAny _ _ (xX ((false,eval a X.env) :: iT pos (bJ [.Name y py] X.env))) _ _ s;refine fV (kU ha hE I h fun v H1 d G1 u s1 I1 m1 r1 j6 q1=>?_);rw [XW];show wpAny _ _ (xX [(false,eval (.Name y py) X.env)]) _ _ s1;refine fV (lY I1.inv hgC hmC hvC (nH ?_) hn Co)
 try dsimp only at q1
 split at q1
 ·rename_i k hk;exact g6 (RH C hC I1.inv I1.ab r1 j6 hk q1) fun _ _ z=>z.trans m1
 ·exact q1.elim
end
end K2
end
section
namespace K2
open PySem PySem.Spec PyProof.Rows L2
section
variable {X:Cx} {a b c e o:Expr} {es:List Expr} {ta tb tc te to:gN} {t:CF} {pos p p2 apos jh:Pos} {x name:Str} {id T:String}
def Py(X:Cx)(id:String)(r:D->List D->Gp->DK->Prop):Prop :=
 ∀ (ZB:List (Addr×Obj)) (s:az) (σ:L2.St) (H:Hp) (G:Gp) (x:V) (d:D) (xs:List V) (ds:List D) (v:Value) (us:List Value) (Q:DK),Inv X ZB σ H s->mx X.K H G->RelV x v->cM X.K H x d->Vals xs us->bp X.K H xs ds->r d ds G Q ->
  wpAny (model X.prog X.w) X.A (call (.builtin id) (v :: us)) (sr X ZB σ H G Q) X.xe s
def Yo(X:Cx)(T:String)(ty:D->Gp->Prop):Prop:=∀ (ZB:List (Addr×Obj)) (s:az) (σ:L2.St) (H:Hp) (G:Gp) (x:V) (d:D) (v:Value),Inv X ZB σ H s->mx X.K H G->RelV x v->cM X.K H x d->ty d G ->
  s.TypeIs v T/\∀ a,v=.ref a->∃ ob,s.heap.get? a=some ob/\ob.dict=none
theorem iW:Yo X "list" Ce:=by
 intro ZB s σ H G x d v I ab r rd h;cases rd with
 | fx hq rs=>exact El I r (.inl ⟨rfl,_,hq.sq⟩)
 | ref l =>
  unfold Ce at h;dsimp only at h;split at h
  ·rename_i ds hg;obtain⟨vs,hv,rs⟩:=ab.lst hg;exact El I r (.inl ⟨rfl,vs,.of hv⟩)
  ·exact h.elim
 | _=>exact bY h
theorem AD:Yo X "dict" tyC:=by
 intro ZB s σ H G x d v I ab r rd h;cases rd with
 | pS q rs =>
  cases r;obtain⟨t1,t2,_⟩:=RI I (.inl ⟨_,.inr ⟨_,q⟩⟩);exact⟨t1,t2⟩
 | pR q rs =>
  cases r;obtain⟨t1,t2,_⟩:=RI I (.inr ⟨_,.inr ⟨_,q⟩⟩);exact⟨t1,t2⟩
 | ref l =>
  unfold tyC at h;dsimp only at h;split at h
  ·rename_i WP hg;rcases ab l _ hg with ⟨kv,hv,rs⟩ | ⟨kv,hv,rs⟩
   ·exact El I r (.inr (.inr (.inl ⟨rfl,.inl ⟨kv,hv⟩⟩)))
   ·exact El I r (.inr (.inr (.inl ⟨rfl,.inr ⟨kv,hv⟩⟩)))
  ·exact h.elim
 | _=>exact bY h
theorem lU {ty:D->Gp->Prop} {r:D->List D->Gp->DK->Prop} (pa:PlainAttrs T) (slot:Slot T name id) (hty:typeOf (.builtin id)=pure (.type "method_descriptor")) (ht:Yo X T ty) (hm:Py X id r) (ho:ia X o to) (ha:Gy X (e :: es) t)
  (Bu:x8 o name X.env (eval o X.env)=eval o X.env:=by rfl)
  (Vg:((iT jh (bJ (e :: es) X.env)).all (fun x=>!x.1)&&(backToKw jh (keywordEach [] X.env)).all (fun x=>x.1.isSome)
   && decide ((e :: es).length+([]:List Qg).length+(if ([]:List Qg).isEmpty then 0 else 1) < 30))=true:=by rfl)
  (Ie:(apos.endLine == jh.line)=true:=by rfl) (hs:bJ (e :: es) X.env=(false,eval e X.env) :: bJ es X.env:=by rfl) (XJ:(iT jh (bJ es X.env)).any (·.1)=false:=by rfl) :
  ia X (.Call (.Attribute o name apos) (e :: es) [] jh) (BI ty r to t):=by
 intro E ZB s σ H τ G Q hE I h;refine wpAny_Call_method_late Bu Vg Ie rfl (kU ho hE I h ?_);rintro x H1 d G1 v s1 I1 m1 r1 j6 ⟨hy,q1⟩;obtain⟨h1,h2⟩:=ht ZB s1 σ H1 G1 x d v I1.inv I1.ab r1 j6 hy;refine⟨T,id,pa,slot,hty,h1,h2,?_⟩;have hA:=ha jh E ZB s1 σ H1 τ G1 _ hE I1 q1;rw [hs] at hA ⊢;refine vg (by show (false||(iT jh (bJ es X.env)).any (·.1))=false; rw [XJ] <;> rfl) (Tv ?_);exact g6 hA (by rintro us s2 ⟨vs,H2,ds,G2,nV,m2,r2,zV,q2⟩; exact g6 (hm ZB s2 σ H2 G2 x d vs ds v us Q nV m2.ab r1 (j6.mono (m2.kp I1.ab)) r2 zV q2) fun _ _ z=>z.trans (m1.trans m2))
theorem vq:Py X "list.append" uf:=by
 intro ZB s σ H G x d xs ds v us Q I ab rx rd Uz AV q;unfold uf at q;split at q
 ·rename_i l d';cases rd;obtain⟨w,rfl,vn⟩:=AV.one;split at q
  ·rename_i zs hg;obtain⟨hz,q⟩:=q;obtain⟨vs,hv,rs⟩:=ab.lst hg;exact g6 (Dp ZB s σ H _ _ v us (CH X.K H G Q) I rx Uz ⟨l,vs,w,rfl,rfl,hv,by rw [rs.length,cC]; exact hz,_,_,.putL ab hg hv (rs.append (.cons vn .nil)),.dh,q⟩) fun _ _ z=>.of z
  ·exact q.elim
 ·exact q.elim
theorem Lx(l:Addr)(xs:Array Value)(n:Nat)(b:Addr)(ys:Array Value)(n2:Nat)(dd:Option Addr)(sl:Array (Option Value))(VZ:¬(!xs.isEmpty&&kC (xs.size+ys.size))=true)(hx:xs.size<=bx)(hxy:xs.size+ys.size<=bx+1) :
  Meets (Builtin.«list.extend» ⟨[.ref l,.ref b],[]⟩) (fun _ R s=>s.heap.get? l=some { cls:=.type "list",dict:=none,data:=.seq xs n,slots:=#[] }/\s.heap.get? b=some { cls:=.type "list",dict:=dd,data:=.seq ys n2,slots:=sl }/\R (.ok (.ret eX)) { s with heap:=s.heap.update l (jU fun x=>x++ys),toks:=s.toks }) :=
 .of_wp fun prog w A R s h=>by
  obtain⟨hp,g,d,tk,os⟩:=s;obtain⟨h1,h2,h3⟩:=h;have e1:=AutoSeq1.idx_int;have e2:=rN;have e3:=JZ;have e4:=AutoSeq1.sub_tuple_list;have e5:=AutoSeq1.sub_list_tuple;have YD:(xs++ys).size<=bx+1:=by rw [Array.size_append]; exact hxy
  wp_walk using (wpAny_updateSeq h1 rfl (hz:=hx) (_hz':=YD)),cH h1,cH h2
  exact⟨_,rfl,h3⟩
theorem Bb:Py X "list.extend" wX:=by
 intro ZB s σ H G x d xs ds v us Q I ab rx rd Uz AV q;unfold wX at q;split at q
 ·rename_i l y;cases rd;obtain⟨w,rfl,vn⟩:=AV.one;obtain⟨u,rfl,ru⟩:=Uz.one;split at q
  ·rename_i zs ys hg hg2;obtain⟨hz,q⟩:=q;obtain⟨vs,hv,rs⟩:=ab.lst hg;obtain⟨b,ws,yy,rfl,QG,TB,hb,_⟩:=oP I ab ru vn hg2;cases rx;obtain⟨z,bH,n,r,hl,e⟩:=I.Xv hv;obtain⟨⟨cl,dd,dt,sl⟩,ho,O5,n2,hdt⟩:=hb;simp only at O5 hdt;subst O5 hdt;have h1:=QG.length;have h2:=TB.length;have h3:=rs.length;have h4:=r.length;have h5:bx=16777216:=cC;have h6:SZ=16777216:=rfl;have hsz:bH.toArray.size+yy.toArray.size<=bx:=by rw [a8,a8]; lia
   have VZ:¬ (!bH.toArray.isEmpty&&kC (bH.toArray.size+yy.toArray.size))=true:=by
    rw [Rk hsz,zE];exact eV
   refine BX F.slot_list_extend ⟨_,e,rfl⟩ F.entry_list_extend (F.args_list_extend_2 _ _) (Lx l bH.toArray n b yy.toArray n2 dd sl VZ (by rw [a8]; lia) (by lia)) ⟨e,ho,?_⟩;refine⟨.dh,_,.dh,_,I.Xw (its':=bH++yy) hv e (by simp) (r.append QG) ?_,.putL ab hg hv (rs.append TB),rfl,.dh,q⟩;rw [aw];lia
  ·exact q.elim
 ·exact q.elim
theorem XF{bH:List Value}{u:Value}{k:Nat}(hk:k<=bH.length):(bH.toArray.extract 0 k).push u++bH.toArray.extract k=(bH.take k++u :: bH.drop k).toArray:=by
 simp [List.extract_eq_take_drop];rw [iu (by rw [c6]; lia)]
theorem K4:Py X "list.insert" z0:=by
 intro ZB s σ H G x d xs ds v us Q I ab rx rd Uz AV q;unfold z0 at q;split at q
 ·rename_i l i d';cases rd;obtain⟨w,w2,rfl,KL,rw2⟩:=AV.two;cases KL;split at q
  ·rename_i zs hg;obtain⟨h0,h1,hz,q⟩:=q;obtain⟨vs,hv,rs⟩:=ab.lst hg;obtain⟨u1,u2,rfl,⟨t,rfl⟩,Zk⟩:=vals2 Uz;cases rx;obtain⟨z,bH,n,r,hl,e⟩:=I.Xv hv;have sz:bx=16777216:=cC;have hlen:bH.length=zs.length:=by rw [<-hl,rs.length]
   have hs:SZ=16777216:=rfl;have ad0:¬ (!Builtin.List.listFitsIndex i)=true:=by
    rw [fitsIndex_both (by lia) (by lia)];exact eV
   refine BX F.slot_list_insert ⟨_,e,rfl⟩ F.entry_list_insert (F.args_list_insert_3 _ _ _)
    (AutoSeq1.list_insert_list_int_val_1 l bH.toArray n i t u2 ad0 (by rw [a8]; lia)) ⟨e,?_⟩
   have hi:i.toNat<=bH.length:=by lia
   refine⟨.dh,_,.dh,_,I.Xw (its':=bH.take i.toNat++u2 :: bH.drop i.toNat) (ys:=vs.take i.toNat++w2 :: vs.drop i.toNat) hv e ?_ ((r.take _).append (.cons Zk (r.drop _))) ?_,.putL ab hg hv ((rs.take _).append (.cons rw2 (rs.drop _))),rfl,.dh,q⟩
   ·dsimp only;have e1:(if i < 0 then (i+(bH.toArray.size:Int)).toNat else min i.toNat bH.toArray.size)=i.toNat:=by
     rw [if_neg (by lia),a8]; lia
    rw [e1];exact XF hi
   ·rw [aw,aj,eA,c6];lia
  ·exact q.elim
 ·exact q.elim
theorem nZ (hu : X.A.units + 64 < cLine) : Py X "list.index" qZ := by
  intro ZB s σ H G x d xs ds v us Q I ab rx rd Uz AV q;unfold qZ at q;split at q
  · rename_i d'
    obtain⟨hy, zs, sn, ss, hi, s1, s2, q⟩ := q;obtain⟨w, rfl, vn⟩ := AV.one;obtain⟨u, rfl, ru⟩ := Uz.one;have lists : ∃ l vs bH, v = .ref l ∧ Vals vs bH ∧ bp X.K H vs zs ∧ s.heap.IsList l bH.toArray ∧ vs.length ≤ bx := by
      cases rd with
      | fx hq rs =>
        cases hi;cases rx;obtain⟨bH, rv, pl, hz⟩ := I.list hq.sq;exact⟨_, _, bH, rfl, rv, rs, pl.isList, hz⟩
      | ref l =>
        unfold itemsOf at hi;dsimp only at hi;cases hg : G l with
        | none => rw [hg] at hi; cases hi
        | some g =>
          rw [hg] at hi;cases g with
          | lst ds =>
            cases hi;cases rx;obtain⟨vs, hv, rs⟩ := ab.lst hg;obtain⟨bH, rv, pl, hz⟩ := I.list (.of hv);exact⟨_, _, bH, rfl, rv, rs, pl.isList, hz⟩
          | jg _ => cases hi
      | _ => exact bY hy
    obtain⟨l, vs, bH, rfl, rv, rs, hl, hz⟩ := lists;obtain⟨as, ra⟩ := (h8 I ab s1).1 w u vn ru;obtain⟨bs, rb⟩ := (h8 I ab s2).2 zs ss (.inl ⟨rfl, rfl⟩) vs bH rs rv;have d2 := NC (n := 7) s2;have n2 : rQ ss = true := s2.nr;have Bm := w8 _ n2;have Ac : X.A.units + 1 + min (cK (nC ss)) (pd sn).depth < cLine := by lia
    have QT : iB s.heap bH.toArray.toList (nC ss) bs := by simpa using rb
    have mp := SeqAt.readsAll_map _ _ _ Bm QT;split at q
    · rename_i k hk
      obtain⟨mj, adV, R4⟩ := List.findIdx?_eq_some_iff_getElem.mp hk;have pdl : ∀ (zz : List D), (nC zz).length = zz.length := by
        intro zz;induction zz with
        | nil => rfl
        | cons a r ih => exact congrArg Nat.succ ih
      have hlen : bH.length = ss.length := by
        have := congrArg dF mp;rw [ag, pdl] at this;simpa using this
      have at_ : ∀ (m : Nat) (h1 : m < bH.toArray.size) (h2 : m < ss.length), v9 (CP s.heap bH.toArray[m]) (pd sn) = jf ss[m] sn := by
        intro m h1 h2;have e1 : (bH.toArray.toList.map (CP s.heap))[m]? = (nC ss)[m]? := by rw [mp]
        have pdg : ∀ (zz : List D) (m : Nat) (h : m < zz.length), (nC zz)[m]? = some (pd zz[m]) := by
          intro zz;induction zz with
          | nil => intro m h; simp at h
          | cons a r ih => intro m h; cases m with
            | zero => rfl
            | succ m => exact ih m (wa h)
        rw [pdg ss m h2] at e1;have h1' : m < bH.length := by simpa using h1
        have e2 : CP s.heap bH.toArray[m] = pd ss[m] := by
          simpa [h1'] using e1
        rw [e2];have nrm : nr ss[m] = true := by
          have : ∀ (zz : List D) (m : Nat) (h : m < zz.length), rQ zz = true -> nr zz[m] = true := by
            intro zz;induction zz with
            | nil => intro m h; simp at h
            | cons a r ih => intro m h hn; have Li : nr a = true ∧ rQ r = true := (kY).mp hn
                             cases m with
                             | zero => exact Li.1
                             | succ m => exact ih m (by simpa using h) Li.2
          exact this ss m h2 n2
        exact vJ _ _ nrm s1.nr
      have sz : bx = 16777216 := cC;have hvl : vs.length = bH.length := rv.length;obtain⟨⟨cls, dd, data, sl⟩, ho, hc, n, hd⟩ := id hl;simp only at hc hd;subst hc hd;have Vd : k < bH.toArray.size := by rw [a8]; lia
      refine BX fU ⟨_, ho, rfl⟩ PySem.F.entry_list_index (PySem.F.args_list_index_2 _ _)
        (SeqAt.list_indexAt l bH.toArray n dd sl u (fun y => v9 (CP s.heap y) (pd sn)) k Vd (by lia) ?_ ?_) ⟨ho, oU QT ra Bm (lu _ s1.nr) Ac, ?_⟩
      · rw [at_ k Vd mj]; exact adV
      · intro m hm hmk
        have XS : m < ss.length := by lia
        rw [at_ m hm XS];simpa using R4 m hmk
      · exact⟨.int k, H, .int k, G, I.tok _, .refl ab, ⟨_, rfl⟩, .int _, q⟩
    · exact q.elim
  · exact q.elim
theorem ud:ia X (.Dict [] [] pos) vP:=by
 intro E ZB s σ H τ G Q hE I h;exact g6 (Q9 ZB s σ H (CH X.K H G Q) I.inv fun p hp=>⟨_,_,.new I.ab hp (.dk cV .nil),.ref _,h p (I.ab.free hp)⟩) fun _ _ z=>.of z
end
end K2
end
section
namespace K2
open PySem PySem.Spec PyProof.Rows L2
def ib(env:Env):List (Str×uO)->List (Str×Addr)->List (Str×Addr)
 | [],WF=>WF
 | (n,k) :: r,WF=>if k=.free then ib env r ((n,(env.cells.lookup n).getD 0) :: WF) else ib env r WF
theorem vR(env:Env)(f:Str×uO->List (Str×Addr)->Sem (ForInStep (List (Str×Addr))))(hf:∀ n k c,f (n,k) c=if (k == lN)=true then (cellOf env n >>= fun a=>pure (uz ((n,a) :: c))) else pure (uz c)) :
  ∀ (ns:List (Str×uO)) (WF:List (Str×Addr)),(∀ x∈ns,x.2=.free->∃ c,env.cells.lookup x.1=some c)->forIn ns WF f=(pure (ib env ns WF):Sem (List (Str×Addr)))
 | [],WF,_=>rfl
 | (n,k) :: r,WF,h=>by
  rw [List.forIn_cons,hf];have hr:∀ x∈r,x.2=.free->∃ c,env.cells.lookup x.1=some c:=fun x hx=>h x (ax _ hx);by_cases hk:k=.free
  ·subst hk;obtain⟨c,hc⟩:=h (n,.free) aA rfl;have ec:cellOf env n=pure c:=by unfold cellOf; rw [hc]
   rw [if_pos (by decide),ec,pure_bind,pure_bind];show forIn r ((n,c) :: WF) f=_;rw [vR env f hf r _ hr];show _=(pure (ib env ((n,.free) :: r) WF):Sem (List (Str×Addr)));rw [ib,if_pos rfl,hc]; rfl
  ·rw [if_neg (by simpa using hk),pure_bind];show forIn r WF f=_;rw [vR env f hf r _ hr];show _=(pure (ib env ((n,k) :: r) WF):Sem (List (Str×Addr)));rw [ib,if_neg hk]
theorem CC{env:Env}{scope:Scope}(h:∀ x∈scope.names,x.2=.free->∃ c,env.cells.lookup x.1=some c):closureFor scope env=pure (ib env scope.names []):=by
 unfold closureFor;dsimp only;rw [vR env _ (fun n k c=>?_) scope.names [] h]
 ·rfl
 ·by_cases hk:(k == lN)=true
  ·simp only [hk,if_true]
  ·simp only [hk,if_false,aC]
theorem wo{env:Env}{x:Str}{c:Addr}:∀ {ns:List (Str×uO)} {WF:List (Str×Addr)},(∀ y∈ns,y.2=.free->∃ c,env.cells.lookup y.1=some c)->(∀ y c,WF.lookup y=some c->env.cells.lookup y=some c)->(ib env ns WF).lookup x=some c->env.cells.lookup x=some c
 | [],_,_,ha,e=>ha _ _ e
 | (n,k) :: r,WF,h,ha,e=>by
  have hr:∀ y∈r,y.2=.free->∃ c,env.cells.lookup y.1=some c:=fun y hy=>h y (ax _ hy);unfold ib at e;by_cases hk:k=.free
  ·rw [if_pos hk] at e;refine wo hr (fun y c' q=>?_) e;rw [Gi] at q;by_cases hy:(y == n)=true
   ·rw [hy] at q;have e1:y=n:=eq_of_beq hy;subst e1;obtain⟨c0,hc0⟩:=h (y,k) aA hk;rw [hc0] at q ⊢;exact q
   ·have hy':(y == n)=false:=by simpa using hy
    rw [hy'] at q;exact ha y c' q
  ·rw [if_neg hk] at e;exact wo hr ha e
theorem qO{env:Env}{x:Str}:∀ {ns:List (Str×uO)} {WF:List (Str×Addr)},((x,lN)∈ns\/∃ c,WF.lookup x=some c)->∃ c,(ib env ns WF).lookup x=some c
 | [],_,h=>by rcases h with h | h; exact absurd h (by simp); exact h
 | (n,k) :: r,WF,h=>by
  unfold ib;have grow:∀ a,(∃ c,WF.lookup x=some c)->∃ c,((n,a) :: WF).lookup x=some c:=fun a JE=>by
   obtain⟨c,hc⟩:=JE;rw [Gi];by_cases hy:(x == n)=true
   ·rw [hy]; exact⟨_,rfl⟩
   ·have hy':(x == n)=false:=by simpa using hy
    rw [hy']; exact⟨c,hc⟩
  by_cases hk:k=.free
  ·rw [if_pos hk];refine qO ?_;rcases h with h | h
   ·rcases List.mem_cons.mp h with e | h
    ·injection e with e1 e2
     subst e1;exact .inr ⟨(env.cells.lookup x).getD 0,by rw [Gi]; simp⟩
    ·exact .inl h
   ·exact .inr (grow _ h)
  ·rw [if_neg hk];refine qO ?_;rcases h with h | h
   ·rcases List.mem_cons.mp h with e | h
    ·injection e with e1 e2
     exact absurd e2.symm hk
    ·exact .inl h
   ·exact .inr h
abbrev fm(X:Cx)(N:List Str)(scope:Scope)(C:Addr)(s:az)(H:Hp)(fp:List Addr):Cx :=
 { X with env:=compEnvC scope (ib X.env scope.names []) C X.env,N:=N,jv:=s,PA:=H,outer:=X.stack,stack:=X.stack,ex:=fp,fn:=fun _=>false,pn:=[],xe:=fun _ _=>False }
theorem wI{scope:Scope}{env:Env}{x:Str}(h:(JN scope env).names.lookup x=some .cell\/(JN scope env).names.lookup x=some .free)(rT:∀ y∈scope.names,y.2≠.cell):(x,lN)∈scope.names:=by
 have go:∀ k,(JN scope env).names.lookup x=some k->k=.cell\/k=.free->(x,lN)∈scope.names:=by
  intro k hk hkk;have hm:=je hk;unfold JN at hm;dsimp only at hm;obtain⟨⟨n,j⟩,hj,e⟩:=List.mem_map.mp hm;dsimp only at e;by_cases hc:(j == lN&&env.scope.kind == .function&&env.kindOf n == some .cell)=true
  ·rw [if_pos hc] at e;rw [aQ,aQ] at hc;injection e with e1 e2
   have ej:j=.free:=eq_of_beq hc.1.1;rw [ej,e1] at hj;exact hj
  ·rw [if_neg hc] at e;injection e with e1 e2
   subst e1;rcases hkk with r | r
   ·exact absurd (e2.trans r) (rT _ hj)
   ·rw [e2.trans r] at hj; exact hj
 rcases h with h | h
 ·exact go _ h (.inl rfl)
 ·exact go _ h (.inr rfl)
section
variable {X:Cx} {N:List Str} {scope:Scope} {fp:List Addr} {ZB:List (Addr×Obj)} {σ:L2.St} {H:Hp} {s:az} {C:Addr}
theorem Yh(I:Inv X ZB σ H s)(rT:∀ y∈scope.names,y.2≠.cell)(Dy:scope.kind=.function)(rS:∀ y∈scope.names,y.2=.free->X.env.kindOf y.1=some .cell)(hC:s.heap.objs.size<=C)(hfp:∀ b∈fp,o4 X ZB H b/\b < s.heap.objs.size):(fm X N scope C s H fp).Ok:=by
 have O5:∀ y∈scope.names,y.2=.free->∃ c,X.env.cells.lookup y.1=some c:=fun y hy hf=>I.ok.has _ (.inl (rS y hy hf));have Wx:∀ x c,(ib X.env scope.names []).lookup x=some c->X.env.cells.lookup x=some c:=fun x c e=>wo O5 (fun y c q=>by simp at q) e;refine⟨I.ok.mod,Dy,I.ok.glob,I.ok.blt,hC,fun x y c h1 h2=>I.ok.inj x y c (Wx x c h1) (Wx y c h2),fun x hx=>?_,fun x c h=>absurd h (by simp),I.ok.hd,I.ok.frames,.inl rfl,fun b hb=>?_,I.bs,cw I.ok.S5 I.sz,fun b o e hb=>?_,fun b hb=>?_,I.stack,I.Ew⟩
 ·exact qO (.inl (wI hx rT))
 ·obtain⟨⟨f0,f1,f2,f3,f4,f5⟩,mj⟩:=hfp b hb;exact⟨bQ (bX mj hC),fun x c e=>f4 x c (Wx x c e)⟩
 ·obtain⟨⟨f0,f1,f2,f3,f4,f5⟩,mj⟩:=hfp b hb;rcases f3 with f3 | f3
  ·exact I.ok.K0 b o e f3
  ·exact absurd (bX (aR e) (cw I.ok.S5 f3)) (gE _)
 ·obtain⟨⟨f0,f1,f2,f3,f4,f5⟩,mj⟩:=hfp b hb;intro z;rcases List.mem_cons.mp (I.Ky b z) with e | e
  ·exact f1 e
  ·exact f2 e
theorem Vt{uH:Heap}{m:Nat}{fr:List Nat}{tk:Nat}(I:Inv X ZB σ H s)(ok:(fm X N scope s.heap.objs.size s H fp).Ok)(XX:∀ y∈scope.names,y.2≠.cell)(rS:∀ y∈scope.names,y.2=.free->X.env.kindOf y.1=some .cell)(hN:N.length=m+fr.length)
  (hfr:∀ j i x,fr[j]?=some i->N[m+j]?=some x->X.N[i]?=some x/\X.env.scope.names.lookup x=some .cell/\(JN scope X.env).names.lookup x=some .cell) (OY:∃ mm,uH.Ns s.heap.objs.size mm) (hk:∀ b o,s.heap.get? b=some o->uH.get? b=some o) :
  Inv (fm X N scope s.heap.objs.size s H fp) [] (aI m none++fr.map fun i=>(σ[i]?).getD none) H { s with heap:=uH,toks:=tk }:=by
 have O5:∀ y∈scope.names,y.2=.free->∃ c,X.env.cells.lookup y.1=some c:=fun y hy hf=>I.ok.has _ (.inl (rS y hy hf));have Wx:∀ x c,(ib X.env scope.names []).lookup x=some c->X.env.cells.lookup x=some c:=fun x c e=>wo O5 (fun y c q=>by simp at q) e;obtain⟨mm,OY⟩:=OY;refine⟨ok,rfl,I.bare,Un.kept hk,⟨mm,OY,fun i x v h1 h2 h3=>?_⟩,fun x c e=>?_,I.cB.fresh (aK _),fun x c e=>?_,fun p hp=>absurd hp (by simp),I.cB.kept hk,?_⟩
 ·by_cases hi:i < m
  ·rw [dG (by simpa using hi),gZ] at h2;split at h2 <;> cases h2
  ·obtain⟨j,rfl⟩:∃ j,i=m+j:=⟨i - m,by lia⟩;rw [cE (by simp),bE,ju,bu] at h2;cases hj:fr[j]? with
   | none=>rw [hj] at h2; cases h2
   | some k =>
    rw [hj] at h2;have Sg:(σ[k]?).getD none=some v:=by simpa using h2
    have TU:σ[k]?=some (some v):=by
     cases q:σ[k]? with
     | none=>rw [q] at Sg; cases Sg
     | some o=>rw [q] at Sg; simp at Sg; rw [Sg]
    obtain⟨e1,e2,e3⟩:=hfr j k x hj h1;obtain⟨m0,hn0,hl0⟩:=I.loc;obtain⟨u,r,l⟩:=hl0 k x v e1 TU (.inr (.inl e2));refine⟨u,r,.inr ⟨.inl e3,?_⟩⟩;rcases l with ⟨l1,_⟩ | ⟨_,c,hc,rT⟩
    ·have:X.env.scope.names.lookup x=some .local:=l1;rw [e2] at this; cases this
    ·have hx:(x,lN)∈scope.names:=wI (.inl e3) XX;obtain⟨c',PV⟩:=qO (env:=X.env) (x:=x) (ns:=scope.names) (WF:=[]) (.inl hx);have:=Wx x c' PV;rw [hc] at this;have ec:c=c':=bN this;subst ec;obtain⟨oc,YG,hd⟩:=rT;exact⟨c,PV,oc,hk _ _ YG,hd⟩
 ·obtain⟨v,oc,YG,hd⟩:=I.cell x c (Wx x c e);exact⟨v,oc,hk _ _ YG,hd⟩
 ·exact I.jG x c (Wx x c e)
 ·rw [aw,bE,ag];exact hN.symm
theorem FJ{prog:bT}{w:World}{A:eu}{R:Result->az->Prop}{s:az}{elt target iter:Expr}{ifs:List Expr}{sc:Scope}{pos:Pos}{it WF:Value}{env:Env}(J:Nat->az->Prop)
  (turn:∀ n s,J n s->wpAny (model prog w) A (sv it) (fun r gx=>match r with
   | none=>R (.ok .next) gx
   | some v=>wpAny (model prog w) A (Ar target it v) (fun _ Y8=>wpAny (model prog w) A (P9 target env v) (fun _ vm =>
     wpAny (model prog w) A (forIn ifs true fun c r=>if r=true then do let ok ← isTrue c env (eval c env); pure (uz ok) else pure (uz r)) (fun k Eu =>
      if k=true then wpAny (model prog w) A (eval elt env) (fun x Oe=>wpAny (model prog w) A (call (.builtin "list.append") [WF,x]) (fun _ Qs=>∃ m,m < n/\J m Qs) (fun _ _=>False) Oe) (fun _ _=>False) Eu
      else ∃ m,m < n/\J m Eu) (fun _ _=>False) vm) (fun _ _=>False) Y8) (fun _ _=>False) gx) (fun _ _=>False) s) (n:Nat) (h:J n s) :
  xY (model prog w) A (.compLoop (.ListComp elt [⟨target,iter,ifs,0⟩] sc pos) 0 it WF env) R s:=by
 have no:∀ {α:Type} {t:Sem α} {Q:α->az->Prop} {E:Value->az->Prop} {s:az},wpAny (model prog w) A t Q (fun _ _=>False) s->wpAny (model prog w) A t Q E s:=fun h=>jq h (fun _ _ q=>q) fun _ _ z=>z.elim;refine codeAny_loop rfl J (fun n s hJ=>?_) n h;show wpAny _ A ((compTurn (.ListComp elt [⟨target,iter,ifs,0⟩] sc pos) 0 it WF env).onRaise (fun x=>do noteFrame x env; theTreesLotGoes x)) _ _ s;refine wpAny_noted ?_;rw [compTurn_list];refine af (wpAny_standAt (af (g6 (no (turn n s hJ)) fun r gx uH=>?_)));cases r with
 | none=>exact aq uH
 | some v =>
  refine af (g6 (no uH) fun _ vm RR=>af (g6 (no RR) fun _ Eu adl=>af (g6 (no adl) fun k Oe Z0=>?_)));cases k with
  | false=>exact aq ⟨rfl,Z0⟩
  | true=>exact af (af (g6 (no Z0) fun x Qs adk=>af (g6 (no adk) fun _ agk adj=>aq (aq ⟨rfl,adj⟩))))
def CompEnd(X:Cx)(ZB:List (Addr×Obj))(σ:L2.St)(H:Hp)(G:Gp)(Q:DK)(C Dd:Addr)(s':az):Prop :=
 ∃ m H' G',Inv X ZB σ H' s'/\s'.heap.Ns C m/\o4 X ZB H' C/\Mv X.K H G H' G'/\Q (.ref Dd) G'
inductive Yq (Xc:Cx):List Expr->Option zM->Prop
 | none:Yq Xc [] none
 | some {c:Expr} {t:zM}:Gw Xc c t->Yq Xc [c] (some t)
theorem DM{τ:iS}{G G2:Gp}{H2:Hp}{s2:az}{tg elt iter:Expr}{ifs:List Expr}{pos:Pos}{m:Nat}{fr:List Nat}{E:md}{g:CD}{c:Option zM}{te:gN}{J:It}{tn:Nat->Heap->Prop}{it:Addr}{ds:List D}{ok:Gp->Prop}{Q:DK}{Rr:Value->Addr->Result->az->Prop}{E0:Value->az->Prop}
  (hc:X.calm=true) (rT:∀ y∈scope.names,y.2≠.cell) (Dy:scope.kind=.function) (rS:∀ y∈scope.names,y.2=.free->X.env.kindOf y.1=some .cell) (hN:N.length=m+fr.length)
  (hfr:∀ j i x,fr[j]?=some i->N[m+j]?=some x->X.N[i]?=some x/\X.env.scope.names.lookup x=some .cell/\(JN scope X.env).names.lookup x=some .cell)
  (hg:∀ C s H fp,PZ (fm X N scope C s H fp) tg g) (hi:∀ C s H fp,Yq (fm X N scope C s H fp) ifs c) (he:∀ C s H fp,ia (fm X N scope C s H fp) elt te)
  (I:I2 X ZB σ H2 τ G2 s2) (m2:Mv X.K H G H2 G2) (T:Turn X.prog X.w X.K tg J fp it tn) (PR:tn 0 s2.heap) (f2:∀ b∈fp,o4 X ZB H2 b) (wk:Wd X.K J H2 ds ok) (hz:ds.length<=SZ)
  (hE0:∀ ex G,¬ E ex G) (q:j0 g c te ok ds E (BJ m fr τ) G2 [] fun xs G3=>jH G3 (.lst xs) Q)
  (fin:∀ C s',CompEnd X ZB σ H G Q C s2.heap.objs.size s'->Rr (.ref s2.heap.objs.size) C (.ok .next) s') :
  wpAny (model X.prog X.w) X.A (newList []) (fun WF Eu=>wpAny (model X.prog X.w) X.A (newFunctionEnv scope X.env.globals (ib X.env scope.names []) [] X.env.qual none .none (some X.env)) (fun aaO Oe =>
   xY (model X.prog X.w) X.A (.compStart (.ListComp elt [⟨tg,iter,ifs,0⟩] scope pos) 0 (.ref it) WF { aaO with scope:=JN scope X.env }) (Rr WF aaO.locals) Oe) E0 Eu) E0 s2:=by
 have sz:bx=16777216:=cC;have yC:H2 s2.heap.objs.size=none:=I.inv.cB.fresh (aK _);have X5:G2 s2.heap.objs.size=none:=I.ab.free yC;refine c9 (wpAny_newFunctionEnv rT (by intro y hy; simp at hy) (fun uH R3 RT=>?_) Dy);dsimp only at R3 RT ⊢;have I3:Inv X ZB σ (upd H2 s2.heap.objs.size (.lst [])) { s2 with heap:=s2.heap.push { cls:=.type "list",data:=.seq ([]:List Value).toArray },toks:=s2.toks }:=I.inv.ada (ys:=[]) .nil (cP _);generalize hs3:({ s2 with heap:=s2.heap.push { cls:=.type "list",data:=.seq ([]:List Value).toArray },toks:=s2.toks }:az)=s3 at I3;generalize hH3:upd H2 s2.heap.objs.size (.lst [])=H3 at I3;have eH3:∀ b,b≠s2.heap.objs.size->H3 b=H2 b:=fun b hb=>by rw [<-hH3,bR hb]
 have Ig:s3.heap=s2.heap.push { cls:=.type "list",data:=.seq ([]:List Value).toArray }:=by rw [<-hs3]
 have Zj:s3.heap.objs.size=s2.heap.objs.size+1:=by rw [Ig,Heap.size_push]
 have R9:∀ b∈fp,b < s2.heap.objs.size:=fun b hb=>by
  obtain⟨o,e,_⟩:=T.obj _ _ PR b hb;exact aR e
 have aak:∀ b∈fp,o4 X ZB H3 b/\b < s3.heap.objs.size:=fun b hb=>by
  have hb2:=R9 b hb;obtain⟨f0,f1⟩:=f2 b hb;exact⟨⟨by rw [eH3 b (bQ hb2)]; exact f0,f1⟩,bX hb2 (by rw [Zj]; exact Nat.le_succ _)⟩
 have okc:(fm X N scope s3.heap.objs.size s3 H3 fp).Ok:=Yh I3 rT Dy rS (aK _) aak;have V1:∀ b o,s3.heap.get? b=some o->uH.get? b=some o:=fun b o e=>by
  have hb:b < s3.heap.objs.size:=aR e;refine RT.extBut b o ?_ (aN _ ?_)
  ·rw [<-Ig]; exact bQ hb
  ·rw [<-Ig]; exact e
 have adJ:∃ mm,uH.Ns s3.heap.objs.size mm:=⟨_,by rw [Ig]; exact R3⟩;have I4:=Vt (tk:=s3.toks+([]:List (Str×Value)).length) I3 okc rT rS hN hfr adJ V1;have adf:Kp H2 H3:=by rw [<-hH3]; exact .new yC
 have PY:mx X.K H3 G2:=by rw [<-hH3]; exact(Mv.O0 I.ab yC).ab
 have mv3:Mv X.K H2 G2 H3 G2:=by rw [<-hH3]; exact .O0 I.ab yC
 have st3:Ma X.K H3 (aI m none++fr.map fun i=>(σ[i]?).getD none) (BJ m fr τ):=by
  refine⟨by unfold BJ; rw [aw,aw,ag,ag,bE,bE],fun i d h2=>?_⟩;unfold BJ at h2;by_cases hi:i < m
  ·rw [dG (by simpa using hi),gZ] at h2;split at h2 <;> cases h2
  ·obtain⟨j,rfl⟩:∃ j,i=m+j:=⟨i - m,by lia⟩;rw [cE (by simp),bE,ju,bu] at h2;rw [cE (by simp),bE,ju,bu];cases hj:fr[j]? with
   | none=>rw [hj] at h2; cases h2
   | some k =>
    rw [hj] at h2;have Sg:(τ[k]?).getD none=some d:=by simpa using h2
    have TU:τ[k]?=some (some d):=by
     cases qq:τ[k]? with
     | none=>rw [qq] at Sg; cases Sg
     | some o=>rw [qq] at Sg; simp at Sg; rw [Sg]
    obtain⟨v,e1,e2⟩:=I.st.at' k d TU;exact⟨v,by simp [e1],e2.mono adf⟩
 have hD3:H3 s2.heap.objs.size=some (.lst []):=by rw [<-hH3,cV]
 have Zd:tn 0 uH:=T.keep _ _ _ PR fun b hb o e=>V1 b o (by rw [Ig]; exact aN _ e);have Qx:∀ {Hc:Hp},(∀ b∈fp,Hc b=none)->∀ b∈fp,o4 (fm X N scope s3.heap.objs.size s3 H3 fp) [] Hc b:=fun hn b hb =>
  ⟨hn b hb,(okc.exf b hb).1,okc.Pf b hb,.inl hb,fun x c e=>(okc.exf b hb).2 x c e,fun p hp=>absurd hp (by simp)⟩
 have neD:∀ b∈fp,b≠s2.heap.objs.size:=fun b hb=>bQ (R9 b hb);have loop:xY (model X.prog X.w) X.A (.compLoop (.ListComp elt [⟨tg,iter,ifs,0⟩] scope pos) 0 (.ref it) (.ref s2.heap.objs.size) (fm X N scope s3.heap.objs.size s3 H3 fp).env) (Rr (.ref s2.heap.objs.size) s3.heap.objs.size)
   { s3 with heap:=uH,toks:=s3.toks+([]:List (Str×Value)).length }:=by
  refine FJ (fun n s'=>∃ i Tx Hc Qi Gc vS xJ,I2 (fm X N scope s3.heap.objs.size s3 H3 fp) [] Tx Hc Qi Gc s'/\Gc s2.heap.objs.size=none/\Hc s2.heap.objs.size=some (.lst vS)/\bp X.K Hc vS xJ/\xJ.length<=i/\Mv X.K H2 G2 Hc Gc/\tn i s'.heap/\(∀ b∈fp,Hc b=none) /\
   n=ds.length - i/\i<=ds.length/\j0 g c te ok (ds.drop i) E Qi Gc xJ fun xs G3=>jH G3 (.lst xs) Q) ?_ ds.length
   ⟨0,_,H3,_,G2,[],[],⟨I4,st3,PY⟩,X5,hD3,.nil,aK _,mv3,Zd,fun b hb=>by rw [eH3 b (neD b hb)]; exact(f2 b hb).1,rfl,cP _,q⟩
  rintro n s4 ⟨i,Tx,Hc,Qi,Gc,vS,xJ,Ic,gD,hD,rA,hA,mc,stc,frc,rfl,hle,wq⟩;have kpc:Kp H2 Hc:=mc.kp I.ab;by_cases mj:i < ds.length
  ·rw [gC mj] at wq;obtain⟨okG,wq⟩:=wq;obtain⟨go,yl⟩:=(wk i Hc Gc kpc Ic.ab okG).1 ds[i] (by simp [mj]);refine g6 (T.item (fm X N scope s3.heap.objs.size s3 H3 fp) rfl rfl rfl hc i [] s4 Tx Hc (fun _ _=>False) Ic.inv (Qx frc) stc go) ?_;rintro r s5 ⟨u,hr,h5⟩;subst hr;refine g6 h5 ?_;rintro _ s6 ⟨x,H6,I6,r6,y6,st6,fr6⟩;obtain⟨rd6,m6⟩:=yl x H6 y6;have I6':=I6.pinned (Qx fr6) (T.obj _ _ st6);have J6:I2 (fm X N scope s3.heap.objs.size s3 H3 fp) ([]++oD fp s6.heap) Tx H6 Qi Gc s6:=⟨I6',Ic.st.mono (m6.kp Ic.ab),m6.ab⟩;have back:∀ {YV:L2.St} {H9:Hp} {Yt:iS} {G9:Gp} {s9:az} {aV:List V} {aD:List D},I2 (fm X N scope s3.heap.objs.size s3 H3 fp) ([]++oD fp s6.heap) YV H9 Yt G9 s9->Mv X.K H2 G2 H9 G9->G9 s2.heap.objs.size=none->H9 s2.heap.objs.size=some (.lst aV)->bp X.K H9 aV aD->aD.length<=i+1 ->
     (j0 g c te ok (ds.drop (i+1)) E Yt G9 aD fun xs G3=>jH G3 (.lst xs) Q)->∃ mm,mm < ds.length - i/\∃ i Tx Hc Qi Gc vS xJ,I2 (fm X N scope s3.heap.objs.size s3 H3 fp) [] Tx Hc Qi Gc s9/\Gc s2.heap.objs.size=none/\Hc s2.heap.objs.size=some (.lst vS)/\bp X.K Hc vS xJ/\xJ.length<=i /\
      Mv X.K H2 G2 Hc Gc/\tn i s9.heap/\(∀ b∈fp,Hc b=none)/\mm=ds.length - i/\i<=ds.length/\j0 g c te ok (ds.drop i) E Qi Gc xJ fun xs G3=>jH G3 (.lst xs) Q:=fun {YV H9 Yt G9 s9 aV aD} I9 m9 g9 h9 r9 l9 n9=>by
    refine⟨ds.length - (i+1),by lia,i+1,YV,H9,Yt,G9,aV,aD,⟨I9.inv.sJ,I9.st,I9.ab⟩,g9,h9,r9,l9,m9,T.keep _ _ _ st6 fun b hb o e=>(I9.inv.pin (b,o) (bA _ (bA _ (lX hb e)))).1,fun b hb=>?_,rfl,mj,n9⟩;obtain⟨o,e,d⟩:=T.obj _ _ st6 b hb;exact(I9.inv.pin (b,o) (bA _ (bA _ (lX hb e)))).2.1
   have mc6:=mc.trans m6;have hD6:=m6.keep _ _ hD gD;refine g6 (hg _ _ _ _ E _ s6 Tx H6 Qi Gc x ds[i] u _ (Lk.none hE0) J6 r6 rd6 wq) ?_;rintro _ s7 ⟨PQ,H7,PO,G7,I7,m7,q7⟩;have hD7:=m7.keep _ _ hD6.1 gD;have mc7:=mc6.trans m7;have rA7:=rA.mono ((m6.trans m7).kp Ic.ab);have aaI:∀ (H8:Hp) (G8:Gp) (s8:az),I2 (fm X N scope s3.heap.objs.size s3 H3 fp) ([]++oD fp s6.heap) PQ H8 PO G8 s8->Mv X.K H7 G7 H8 G8->(te E PO G8 fun y G9=>j0 g c te ok (ds.drop (i+1)) E PO G9 (xJ++[y]) fun xs G3=>jH G3 (.lst xs) Q) ->
     wpAny (model X.prog X.w) X.A (eval elt (fm X N scope s3.heap.objs.size s3 H3 fp).env) (fun y Oe=>wpAny (model X.prog X.w) X.A (call (.builtin "list.append") [.ref s2.heap.objs.size,y]) (fun _ Qs=>∃ mm,mm < ds.length - i/\∃ i Tx Hc Qi Gc vS xJ,I2 (fm X N scope s3.heap.objs.size s3 H3 fp) [] Tx Hc Qi Gc Qs/\Gc s2.heap.objs.size=none/\Hc s2.heap.objs.size=some (.lst vS)/\bp X.K Hc vS xJ/\xJ.length<=i /\
      Mv X.K H2 G2 Hc Gc/\tn i Qs.heap/\(∀ b∈fp,Hc b=none)/\mm=ds.length - i/\i<=ds.length/\j0 g c te ok (ds.drop i) E Qi Gc xJ fun xs G3=>jH G3 (.lst xs) Q) (fun _ _=>False) Oe) (fun _ _=>False) s8:=fun H8 G8 s8 I8 m8 q8=>by
    refine kU (he _ _ _ _) (Lk.none hE0) I8 q8 fun v H9 d9 G9 u9 s9 I9 m9 r9 rd9 q9=>?_;have m79:=m8.trans m9;have hD9:=m79.keep _ _ hD7.1 hD7.2;have rA9:=rA7.mono (m79.kp I7.ab);have mc9:=mc7.trans m79;refine g6 (Dp (X:=fm X N scope s3.heap.objs.size s3 H3 fp) _ s9 PQ H9 (.ref s2.heap.objs.size) [v] _ [u9] (fun _ H'=>H'=upd H9 s2.heap.objs.size (.lst (vS++[v]))) I9.inv rfl (.cons r9 .nil)
     ⟨_,vS,v,rfl,rfl,hD9.1,by rw [rA.length,sz]; have:SZ=16777216:=rfl; lia,rfl⟩) ?_
    rintro _ s10 ⟨v10,H10,I10,_,e10⟩;subst e10;have kpA:Kp H9 (upd H9 s2.heap.objs.size (.lst (vS++[v]))):=.putL hD9.1;have abA:mx X.K (upd H9 s2.heap.objs.size (.lst (vS++[v]))) G9:=fun a g' e=>by
     have ne:a≠s2.heap.objs.size:=by rintro rfl; rw [hD9.2] at e; cases e
     exact(I9.ab a g' e).mono kpA (bR ne)
    have mA:Mv X.K H2 G2 (upd H9 s2.heap.objs.size (.lst (vS++[v]))) G9:=⟨fun a o e n=>by
      have ne:a≠s2.heap.objs.size:=fJ e yC;obtain⟨e1,e2⟩:=mc9.keep a o e n;exact⟨by rw [bR ne]; exact e1,e2⟩,fun a n=>by
      by_cases ha:a=s2.heap.objs.size
      ·rw [ha,cV]; simp
      ·rw [bR ha]; exact mc9.kb a n,abA⟩
    exact back ⟨I10,I9.st.mono kpA,abA⟩ mA hD9.2 cV ((rA9.append (.cons rd9 .nil)).mono kpA) (by rw [aw,bg]; lia) q9
   cases hi s3.heap.objs.size s3 H3 fp with
   | none =>
    refine wpAny_tests_nil ?_;rw [if_pos rfl];exact aaI H7 G7 s7 I7 (.refl I7.ab) q7
   | some aao =>
    refine wpAny_tests_one (Od aao (Lk.none hE0) I7 q7 fun k H8 G8 s8 I8 m8 q8=>?_);cases k with
    | true =>
     rw [if_pos rfl] at q8 ⊢;exact aaI H8 G8 s8 I8 m8 q8
    | false =>
     rw [if_neg eV] at q8 ⊢;have hD8:=m8.keep _ _ hD7.1 hD7.2;exact back I8 (mc7.trans m8) hD8.2 hD8.1 (rA7.mono (m8.kp I7.ab)) (by lia) q8
  ·have hn:ds.length<=i:=by lia
   rw [jV hn] at wq;obtain⟨okG,qn⟩:=wq;have stop:=(wk i Hc Gc kpc Ic.ab okG).2 hn;refine g6 (T.done (fm X N scope s3.heap.objs.size s3 H3 fp) rfl rfl rfl hc i [] s4 Tx Hc (fun _ _=>False) Ic.inv (Qx frc) stc stop) ?_;rintro r s5 ⟨hr,I5⟩;subst hr;refine fin s3.heap.objs.size s5 ?_;obtain⟨mm,adK,_⟩:=I5.loc;have hC5:Hc s3.heap.objs.size=none:=I5.free;have I6:Inv X ZB σ Hc s5:=by
    obtain⟨h5,g5,d5,t5,o5⟩:=s5;have eo:o5=s3.os:=I5.os;subst eo;exact I3.call (h':=h5) (g':=g5) (d':=d5) (t':=t5) (ch:=fp) I5.base I5.cB I5.bare fun b hb=>by
     obtain⟨⟨f0,f1,f2',f3,f4,f5⟩,hl⟩:=aak b hb;exact⟨f3,f1,f4,f5⟩
   have mvF:Mv X.K H2 G2 Hc (fG Gc s2.heap.objs.size (.lst xJ)):=⟨fun a o e n=>by
     have ne:a≠s2.heap.objs.size:=fJ e yC;obtain⟨e1,e2⟩:=mc.keep a o e n;exact⟨e1,by rw [fe ne]; exact e2⟩,mc.kb,fun a g' e=>by
     by_cases ha:a=s2.heap.objs.size
     ·subst ha;rw [aM] at e;cases e;exact⟨vS,hD,rA⟩
     ·rw [fe ha] at e;exact Ic.ab a g' e⟩
   exact⟨mm,Hc,_,I6,adK,I3.Im (aK _) hC5,m2.trans mvF,qn _ gD⟩
 have all:xY (model X.prog X.w) X.A (.compStart (.ListComp elt [⟨tg,iter,ifs,0⟩] scope pos) 0 (.ref it) (.ref s2.heap.objs.size) (fm X N scope s3.heap.objs.size s3 H3 fp).env) (Rr (.ref s2.heap.objs.size) s3.heap.objs.size)
   { s3 with heap:=uH,toks:=s3.toks+([]:List (Str×Value)).length }:=codeAny_compStart_list loop (T.self _ 0 _ _ _ Zd loop)
 subst hs3;exact all
end
end K2
end
section
namespace K2
open PySem PySem.Spec PyProof.Rows L2
section
variable {X:Cx} {N:List Str} {scope:Scope} {tg elt iter:Expr} {ifs:List Expr} {pos:Pos} {m:Nat} {fr:List Nat} {wi:Te} {g:CD} {c:Option zM} {te:gN}
structure BV(X:Cx)(N:List Str)(scope:Scope)(m:Nat)(fr:List Nat):Prop where
 cell:∀ y∈scope.names,y.2≠.cell
 kind:scope.kind=.function
 names:∀ y∈scope.names,y.2=.local->scope.names.lookup y.1=some .local
 free:∀ y∈scope.names,y.2=.free->X.env.kindOf y.1=some .cell
 len:N.length=m+fr.length
 at':∀ j i x,fr[j]?=some i->N[m+j]?=some x->X.N[i]?=some x/\X.env.scope.names.lookup x=some .cell/\(JN scope X.env).names.lookup x=some .cell
theorem BV.closed{X:Cx}{N:List Str}{scope:Scope}{m:Nat}{fr:List Nat}(k:BV X N scope m fr){ZB:List (Addr×Obj)}{σ:L2.St}{H:Hp}{s:az}(I:Inv X ZB σ H s):closureFor scope X.env=pure (ib X.env scope.names []) :=
 CC fun y hy hf=>I.ok.has _ (.inl (k.free y hy hf))
theorem OD(hc:X.calm=true)(k:BV X N scope m fr)(hi:Tg X tg iter wi)(hg:∀ C s H fp,PZ (fm X N scope C s H fp) tg g)(XU:∀ C s H fp,Yq (fm X N scope C s H fp) ifs c)(he:∀ C s H fp,ia (fm X N scope C s H fp) elt te)
  (hs:∀ x,lK iter X.env x=pure x:=by intro _; rfl):ia X (.ListComp elt [⟨tg,iter,ifs,0⟩] scope pos) (eF m fr wi g c te):=by
 intro E ZB s σ H τ G Q hE I h;rw [eval_ListComp];refine wpAny_comprehension_free (use:=none) rfl hs (k.closed I.inv) k.kind k.names (g6 (hi E ZB s σ H τ G _ hE I h) fun xv gx uH=>g6 uH fun U5 vm RR=>?_);obtain⟨it,fp,tn,J,H2,G2,ds,ok,e,nV,m2,T,PR,f2,wk,hz,q⟩:=RR;subst e;refine DM (Rr:=fun WF C=>compPost (model X.prog X.w) X.A X.xe none (sr X ZB σ H G Q) WF C) hc k.cell k.kind k.free k.len k.at' hg XU he (I.mv nV m2) m2 T PR f2 wk hz (fun _ _ z=>z) q ?_;rintro C s' ⟨mm,H',G',I',OY,fpC,mv,q'⟩;refine⟨mm,OY,fun h' Bs=>?_⟩;obtain⟨f0,f1,_,f3,f4,f5⟩:=fpC;exact⟨.ref _,H',.ref _,G',I'.turned (t':=s'.toks) (fun b o hb e=>Bs.extBut b o hb e) f0 f1 f3 f4 f5,mv,rfl,.ref _,q'⟩
theorem Hv{i:Nat}{y:Str}{py QB:Pos}(hN:X.N.Nodup)(hyi:X.N[i]?=some y)(hy:X.env.scope.names.lookup y=some .local)(hc:X.calm=true)(k:BV X N scope m fr)(hi:Tg X tg iter wi)(hg:∀ C s H fp,PZ (fm X N scope C s H fp) tg g)
  (XU:∀ C s H fp,Yq (fm X N scope C s H fp) ifs c) (he:∀ C s H fp,ia (fm X N scope C s H fp) elt te) (Z4:Aq (.ListComp elt [⟨tg,iter,ifs,0⟩] scope pos) (some (.Name y py)) QB.line X.env=pure true:=by rfl)
  (hs:∀ x,lK iter X.env x=pure x:=by intro _; rfl):Gx X (.Assign [.Name y py] (.ListComp elt [⟨tg,iter,ifs,0⟩] scope pos) QB) (bM (eF m fr wi g c te) (aJ i)):=by
 intro E ZB s σ H τ G D hE I h;rw [exec_Assign_Name_used _ _ _ _ Z4];refine af (wpAny_standAt (af ?_));show wpAny _ X.A (do let _ ← comprehension (.ListComp elt [⟨tg,iter,ifs,0⟩] scope pos) scope X.env _ (newList []) false (eval iter X.env) (some (P9 (.Name y py) X.env))) _ _ s;refine af (g6 (wpAny_comprehension_free (use:=some (P9 (.Name y py) X.env)) (Q:=fun _ s'=>VC X ZB H G D .next s') rfl hs (k.closed I.inv) k.kind k.names (g6 (hi E ZB s σ H τ G _ hE I h) fun xv gx uH=>g6 uH fun U5 vm RR=>?_)) fun _ s' hq=>aq (aq hq));obtain⟨it,fp,tn,J,H2,G2,ds,ok,e,nV,m2,T,PR,f2,wk,hz,q⟩:=RR;subst e;refine DM (Rr:=fun WF C=>compPost (model X.prog X.w) X.A X.xe (some (P9 (.Name y py) X.env)) (fun _ s'=>VC X ZB H G D .next s') WF C) hc k.cell k.kind k.free k.len k.at' hg XU he (I.mv nV m2) m2 T PR f2 wk hz (fun _ _ z=>z) q ?_;rintro C s' ⟨mm,H',G',I',OY,fpC,mv,q'⟩;show wpAny (model X.prog X.w) X.A (P9 (.Name y py) X.env (.ref vm.heap.objs.size)) _ X.xe s';obtain⟨f0,f1,_,f3,f4,f5⟩:=fpC;refine JL (yf (v:=.ref vm.heap.objs.size) I' hN hyi (.inl hy) rfl (?_) (.inr hy));rintro s3 I3 ⟨a,Z6,ha⟩;have hCa:C≠a:=by
  rcases ha with rfl | ha
  ·exact f1
  ·exact fun e=>f4 y a ha e.symm
 refine⟨mm,OY.sameBut Z6 hCa,fun h' Bs=>?_⟩;exact⟨_,H',_,G',⟨I3.turned (t':=s3.toks) (fun b o hb e=>Bs.extBut b o hb e) f0 f1 f3 f4 f5,(I.st.mono (mv.kp I.ab)).set i (.ref _),mv.ab⟩,mv,q'⟩
theorem dv{i:Nat}{u:FU}{n:Nat}(h:∀ E ds τ G Q,u E ds τ G Q->ds.length=n):∀ E ds τ G Q,fK (aJ i) u E ds τ G Q->ds.length=n+1 :=
 O7 h (fun _ _ _ _ _ _ q k=>k _ _ q) fun _ _ _ _ q=>q
theorem bw (i:Nat) {x:Str} {pos:Pos} (hN:X.N[i]?=some x:=by rfl) (hv:autoParam (Vis X.env.scope x) Ao._auto_1) (hd:(x == ("__debug__" : Str))=false:=by decide)
  (Gs:(x == ("__classdict__" : Str))=false:=by decide):ia X (.Name x pos) (au i):=UP hN hv hd Gs
theorem range_all(bs:List Bool):(aY bs.length).all (fun i=>bs.getD i true)=bs.all id:=by
 rw [xW,eB,eB];constructor
 ·intro h b hb;obtain⟨i,hi,e⟩:=c8 hb;have:=h i (List.mem_range.mpr hi);rw [aF,ah hi,e] at this;exact this
 ·intro h i hi;have B6:=List.mem_range.mp hi;rw [aF,ah B6];exact h _ (cu B6)
theorem AS{K:ak}{H:Hp}:∀ {vs:List V} {bs:List Bool} {bH:List Value},bp K H vs (bs.map D.bl)->Vals vs bH->bH=bs.map B9
 | _,[],_,r,h=>by rw [aX] at r; rw [r.zero] at h; cases h; rfl
 | _,b :: bs,_,r,h=>by
  rw [av] at r;cases r with
  | cons r1 r2 =>
   cases r1;cases h with
   | cons h1 h2 =>
    cases h1;rw [AS r2 h2]; rfl
theorem Lb{ZB:List (Addr×Obj)}{s:az}{σ:L2.St}{H:Hp}{G:Gp}{x:V}{d:D}{v:Value}{zs:List D}(I:Inv X ZB σ H s)(ab:mx X.K H G)(rx:RelV x v)(rd:cM X.K H x d)(hi:itemsOf d G=some zs) :
  ∃ l vs bH,v=.ref l/\Vals vs bH/\bp X.K H vs zs/\(s.heap.IsList l bH.toArray\/s.heap.IsTuple l bH.toArray)/\vs.length<=bx:=by
 cases rd with
 | fx hq rs =>
  cases hi;cases rx;obtain⟨bH,rv,pl,hz⟩:=I.list hq.sq;exact⟨_,_,bH,rfl,rv,rs,.inl pl.isList,hz⟩
 | tup hq rs =>
  cases hi;cases rx;obtain⟨bH,rv,pl,hz⟩:=I.tuple (.of hq);exact⟨_,_,bH,rfl,rv,rs,.inr pl,hz⟩
 | ref l =>
  unfold itemsOf at hi;dsimp only at hi;cases hg:G l with
  | none=>rw [hg] at hi; cases hi
  | some gg =>
   rw [hg] at hi;cases gg with
   | lst ds =>
    cases hi;cases rx;obtain⟨vs,hv,rs⟩:=ab.lst hg;obtain⟨bH,rv,pl,hz⟩:=I.list (.of hv);exact⟨_,_,bH,rfl,rv,rs,.inl pl.isList,hz⟩
   | jg _=>cases hi
 | _=>cases hi
theorem DO (hc:X.calm=true):vW X (.builtin "all") Vz:=by
 intro ZB s σ H G xs ds us Q I ab rx rd q;unfold Vz at q;split at q
 ·rename_i x;obtain⟨bs,hb,q⟩:=q;obtain⟨v,rfl,r⟩:=rd.one;obtain⟨u,rfl,ru⟩:=rx.one;obtain⟨l,vs,bH,rfl,rv,rs,hl,hz⟩:=Lb I ab ru r hb;have ei:=AS rs rv;have hlen:bH.length=bs.length:=by rw [ei,ag]
  have kX:∀ {o:Obj},s.heap.get? l=some o->l≠s.heap.objs.size:=fun e=>bQ (aR e);have tr:TruthOf X.prog X.w X.A.in1 (fun i v=>bH.toArray[i]?=some v) (fun i=>bs.getD i true):=fun i v s' Q' E' hv hq=>by
   subst ei;have Z1:(bs.map B9)[i]?=some v:=by simpa using hv
   rw [bu] at Z1;cases hbi:bs[i]? with
   | none=>rw [hbi] at Z1; cases Z1
   | some b =>
    rw [hbi] at Z1;cases Z1;dsimp only at hq;rw [aF,hbi] at hq;exact pN hq
  have fin:∀ h' tk,(∀ b o,b∉[s.heap.objs.size]->s.heap.get? b=some o->h'.get? b=some o)->sr X ZB σ H G Q (.bool ((aY bH.toArray.size).all fun i=>bs.getD i true)) { s with heap:=h',toks:=tk }:=fun h' tk hk=>by
   rw [a8,hlen,range_all];exact⟨.bl _,H,.bl _,G,I.kept fun b o e=>hk b o (by simpa using bQ (aR e)) e,.refl ab,rfl,.bl _,q⟩
  rcases hl with hl | hl
  ·refine call_all_walk (JJ hl ?_);obtain⟨o,ho,O5,n,hd⟩:=id hl;exact⟨s.heap.objs.size,_,_,_,_,_,_,rfl,Walks.list (A:=X.A.in1) (show X.A.in1.handled=none from I.ok.hd hc) _ l (kX ho) bH.toArray,⟨⟨_,br _ rfl,rfl,rfl⟩,⟨o,aN _ ho,O5,n,hd⟩⟩,tr,fun h' tk hk=>fin h' tk fun b o hb e=>hk b o hb (aN _ e)⟩
  ·refine call_all_walk (wpAny_pyIter_tuple hl ?_);obtain⟨o,ho,O5,n,hd⟩:=id hl;exact⟨s.heap.objs.size,_,_,_,_,_,_,rfl,Walks.tuple (A:=X.A.in1) (show X.A.in1.handled=none from I.ok.hd hc) _ l (kX ho) bH.toArray,⟨⟨_,br _ rfl,rfl,rfl⟩,⟨o,aN _ ho,O5,n,hd⟩⟩,tr,fun h' tk hk=>fin h' tk fun b o hb e=>hk b o hb (aN _ e)⟩
 ·exact q.elim
theorem QY{body:List Stmt}{t2:iC}(h:vT X body t2){E:md}(hE:Lk X E):YO X body (fun D σ H=>∃ (τ:iS) (G:Gp) (D2:nF),Ma X.K H σ τ/\mx X.K H G/\t2 E D2 τ G /\
  (∀ j5 H' nI G',Mv X.K H G H' G'->D2.nx nI G'->D.nx j5 H')/\(∀ v H' d G',Mv X.K H G H' G'->cM X.K H' v d->D2.rt d G'->D.rt v H')/\(∀ τ G,¬ D2.bk τ G)/\(∀ τ G,¬ D2.ct τ G)):=by
 rintro ZB s σ H D I ⟨τ,G,D2,st,ab,q,k1,k2,k3,k4⟩;refine g6 (h E ZB s σ H τ G D2 hE ⟨I,st,ab⟩ q) fun f s1 z=>?_;cases f with
 | next=>obtain⟨j5,H',nI,G',J,mv,z⟩:=z; exact⟨j5,H',J.inv,k1 j5 H' nI G' mv z⟩
 | brk=>obtain⟨j5,H',nI,G',J,mv,z⟩:=z; exact(k3 _ _ z).elim
 | cont=>obtain⟨j5,H',nI,G',J,mv,z⟩:=z; exact(k4 _ _ z).elim
 | ret u=>obtain⟨v,j5,H',d,G',J,mv,r,rd,z⟩:=z; exact⟨v,j5,H',J,r,k2 v H' d G' mv rd z⟩
theorem GZ{K:ak}{H:Hp}{Nn:List Str}{vs:List V}{ds:List D}(r:bp K H vs ds):Ma K H (L2.start Nn vs) (bC Nn.length ds):=by
 unfold L2.start bC;refine⟨by simp [r.length],fun i d h=>?_⟩;by_cases hi:i < ds.length
 ·rw [dG (by simpa using hi),bu] at h;cases hd:ds[i]? with
  | none=>rw [hd] at h; cases h
  | some d' =>
   rw [hd] at h;have e:d'=d:=by simpa using h
   subst e;obtain⟨v,h1,h2⟩:=r.get hd;refine⟨v,?_,h2⟩;rw [dG (by simpa [r.length] using hi),bu,h1]; rfl
 ·rw [cE (by simpa using hi),gZ] at h;split at h <;> cases h
theorem Vj{P:bT}{w:World}{K:ak}{mg:Str->Option Value}{base:Heap}{x qual:Str}{st:Stmt}{f:Addr}{fd:aG}{Nn ps:List Str}{k:Nat}{sp:mw}{rd:iC}(F:oj K x qual st f fd)(S:cx Nn ps (aT st))(len:∀ ds G Q E,sp ds G Q E->ds.length=ps.length)
  (hr:∀ ds G Q,sp ds G Q (fun _ _=>False)->rd (fun _ _=>False) (ends Q) (bC Nn.length ds) G)
  (hb:∀ (oh:Value) (A:eu) (outer:List Env) (s:az) (H:Hp) (E:XK),lM k (A.deeper (Au qual (aT st) s.heap.objs.size f oh))->vT (yP gP P w K mg base Nn qual (aT st) f oh A outer s H E).Yz (jQ st) rd):gf P w K mg base gP (k+1) f fd ps (cX K sp):=by
 refine F.ok S ((by rintro vs H Q E ⟨ds,G,Q2,r,ab,q,_⟩; exact by rw [r.length]; exact len _ _ _ _ q)) ?_;rintro oh A outer s H vs Q E RV ⟨ds,G,Q2,r,ab,q,kk⟩;refine⟨_,QY (hb oh A outer s H E RV) (E:=fun _ _=>False) (Lk.none fun _ _ z=>z),?_⟩;exact⟨bC Nn.length ds,G,ends Q2,GZ r,ab,hr ds G Q2 q,fun j5 H' nI G' mv z=>kk _ _ _ _ z mv .dh,fun v H' d G' mv WT z=>kk _ _ _ _ z mv WT,fun _ _ z=>z,fun _ _ z=>z⟩
def acm(scope sc:Scope):List (Str×uO):=scope.names.map fun (n,k)=>if (k == .free&&sc.kind == .function&&sc.names.lookup n == some .cell) then (n,.cell) else (n,k)
def Aj(N:List Str)(scope:Scope)(m:Nat)(fr:List Nat)(sc:Scope)(XN:List Str):Bool :=
 scope.names.all (fun y=>decide (y.2≠.cell))&&decide (scope.kind=.function)&&scope.names.all (fun y=>!decide (y.2=.local)||decide (scope.names.lookup y.1=some .local)) &&
 scope.names.all (fun y=>!decide (y.2=.free)||decide (sc.names.lookup y.1=some .cell))&&decide (N.length=m+fr.length) &&
 (aY fr.length).all (fun j=>match fr[j]?,N[m+j]? with
  | some i,some x=>decide (XN[i]?=some x)&&decide (sc.names.lookup x=some .cell)&&decide ((acm scope sc).lookup x=some .cell)
  | _,_=>false)
theorem DN{sc:Scope}{XN:List Str}(Z5:X.env.scope=sc)(hXN:X.N=XN)(hb:Aj N scope m fr sc XN=true):BV X N scope m fr:=by
 subst Z5 hXN;unfold Aj at hb;simp only [aQ] at hb;obtain⟨⟨⟨⟨⟨h1,h2⟩,h3⟩,h4⟩,h5⟩,h6⟩:=hb;refine⟨fun y hy=>of_decide_eq_true (List.all_eq_true.mp h1 y hy),of_decide_eq_true h2,fun y hy hl=>?_,fun y hy hl=>?_,of_decide_eq_true h5,fun j i x e1 e2=>?_⟩
 ·have:=List.all_eq_true.mp h3 y hy;simp only [hl,decide_true,bG,PM] at this;exact of_decide_eq_true this
 ·have:=List.all_eq_true.mp h4 y hy;simp only [hl,decide_true,bG,PM] at this;exact of_decide_eq_true this
 ·have hj:j < fr.length:=(List.getElem?_eq_some_iff.mp e1).1;have:=List.all_eq_true.mp h6 j (List.mem_range.mpr hj);rw [e1,e2] at this;simp only [aQ] at this;exact⟨of_decide_eq_true this.1.1,of_decide_eq_true this.1.2,of_decide_eq_true this.2⟩
theorem gH(N:List Str){sc:Scope}{XN:List Str}(hi:Tg X tg iter wi)(hg:∀ C s H fp,PZ (fm X N scope C s H fp) tg g)(XU:∀ C s H fp,Yq (fm X N scope C s H fp) ifs c)(he:∀ C s H fp,ia (fm X N scope C s H fp) elt te)
  (Z5:X.env.scope=sc:=by rfl) (hXN:X.N=XN:=by rfl) (hb:Aj N scope m fr sc XN=true:=by decide +kernel) (hc:X.calm=true:=by rfl) (hs:∀ x,lK iter X.env x=pure x:=by intro _; rfl):ia X (.ListComp elt [⟨tg,iter,ifs,0⟩] scope pos) (eF m fr wi g c te) :=
 OD hc (DN Z5 hXN hb) hi hg XU he hs
theorem oB(N:List Str){sc:Scope}{XN:List Str}{i:Nat}{y:Str}{py QB:Pos}(hN:X.N.Nodup)(hyi:X.N[i]?=some y)(hy:X.env.scope.names.lookup y=some .local)(hi:Tg X tg iter wi)(hg:∀ C s H fp,PZ (fm X N scope C s H fp) tg g)
  (XU:∀ C s H fp,Yq (fm X N scope C s H fp) ifs c) (he:∀ C s H fp,ia (fm X N scope C s H fp) elt te) (Z5:X.env.scope=sc:=by rfl) (hXN:X.N=XN:=by rfl) (hb:Aj N scope m fr sc XN=true:=by decide +kernel) (hc:X.calm=true:=by rfl)
  (Z4:Aq (.ListComp elt [⟨tg,iter,ifs,0⟩] scope pos) (some (.Name y py)) QB.line X.env=pure true:=by rfl) (hs:∀ x,lK iter X.env x=pure x:=by intro _; rfl) :
  Gx X (.Assign [.Name y py] (.ListComp elt [⟨tg,iter,ifs,0⟩] scope pos) QB) (bM (eF m fr wi g c te) (aJ i)) :=
 Hv hN hyi hy hc (DN Z5 hXN hb) hi hg XU he Z4 hs
theorem OQ{K:ak}{H:Hp}{a:Addr}{ns:List Int}(hO:VF H)(hS:rW K H a (ns.map V.int))(hl:ns.length<=63):cX K C0 [.ref a] H (fun v _=>v=.bl true) fun _ _ _=>False:=by
 have hF:YN K H a (ns.map V.int):=by
  rcases hS with (h | ⟨o,h⟩) | h
  ·rcases hO a with z | ⟨o,xs,z⟩
   ·rw [z] at h; cases h
   ·rw [z] at h; cases h
  ·exact .inl ⟨o,h⟩
  ·exact .inr h
 refine⟨[.fx (ns.map D.int)],fun _=>none,fun d _=>d=.bl true,.cons (.fx hF (bp.EY ns)) .nil,fun a g e=>(by cases e),⟨ns,rfl,hl,fun _=>rfl,fun _=>rfl⟩,fun d G' v H' e mv r=>?_⟩;subst e;cases r;rfl
theorem Ry{l:D1}{q:bT}{loose:List Str}{XP:(Str->Option Value)->Heap->Prop}{YP:World->Heap->Prop}{d:DefRec}{K:Params->ak}{k:Nat}{x:Str}(hn:l.most=some 63)(hdf:d.params.defaults=[])(hr:lM k JP)
  (hY:∀ (w:World) (h:Heap),YP w h->(K w.params).In h)
  (F:∀ (w:World) (mg:Str->Option Value) (fa:Addr) (h:Heap),(K w.params).In h->h.Ns bP mg->mg d.name=some (.ref fa) ->
   ∃ fd:aG,(∀ (s:az) (u:Value),Qh s fd ⟨[u],[]⟩ [(x,u)])/\∀ base:Heap,(K w.params).In base->base.Ns bP mg->gf l.prog w (K w.params) mg base gP k fa fd [x] (cX (K w.params) C0)) :
  PySem.W.WalkO q loose XP YP l.row.toRowW d [] (fun f vs=>Md f vs) :=
 L2.Ul (n:=63) (k:=k) (x:=x) (CX:=fun _=>gP) (sp:=fun w=>cX (K w.params) C0) hn (by decide) hdf hr hY F (fun _ _ _ _ hl hO hS=>OQ hO hS hl) fun _ _ _ _ _ z=>z
end
end K2
end
section
namespace K2
open PySem PySem.Spec PyProof.Rows L2
def LO:HO->Bool
 | .lst _=>true
 | .dK _=>true
 | .dT _=>true
 | _=>false
def nh(h:Heap)(S:Addr->Bool)(H:Hp):Hp:=fun a=>match H a with
 | some u=>if (LO u&&S a)=true then (match h.get? a with
  | some o=>some (.lB o u)
  | none=>some u) else some u
 | none=>none
section
variable {h:Heap} {S:Addr->Bool} {H:Hp} {a:Addr}
theorem Lm(n:∀ u,H a=some u->LO u=false):nh h S H a=H a:=by
 unfold nh;cases e:H a with
 | none=>rfl
 | some u=>simp only [n u e,sk,aC,if_false]
theorem xl(hs:S a=false):nh h S H a=H a:=by
 unfold nh;cases e:H a with
 | none=>rfl
 | some u=>simp only [hs,zE,aC,if_false]
theorem uk{u:HO}{o:Obj}(hs:S a=true)(e:H a=some u)(hu:LO u=true)(ho:h.get? a=some o):nh h S H a=some (.lB o u):=by
 unfold nh;simp only [e,hs,hu,Bool.and_self,if_true,ho]
theorem qt(e:H a=none):nh h S H a=none:=by unfold nh; rw [e]
theorem pF{u:HO}(e:H a=some u)(hu:LO u=false):nh h S H a=some u:=by rw [Lm (fun v z=>by rw [e] at z; cases z; exact hu)]; exact e
theorem uj:Kp H (nh h S H):=⟨fun a xs e=>pF e rfl,fun a o u e=>pF e rfl⟩
end
section
variable {X:Cx} {ZB:List (Addr×Obj)} {σ:L2.St} {H:Hp} {s:az} {G:Gp}
theorem Inv.freeze(I : Inv X ZB σ H s)(S : Addr -> Bool) : Inv X ZB σ (nh s.heap S H) s where
  ok := I.ok
  os := I.os
  bare := I.bare
  base := { keep := I.base.keep, slot := I.base.slot, there := I.base.there
            free := fun b o q n hx => qt (I.base.free b o q n hx)
            sd := fun b xs q => pF (I.base.sd b xs q) rfl
            rq := fun b o u q => pF (I.base.rq b o u q) rfl
            uB := fun b ps q => by
              obtain⟨more, e⟩ := I.base.uB b ps q;exact⟨more, pF e rfl⟩ }
  loc := I.loc
  cell := I.cell
  free := qt I.free
  jG := fun x c e => qt (I.jG x c e)
  pin := fun p hp => let ⟨h1, h2, h3⟩ := I.pin p hp; ⟨h1, qt h2, h3⟩
  cB := fun a o q => by
    have st : ∀ u, H a = some u -> ij X.prog X.w (nh s.heap S H) s.heap a u := fun u e =>
      (I.cB a u e).kb (fun b v _ r => r) (fun b r => pF r rfl) (fun b xs r => pF r rfl)
    cases e : H a with
    | none => rw [qt e] at q; cases q
    | some u =>
      by_cases hc : LO u = true
      · by_cases hs : S a = true
        · obtain⟨ob, ho⟩ := lV (I.cB a _ e)
          rw [uk hs e hc ho] at q;cases q;exact⟨ho, st _ e⟩
        · rw [xl (by simpa using hs), e] at q
          cases q;exact st _ e
      · rw [pF e (by simpa using hc)] at q
        cases q;exact st _ e
  len := I.len
def jW(R:Nat->Bool)(G:Gp):Addr->Bool:=fun a=>R a&&(G a).isSome
theorem DE(I:Inv X ZB σ H s)(ab:mx X.K H G)(R:Nat->Bool):Mv X.K H G (nh s.heap (jW R G) H) (IJ R G) where
 keep:=fun a o e n=>by
  refine⟨by rw [xl (by simp [jW,n])]; exact e,?_⟩;unfold IJ; split
  ·rfl
  ·exact n
 kb:=fun a n=>by
  cases q:G a with
  | none=>exact absurd q n
  | some g =>
   have t:=(ab a g q).tracked;cases e:H a with
   | none=>exact absurd e t
   | some u =>
    unfold nh;rw [e];dsimp only;split
    ·split <;> simp
    ·simp
 ab:=fun a g e=>by
  unfold IJ at e;split at e
  ·cases e
  ·rename_i hr;exact(ab a g e).mono uj (xl (by simp [jW,hr]))
theorem Lj(I:Inv X ZB σ H s)(ab:mx X.K H G){R:Nat->Bool}:∀ {d t:D} {v:V},Fz G R d t->cM X.K H v d->cM X.K (nh s.heap (jW R G) H) v t:=by
 intro d t v h;revert v;refine Fz.rec (motive_1:=fun d t _=>∀ {v:V},cM X.K H v d->cM X.K (nh s.heap (jW R G) H) v t)
  (motive_2:=fun ds ts _=>∀ {vs:List V},bp X.K H vs ds->bp X.K (nh s.heap (jW R G) H) vs ts)
  (motive_3:=fun ds ts _=>(∀ {vs:List (Key×V)},pM X.K H vs ds->pM X.K (nh s.heap (jW R G) H) vs ts)/\∀ {vs:List (List Key×V)},mS X.K H vs ds->mS X.K (nh s.heap (jW R G) H) vs ts)
  ?_ ?_ ?_ ?_ ?_ ?_ ?_ ?_ ?_ h
 ·intro d v r; exact r.mono uj
 ·intro ds ss _ ih v r;cases r with
  | tup h rs=>exact .tup (uj.tup _ _ h) (ih rs)
 ·intro ds ss _ ih v r;cases r with
  | fx h rs=>exact .fx (uj.WH h) (ih rs)
 ·intro a ds ss g hr _ ih v r;cases r;obtain⟨vs,hv,rs⟩:=ab a _ g;obtain⟨ob,ho⟩:=lV (I.cB a _ hv);exact .fx (.inl ⟨_,uk (by simp [jW,hr,g]) hv rfl ho⟩) (ih rs)
 ·intro a ds ss g hr _ ih v r;cases r;rcases ab a _ g with ⟨kv,hv,rs⟩ | ⟨kv,hv,rs⟩
  ·obtain⟨ob,ho⟩:=lV (I.cB a _ hv);exact .pS (uk (by simp [jW,hr,g]) hv rfl ho) (ih.1 rs)
  ·obtain⟨ob,ho⟩:=lV (I.cB a _ hv);exact .pR (uk (by simp [jW,hr,g]) hv rfl ho) (ih.2 rs)
 ·intro vs r; cases r; exact .nil
 ·intro d s ds ss _ _ i1 i2 vs r;cases r with
  | cons r rs=>exact .cons (i1 r) (i2 rs)
 ·exact⟨fun r=>by cases r; exact .nil,fun r=>by cases r; exact .nil⟩
 ·intro k d s ds ss _ _ i1 i2;exact⟨fun r=>by cases r with | cons r rs=>exact .cons (i1 r) (i2.1 rs),fun r=>by cases r with | cons r rs=>exact .cons (i1 r) (i2.2 rs)⟩
variable {e:Expr} {te:gN} {st:Stmt} {t:iC}
theorem cj(he:ia X e te):ia X e (fQ te):=by
 intro E ZB s σ H τ G Q hE I h;refine g6 (he E ZB s σ H τ G _ hE I h) ?_;rintro u s1 ⟨v,H1,d,G1,I1,m,r,rd,R,t,hf,q⟩;exact⟨v,_,t,_,Inv.freeze I1 _,m.trans (DE I1 m.ab R),r,Lj I1 m.ab hf rd,q⟩
theorem MR{i:Nat}(h1:Gx X st t):Gx X st (Vs i t):=by
 intro E ZB s σ H τ G D hE I h;refine g6 (h1 E ZB s σ H τ G _ hE I h) fun f s1 z=>?_;cases f with
 | next =>
  obtain⟨j5,H',nI,G',I',m,q⟩:=z;simp only at q;split at q
  ·rename_i d hd;obtain⟨R,t,hf,q⟩:=q;obtain⟨v,hv,rv⟩:=I'.st.at' i d hd;have a1:=(I'.st.mono (H':=nh s1.heap (jW R G') H') uj).set i (Lj I'.inv I'.ab hf rv);have es:j5.set i (some v)=j5:=by
    have hi:i < j5.length:=(List.getElem?_eq_some_iff.mp hv).1;have e2:=(List.getElem?_eq_some_iff.mp hv).2;rw [<-e2]; exact List.set_getElem_self hi
   rw [es] at a1;have m2:=DE I'.inv I'.ab R;exact⟨j5,_,_,_,⟨Inv.freeze I'.inv _,a1,m2.ab⟩,m.trans m2,q⟩
  ·exact q.elim
 | ret v=>exact z
 | brk=>exact z
 | cont=>exact z
end
end K2
end
section
namespace K2
open PySem PySem.Spec PyProof.Rows L2
theorem j3:fH "len" = some (.builtin "len"):=by decide +kernel
theorem S4:fH "all" = some (.builtin "all"):=by decide +kernel
theorem DQ:fH "sorted" = some (.builtin "sorted"):=by decide +kernel
theorem xF:fH "list" = some (.type "list"):=by decide +kernel
theorem Yn:fH "int" = some (.type "int"):=by decide +kernel
theorem VB:fH "bool" = some (.type "bool"):=by decide +kernel
section
variable {X:Cx} {a b c e o:Expr} {es:List Expr} {ta tb tc te to:gN} {t:CF} {pos p p2 apos jh:Pos} {x name:Str} {id T:String} {k:Nat} {f:Addr} {fd:aG} {ps:List Str} {sp:mw}
theorem bh(F:gf X.prog X.w X.K X.mg X.base gP k f fd ps (cX X.K sp))(hr:lM k X.A)(hg:Gl X x)(hm:X.mg x=some (.ref f))(hk:ji X.K (.ref f)=true)(hb:Binds X.K fd ps [])
  (ha:Gy X (e :: es) t) (Co:(x == ("__debug__" : Str))=false:=by decide) (he:bJ (e :: es) X.env=(false,eval e X.env) :: bJ es X.env:=by rfl) (Bt:(iT pos (bJ es X.env)).any (·.1)=false:=by rfl) :
  ia X (.Call (.Name x p) (e :: es) [] pos) (bW sp t):=Rb F hr hg hm hk hb ha Co he Bt
end
end K2
end
section
namespace L2
open PySem PySem.Spec PyProof.Rows
section
variable {X:Cx} {ZB:List (Addr×Obj)} {σ:St} {H:Hp} {s:az} {h':Heap}
theorem Inv.wm{t':Nat}{fp:List Addr}(I:Inv X ZB σ H s)(hf:∀ b∈fp,o4 X ZB H b)(k:∀ b o,b∉fp->s.heap.get? b=some o->h'.get? b=some o):Inv X ZB σ H { s with heap:=h',toks:=t' }:=by
 have nt:∀ b u,H b=some u->b∉fp:=fun b u e z=>by rw [(hf b z).1] at e; cases e
 refine I.step (g':=s.gens) (d':=s.drawn) (ch:=fp) (fun b hb=>?_) (fun b o _ _ hc e _=>k b o hc e) (fun b o _ _ hc e _=>⟨o.slots,k b o hc e⟩) (fun _ _ _ _ n=>n)
  (fun b o hc e=>⟨o,k b o hc e⟩) (fun _ _ e=>e) (fun _ _ _ e=>e) (fun b ps e=>⟨#[],by rw [e]; simp⟩) (fun m hm=>?_) (fun b u e=>?_) I.bare
 ·obtain⟨f0,f1,f2,f3,f4,f5⟩:=hf b hb;exact⟨f3,f1,f4,f5⟩
 ·obtain⟨o,es,ep,ho,r⟩:=hm;exact⟨o,es,ep,k _ _ (fun z=>(hf _ z).2.1 rfl) ho,r⟩
 ·refine(I.cB b u e).kb (fun c v hc r=>k c v ?_ r) (fun _ z=>z) (fun _ _ z=>z);rcases hc with rfl | hc
  ·exact nt _ _ e
  ·exact nt _ _ hc
theorem Inv.Eo{t':Nat}{fp:List Addr}{T:Addr}{vs:List V}(I:Inv X ZB σ H s)(hf:∀ b∈fp,o4 X ZB H b)(k:∀ b o,b∉fp->s.heap.get? b=some o->h'.get? b=some o)(hT:s.heap.objs.size<=T)
  (new:ij X.prog X.w (upd H T (.tup vs)) h' T (.tup vs)):Inv X ZB σ (upd H T (.tup vs)) { s with heap:=h',toks:=t' }:=by
 have hn:H T=none:=I.cB.fresh hT;have ht:∀ b o,s.heap.get? b=some o->b≠T:=fun b o e z=>by subst z; exact absurd (aR e) (Nat.not_lt.mpr hT)
 have nt:∀ b u,H b=some u->b∉fp:=fun b u e z=>by rw [(hf b z).1] at e; cases e
 have ne:∀ b u,H b=some u->b≠T:=fun b u e=>fJ e hn;refine I.step (g':=s.gens) (d':=s.drawn) (ch:=fp) (fun b hb=>?_) (fun b o _ _ hc e _=>k b o hc e) (fun b o _ _ hc e _=>⟨o.slots,k b o hc e⟩) (fun b o _ e n=>by rw [bR (ht b o e)]; exact n)
  (fun b o hc e=>⟨o,k b o hc e⟩) (fun b xs e=>by rw [bR (ne _ _ e)]; exact e) (fun b o u e=>by rw [bR (ne _ _ e)]; exact e) (fun b ps e=>⟨#[],by rw [bR (ne _ _ e),e]; simp⟩) (fun m hm=>?_) (fun b u e=>?_) I.bare
 ·obtain⟨f0,f1,f2,f3,f4,f5⟩:=hf b hb;exact⟨f3,f1,f4,f5⟩
 ·obtain⟨o,es,ep,ho,r⟩:=hm;exact⟨o,es,ep,k _ _ (fun z=>(hf _ z).2.1 rfl) ho,r⟩
 ·by_cases hb:b=T
  ·subst hb; rw [cV] at e; cases e; exact new
  ·rw [bR hb] at e;refine(I.cB b u e).kb (fun c v hc r=>k c v ?_ r) (fun c z=>by rw [bR (ne _ _ z)]; exact z) (fun c xs z=>by rw [bR (ne _ _ z)]; exact z);rcases hc with rfl | hc
   ·exact nt _ _ e
   ·exact nt _ _ hc
theorem o4.upd{b T:Addr}{o:HO}(h:o4 X ZB H b)(hb:b≠T):o4 X ZB (L2.upd H T o) b:=by
 obtain⟨f0,r⟩:=h;exact⟨by rw [bR hb]; exact f0,r⟩
end
def Ite(K:ak)(a:Addr):It :=
  ⟨fun i H=>∃ xs x,rW K H a xs/\xs[i]?=some x,
   fun i H v H'=>∃ T y,v=.ref T/\H T=none/\H'=upd H T (.tup [.int i,y])/\∀ xs,rW K H a xs->xs[i]?=some y,
   fun i H=>∃ xs,rW K H a xs/\xs.length<=i⟩
theorem N8{P:bT}{w:World}{K:ak}{elts:List Expr}{kk:Nat}{pos:Pos}(a e it:Addr)(kX:e≠it) :
  Turn P w K (.Tuple elts kk pos) (Ite K a) [e,it] e (fun i h=>(∃ old,IsEnum h e it i old)/\h.IsListIter it a i) where
 mem:=by simp
 obj:=fun i h JE b hb=>by
  obtain⟨⟨old,he⟩,hit⟩:=JE;rcases List.mem_cons.mp hb with rfl | hb
  ·exact⟨_,he,fun v z=>by cases z⟩
  ·have e:b=it:=by simpa using hb
   subst e;obtain⟨o,e,c,d⟩:=hit;exact⟨o,e,fun v z=>by rw [d] at z; cases z⟩
 keep:=(by rintro i h h' ⟨⟨old,he⟩,hit⟩ k; exact⟨⟨old,k e (by simp) _ he⟩,hit.at fun o q=>k it (by simp) o q⟩)
 item:=by
  intro X hP hw hK hc i ZB s σ H E I hf st hg;obtain⟨⟨old,he⟩,hit⟩:=st;subst hP hw hK;obtain⟨xs,x,hq,hx⟩:=hg;obtain⟨bH,rv,p,hz⟩:=I.list hq;obtain⟨u,hu,ru⟩:=rv.get hx;have hTn:H s.heap.objs.size=none:=I.cB.fresh (aK _);have heT:e≠s.heap.objs.size:=bQ (aR he);have hiT:it≠s.heap.objs.size:=by obtain⟨o,q,_⟩:=hit; exact bQ (aR q)
  refine wpAny_pyNext_enum_item he hit p.isList (x:=u) (by simpa using hu) kX fun h' ho adS hT hsz kk=>?_;refine⟨_,rfl,?_⟩;have I1:Inv X ZB σ (upd H s.heap.objs.size (.tup [.int i,x])) { s with heap:=h',toks:=s.toks+1 } :=
   I.Eo (fp:=[e,it]) hf (fun b o hb q=>kk b o (fun z=>hb (by simp [z])) (fun z=>hb (by simp [z])) q) (aK _)
    ⟨by show 2<=bx; decide,[.int i s.toks,u],.cons ⟨_,rfl⟩ (.cons ru .nil),⟨_,hT,rfl,_,rfl⟩⟩
  refine wpAny_letOwnedTupleGo_enum (s:={ s with heap:=h',toks:=s.toks+1 }) ho fun h2 XW Ad=>?_;have f1:∀ b∈[e,it],o4 X ZB (upd H s.heap.objs.size (.tup [.int i,x])) b:=fun b hb=>(hf b hb).upd (by
   rcases List.mem_cons.mp hb with rfl | hb
   ·exact heT
   ·rw [List.mem_singleton.mp hb]; exact hiT)
  have I2:Inv X ZB σ (upd H s.heap.objs.size (.tup [.int i,x])) { s with heap:=h2,toks:=s.toks+1 } :=
   Inv.wm (s:={ s with heap:=h',toks:=s.toks+1 }) (t':=s.toks+1) (fp:=[e,it]) I1 f1 fun b o hb q=>(Ad.2 b (fun z=>hb (by simp [z]))).trans q
  refine⟨.ref s.heap.objs.size,_,I2,rfl,⟨_,x,rfl,hTn,rfl,fun ys hy=>by rw [I.w4 hy hq]; exact hx⟩,⟨⟨u,?_⟩,?_⟩,fun b hb=>(f1 b hb).1⟩
  ·simpa using XW
  ·exact adS.at fun o q=>(Ad.2 it (fB kX)).trans q
 done:=by
  intro X hP hw hK hc i ZB s σ H E I hf st hg;obtain⟨⟨old,he⟩,hit⟩:=st;subst hP hw hK;obtain⟨xs,hq,hx⟩:=hg;obtain⟨bH,rv,p,hz⟩:=I.list hq;have hl:=rv.length;refine wpAny_pyNext_enum_end (I.ok.hd hc) he hit p.isList (by simp; lia) fun h' eb=>⟨rfl,?_⟩;exact I.wm (t':=s.toks) (fp:=[e,it]) hf fun b o hb q=>eb b o (fun z=>hb (by simp [z])) q
 self:=(by rintro A i s Q E ⟨⟨old,he⟩,_⟩ h; exact wpAny_pyIter_enum he h)
end L2
namespace K2
open PySem PySem.Spec PyProof.Rows L2
section
variable {X:Cx} {elts:List Expr} {kk:Nat} {Kv:Pos} {a b:Expr} {ta tb:gN} {pos p:Pos}
theorem Nt{ZB:List (Addr×Obj)}{σ:L2.St}{H H1:Hp}{G G1:Gp}{s1:az}{l:Addr}{vs:List V}{ds:List D}{ok:Gp->Prop}{R:List D->(Gp->Prop)->Gp->Prop}(I1:Inv X ZB σ H1 s1)(m:Mv X.K H G H1 G1)(hq:rW X.K H1 l vs)
  (hk:∀ H2 G2,Kp H1 H2->mx X.K H2 G2->ok G2->∃ ws,rW X.K H2 l ws/\bp X.K H2 ws ds) (q:R (lC 0 ds) ok G1) :
  wpAny (model X.prog X.w) X.A (call (.type "enumerate") [.ref l]) (fun v s2=>wpAny (model X.prog X.w) X.A (CM v) (LU X ZB σ (.Tuple elts kk Kv) H G R) X.xe s2) X.xe s1:=by
 obtain⟨bH,rv,pl,hz⟩:=I1.list hq;refine call_enumerate_list pl.isList fun h' he hit hsz kp=>?_;refine wpAny_pyIter_enum he ?_;refine⟨_,[s1.heap.objs.size+1,s1.heap.objs.size],_,_,H1,G1,lC 0 ds,ok,rfl,I1.kept (t':=s1.toks) kp,m,N8 l _ _ (Nat.succ_ne_self _),⟨⟨_,he⟩,hit⟩,fun b hb=>?_,fun i H2 G2 k ab o=>?_,q⟩
 ·have Ii:s1.heap.objs.size<=b:=by
   rcases List.mem_cons.mp hb with rfl | hb
   ·lia
   ·rw [List.mem_singleton.mp hb]; exact aK _
  exact I1.Im Ii (I1.cB.fresh Ii)
 ·obtain⟨ws,hw,rd⟩:=hk H2 G2 k ab o;refine⟨fun d hd=>?_,fun hl=>⟨ws,hw,by rw [rd.length,<-DH ds 0]; exact hl⟩⟩;rw [DJ] at hd;cases hdi:ds[i]? with
  | none=>rw [hdi] at hd; cases hd
  | some d' =>
   rw [hdi] at hd;obtain⟨v,hv,r⟩:=rd.get hdi;refine⟨⟨ws,v,hw,hv⟩,?_⟩;rintro x H3 ⟨T,y,ex,hT,e3,hy⟩;subst ex e3;have:=hy ws hw;rw [hv] at this;cases this;have ed:D.tup [.int ((0+i:Nat):Int),d']=d:=by simpa using hd
   subst ed;refine⟨.tup cV (.cons (by rw [iE]; exact .int _) (.cons (r.mono (.new hT)) .nil)),.O0 ab hT⟩
theorem FQ:fH "enumerate" = some (.type "enumerate"):=by decide +kernel
theorem Ym:fH "zip" = some (.type "zip"):=by decide +kernel
theorem tj (hg:Gl X "enumerate") (hm:X.mg "enumerate" = none) (ha:ia X a ta) (hs:bJ [a] X.env=[(false,eval a X.env)]:=by rfl):Tg X (.Tuple elts kk Kv) (.Call (.Name "enumerate" p) [a] [] pos) (tJ ta):=by
 intro E ZB s σ H τ G R hE I h;have hA:Gy X [a] (aB ta bc):=ao ha aL hs;refine Call_ (lY I.inv hg hm FQ (dE (zF hA pos hE I (R:=acB fun x G1=>xb x G1 R) h fun vs H1 ds G1 us s1 I1 m1 r1 j6 q1=>?_) hs rfl))
 match ds,q1 with
 | [x],q1 =>
  change xb x G1 R at q1;obtain⟨w,rfl,KL⟩:=j6.one;obtain⟨u,rfl,ru⟩:=r1.one;cases KL with
  | fx hq rs=>cases ru; exact Nt I1.inv m1 hq.sq (fun H2 G2 k ab _=>⟨_,(k.WH hq).sq,rs.mono k⟩) q1
  | ref p =>
   cases ru;unfold xb at q1;dsimp only at q1;split at q1
   ·rename_i ds e;obtain⟨vs,hv,rs⟩:=I1.ab.lst e;refine Nt I1.inv m1 (.of hv) (fun H2 G2 k ab o=>?_) q1;obtain⟨ws,hw,vn⟩:=ab.lst o;exact⟨ws,.of hw,vn⟩
   ·exact q1.elim
  | tup _ _=>exact q1.elim
  | pS _ _=>exact q1.elim
  | pR _ _=>exact q1.elim
  | dh=>exact q1.elim
  | bl _=>exact q1.elim
  | int _=>exact q1.elim
  | str _=>exact q1.elim
  | exc _=>exact q1.elim
 | [],q1=>exact q1.elim
 | _ :: _ :: _,q1=>exact q1.elim
end
end K2
end
section
namespace K2
open PySem PySem.Spec PyProof.Rows L2
section
variable {X:Cx} {o i a b:Expr} {to ti ta tb:gN} {pos p:Pos}
theorem kA(hu:X.A.units+64 < cLine)(ho:ia X o to)(hi:ia X i ti)
  (ha:∀ v,P9 (.Subscript o i pos) X.env v=(do
   let ov ← JO [v] (eval o X.env)
   let iv ← JO [v,ov] (eval i X.env)
   standAt pos
   JO [v,ov,iv] (setItem ov iv v)
   release [v,ov,iv] []):=by intro _; rfl):PZ X (.Subscript o i pos) (oJ to ti):=by
 intro E ZB s σ H τ G w d u Q hE I r rd h;rw [ha];refine af (eD (kU ho hE I h fun x H1 dx G1 ov s1 I1 m1 r1 j6 q1=>?_));refine af (eD (kU hi hE I1 q1 fun y H2 dy G2 iv s2 nV m2 r2 zV q2=>?_));refine af (wpAny_standAt (af (eD ?_)));have m12:=m1.trans m2;have QS:=rd.mono (m12.kp I.ab);have CZ:=I.st.mono (m12.kp I.ab);have rx':=j6.mono (m2.kp I1.ab);unfold wy at q2;split at q2
 ·rename_i l;cases rx';cases r1;split at q2
  ·rename_i xs hg;obtain⟨vs,hv,rs⟩:=nV.ab.lst hg;split at q2
   ·rename_i k;cases zV;split at q2
    ·rename_i j hj;have m3:Mv X.K H2 G2 (upd H2 l (.lst (vs.set j w))) (fG G2 l (.lst (xs.set j d))):=.putL nV.ab hg hv (rs.set QS j);refine g6 (set_list ZB s2 σ H2 (.ref l) (.int k) w _ _ _ (fun H3=>H3=upd H2 l (.lst (vs.set j w))) nV.inv rfl r2 r ⟨l,vs,k,j,rfl,rfl,hv,?_,rfl⟩) ?_
     ·rw [rs.length]; exact hj
     ·rintro _ s3 ⟨H3,I3,e3⟩;subst e3;exact wpAny_release ⟨σ,_,τ,_,⟨I3,CZ.mono (m3.kp nV.ab),m3.ab⟩,m12.trans m3,q2⟩
    ·exact q2.elim
   ·exact q2.elim
  ·rename_i WP hg;obtain⟨hk,hz,q⟩:=q2;obtain⟨H3,H4,I3,dp,m3⟩:=SI nV.inv nV.ab hg hk hz zV QS;exact Ph (by lia) I3 dp r2 r fun s4 I4=>wpAny_release ⟨σ,H4,τ,_,⟨I4,CZ.mono (m3.kp nV.ab),m3.ab⟩,m12.trans m3,q⟩
  ·exact q2.elim
 ·exact q2.elim
end
end K2
end
section
namespace L2
open PySem PySem.Spec PyProof.Rows
theorem wx{X:Cx}{ZB:List (Addr×Obj)}{σ:St}{H:Hp}{s:az}{l b:Addr}{xs:List V}(I:Inv X ZB σ H s)(hq:rW X.K H l xs)(hf:o4 X ZB H b):l≠b:=by
 rintro rfl;obtain⟨f0,f1,f2,f3,f4,f5⟩:=hf;rcases hq with (h | ⟨o,h⟩) | ⟨o,bH,n,h,_⟩
 ·rw [f0] at h; cases h
 ·rw [f0] at h; cases h
 ·have hb:=I.ok.mod.RC _ _ h;rcases f3 with f3 | f3
  ·exact I.ok.K0 _ _ hb f3
  ·exact absurd (aR (I.ok.bs _ _ hb).1) (Nat.not_lt.mpr f3)
def Itz(K:ak)(a b:Addr):It :=
  ⟨fun i H=>∃ xs x ys y,rW K H a xs/\xs[i]?=some x/\rW K H b ys/\ys[i]?=some y,
   fun i H v H'=>∃ T x y,v=.ref T/\H T=none/\H'=upd H T (.tup [x,y])/\(∀ xs,rW K H a xs->xs[i]?=some x)/\∀ ys,rW K H b ys->ys[i]?=some y,
   fun i H=>∃ xs ys,rW K H a xs/\rW K H b ys/\(xs.length<=i\/ys.length<=i)⟩
structure aaT(z TI TO i1 i2 a b:Addr)(i:Nat)(h:Heap):Prop where
 hz:IsZip h z TI TO .none
 hI:IsPair h TI (.ref i1) (.ref i2)
 hO:∃ x y,IsPair h TO x y
 h1:h.IsListIter i1 a i
 h2:h.IsListIter i2 b i
theorem Qq{P:bT}{w:World}{K:ak}{elts:List Expr}{kk:Nat}{pos:Pos}(a b z TI TO i1 i2:Addr)(nd:[z,TI,TO,i1,i2].Nodup) :
  Turn P w K (.Tuple elts kk pos) (Itz K a b) [z,TI,TO,i1,i2] z (aaT z TI TO i1 i2 a b) where
 mem:=by simp
 obj:=fun i h st c hc=>by
  simp only [jj,cZ,or_false] at hc;rcases hc with rfl | rfl | rfl | rfl | rfl
  ·exact⟨_,st.hz,fun v q=>by cases q⟩
  ·exact⟨_,st.hI,fun v q=>by cases q⟩
  ·obtain⟨x,y,h⟩:=st.hO; exact⟨_,h,fun v q=>by cases q⟩
  ·obtain⟨o,e,_,d⟩:=st.h1; exact⟨o,e,fun v q=>by rw [d] at q; cases q⟩
  ·obtain⟨o,e,_,d⟩:=st.h2; exact⟨o,e,fun v q=>by rw [d] at q; cases q⟩
 keep:=fun i h h' st k=>⟨k _ (by simp) _ st.hz,k _ (by simp) _ st.hI,let ⟨x,y,q⟩:=st.hO; ⟨x,y,k _ (by simp) _ q⟩,st.h1.at fun o q=>k _ (by simp) o q,st.h2.at fun o q=>k _ (by simp) o q⟩
 item:=by
  intro X hP hw hK hc i ZB s σ H E I hf st hg;subst hP hw hK;obtain⟨xs,x,ys,y,TN,hx,TM,hy⟩:=hg;obtain⟨ZY,rv1,p1,hz1⟩:=I.list TN;obtain⟨yy,QG,p2,hz2⟩:=I.list TM;obtain⟨u1,hu1,ru1⟩:=rv1.get hx;obtain⟨u2,hu2,Zk⟩:=QG.get hy;obtain⟨xo,yo,hO⟩:=st.hO;have ap:∀ c∈[z,TI,TO,i1,i2],a≠c/\b≠c:=fun c hc=>⟨wx I TN (hf c hc),wx I TM (hf c hc)⟩;simp only [cN,jj,cZ,or_false,not_or] at nd;obtain⟨⟨n1,n2,n3,n4⟩,⟨n5,n6,n7⟩,⟨n8,n9⟩,n10,_⟩:=nd;have Dz:ZipApart z TI TO i1 i2 a b:=⟨fB n1,fB n2,fB n3,fB n4,n5,n6,n7,n8,n9,n10,(ap z (by simp)).1,(ap TO (by simp)).1,(ap i1 (by simp)).1,(ap i2 (by simp)).1,(ap z (by simp)).2,(ap TO (by simp)).2,(ap i1 (by simp)).2,(ap i2 (by simp)).2⟩;have hTn:H s.heap.objs.size=none:=I.cB.fresh (aK _);have inH:∀ c∈[z,TI,TO,i1,i2],c≠s.heap.objs.size:=fun c hc=>by
   simp only [jj,cZ,or_false] at hc;rcases hc with rfl | rfl | rfl | rfl | rfl
   ·exact bQ (aR st.hz)
   ·exact bQ (aR st.hI)
   ·exact bQ (aR hO)
   ·obtain⟨o,e,_⟩:=st.h1; exact bQ (aR e)
   ·obtain⟨o,e,_⟩:=st.h2; exact bQ (aR e)
  refine wpAny_pyNext_zip_item Dz st.hz st.hI hO st.h1 st.h2 p1.isList p2.isList (x:=u1) (y:=u2) (by simpa using hu1) (by simpa using hu2) fun h' a1 a2 a3 a4 a5 a6 a7=>?_;refine⟨_,rfl,?_⟩;have k1:∀ c o,c∉[z,TI,TO,i1,i2]->s.heap.get? c=some o->h'.get? c=some o:=fun c o hc q =>
   a7 c o (fun e=>hc (by simp [e])) (fun e=>hc (by simp [e])) (fun e=>hc (by simp [e])) (fun e=>hc (by simp [e])) q
  have I1:Inv X ZB σ (upd H s.heap.objs.size (.tup [x,y])) { s with heap:=h' } :=
   I.Eo (t':=s.toks) (fp:=[z,TI,TO,i1,i2]) hf k1 (aK _) ⟨by show 2<=bx; decide,[u1,u2],.cons ru1 (.cons Zk .nil),⟨_,a5,rfl,_,rfl⟩⟩
  refine wpAny_letOwnedTupleGo_zip (s:={ s with heap:=h' }) a1 fun h2 hz2 Ad=>?_;have f1:∀ c∈[z,TI,TO,i1,i2],o4 X ZB (upd H s.heap.objs.size (.tup [x,y])) c:=fun c hc=>(hf c hc).upd (inH c hc);have I2:Inv X ZB σ (upd H s.heap.objs.size (.tup [x,y])) { s with heap:=h2 } :=
   Inv.wm (s:={ s with heap:=h' }) (t':=s.toks) (fp:=[z,TI,TO,i1,i2]) I1 f1 fun c o hc q=>(Ad.2 c (fun e=>hc (by simp [e]))).trans q
  have hI':IsPair h' TI (.ref i1) (.ref i2):=a7 TI _ (fB n1) n5 n6 n7 st.hI;refine⟨.ref s.heap.objs.size,_,I2,rfl,⟨_,x,y,rfl,hTn,rfl,fun zs hs=>by rw [I.w4 hs TN]; exact hx,fun zs hs=>by rw [I.w4 hs TM]; exact hy⟩,⟨hz2,?_,⟨u1,u2,?_⟩,?_,?_⟩,fun c hc=>(f1 c hc).1⟩
  ·exact(Ad.2 TI (fB n1)).trans hI'
  ·exact(Ad.2 TO (fB n2)).trans a2
  ·exact a3.at fun o q=>(Ad.2 i1 (fB n3)).trans q
  ·exact a4.at fun o q=>(Ad.2 i2 (fB n4)).trans q
 done:=by
  intro X hP hw hK hc i ZB s σ H E I hf st hg;subst hP hw hK;obtain⟨xs,ys,TN,TM,hx⟩:=hg;obtain⟨ZY,rv1,p1,hz1⟩:=I.list TN;obtain⟨yy,QG,p2,hz2⟩:=I.list TM;have V0:=rv1.length;have TR:=QG.length;obtain⟨xo,yo,hO⟩:=st.hO;have ap:∀ c∈[z,TI,TO,i1,i2],a≠c/\b≠c:=fun c hc=>⟨wx I TN (hf c hc),wx I TM (hf c hc)⟩;simp only [cN,jj,cZ,or_false,not_or] at nd;obtain⟨⟨n1,n2,n3,n4⟩,⟨n5,n6,n7⟩,⟨n8,n9⟩,n10,_⟩:=nd;have Dz:ZipApart z TI TO i1 i2 a b:=⟨fB n1,fB n2,fB n3,fB n4,n5,n6,n7,n8,n9,n10,(ap z (by simp)).1,(ap TO (by simp)).1,(ap i1 (by simp)).1,(ap i2 (by simp)).1,(ap z (by simp)).2,(ap TO (by simp)).2,(ap i1 (by simp)).2,(ap i2 (by simp)).2⟩;refine wpAny_pyNext_zip_end (I.ok.hd hc) Dz st.hz st.hI hO st.h1 st.h2 p1.isList p2.isList (by
   rcases hx with hx | hx
   ·left; simp; lia
   ·right; simp; lia) fun h' k1=>⟨rfl,?_⟩
  exact I.wm (t':=s.toks) (fp:=[z,TI,TO,i1,i2]) hf fun c o hc q=>k1 c o (fun e=>hc (by simp [e])) (fun e=>hc (by simp [e])) (fun e=>hc (by simp [e])) (fun e=>hc (by simp [e])) q
 self:=fun A i s Q E st h=>wpAny_pyIter_zip st.hz h
end L2
namespace K2
open PySem PySem.Spec PyProof.Rows L2
section
variable {X:Cx} {elts:List Expr} {kk:Nat} {Kv:Pos} {a b:Expr} {ta tb:gN} {pos p:Pos}
theorem HH{ZB:List (Addr×Obj)}{s:az}{σ:L2.St}{H:Hp}{G:Gp}{x:V}{d:D}{v:Value}{ds:List D}{ok:Gp->Prop}(I:Inv X ZB σ H s)(ab:mx X.K H G)(rx:RelV x v)(rd:cM X.K H x d)(hi:wZ d G=some (ds,ok)) :
  ∃ l vs,v=.ref l/\rW X.K H l vs/\bp X.K H vs ds/\∀ H2 G2,Kp H H2->mx X.K H2 G2->ok G2->∃ ws,rW X.K H2 l ws/\bp X.K H2 ws ds:=by
 cases rd with
 | fx hq rs=>cases hi; cases rx; exact⟨_,_,rfl,hq.sq,rs,fun H2 G2 k ab _=>⟨_,(k.WH hq).sq,rs.mono k⟩⟩
 | ref l =>
  unfold wZ at hi;dsimp only at hi;cases hg:G l with
  | none=>rw [hg] at hi; cases hi
  | some gg =>
   rw [hg] at hi;cases gg with
   | lst zs =>
    cases hi;cases rx;obtain⟨vs,hv,rs⟩:=ab.lst hg;refine⟨_,_,rfl,.of hv,rs,fun H2 G2 k ab o=>?_⟩;obtain⟨ws,hw,vn⟩:=ab.lst o;exact⟨ws,.of hw,vn⟩
   | jg _=>cases hi
 | _=>cases hi
theorem ER (hg:Gl X "zip") (hm:X.mg "zip" = none) (ha:ia X a ta) (hb:ia X b tb) (hs:bJ [a,b] X.env=[(false,eval a X.env),(false,eval b X.env)]:=by rfl) (Ad:bJ [b] X.env=[(false,eval b X.env)]:=by rfl) :
  Tg X (.Tuple elts kk Kv) (.Call (.Name "zip" p) [a,b] [] pos) (Lf ta tb):=by
 intro E ZB s σ H τ G R hE I h;have hA:Gy X [a,b] (aB ta (aB tb bc)):=ao ha (ao hb aL Ad) (by rw [hs,Ad]);refine Call_ (lY I.inv hg hm Ym (dE (zF hA pos hE I (R:=acA fun x y G1=>vE x y G1 R) h fun vs H1 ds G1 us s1 I1 m1 r1 j6 q1=>?_) (by rw [hs,Ad]) (by rw [Ad]; rfl)))
 match ds,q1 with
 | [x,y],q1 =>
  change vE x y G1 R at q1;obtain⟨w1,w2,rfl,KL,rw2⟩:=j6.two;obtain⟨u1,u2,rfl,ru1,Zk⟩:=vals2 r1;unfold vE at q1;split at q1
  ·rename_i xs k1 ys k2 e1 e2;obtain⟨l1,v1,rfl,TN,rs1,st1⟩:=HH I1.inv I1.ab ru1 KL e1;obtain⟨l2,v2,rfl,TM,TB,PR⟩:=HH I1.inv I1.ab Zk rw2 e2;obtain⟨ZY,rv1,pl1,_⟩:=I1.inv.list TN;obtain⟨yy,QG,pl2,_⟩:=I1.inv.list TM;refine call_zip_2 pl1.isList pl2.isList fun h' z1 z2 z3 z4 z5 z6 z7=>?_;refine wpAny_pyIter_zip z1 ?_;refine⟨_,[s1.heap.objs.size+4,s1.heap.objs.size+2,s1.heap.objs.size+3,s1.heap.objs.size,s1.heap.objs.size+1],_,_,H1,G1,qL xs ys,_,rfl,I1.inv.kept (t':=s1.toks) z7,m1,
    Qq l1 l2 _ _ _ _ _ (by simp),⟨z1,z2,⟨_,_,z3⟩,z4,z5⟩,fun c hc=>?_,fun i H2 G2 k ab o=>?_,q1⟩
   ·have PV:s1.heap.objs.size<=c:=by
     simp only [jj,cZ,or_false] at hc;rcases hc with rfl | rfl | rfl | rfl | rfl
     ·exact gS _ _
     ·exact gS _ _
     ·exact gS _ _
     ·exact aK _
     ·exact gS _ _
    exact I1.inv.Im PV (I1.inv.cB.fresh PV)
   ·obtain⟨ws1,hw1,j6⟩:=st1 H2 G2 k ab o.1;obtain⟨ws2,hw2,zV⟩:=PR H2 G2 k ab o.2;refine⟨fun d hd=>?_,fun hl=>⟨ws1,ws2,hw1,hw2,?_⟩⟩
    ·rw [GN] at hd;cases hx:xs[i]? with
     | none=>rw [hx] at hd; cases hd
     | some x' =>
      cases hy:ys[i]? with
      | none=>rw [hx,hy] at hd; cases hd
      | some y' =>
       rw [hx,hy] at hd;have ed:D.tup [x',y']=d:=by simpa using hd
       subst ed;obtain⟨vx,hvx,rx⟩:=j6.get hx;obtain⟨vy,hvy,ry⟩:=zV.get hy;refine⟨⟨ws1,vx,ws2,vy,hw1,hvx,hw2,hvy⟩,?_⟩;rintro v H3 ⟨T,px,py,ex,hT,e3,hx3,hy3⟩;subst ex e3;have q1:=hx3 ws1 hw1;have q2:=hy3 ws2 hw2;rw [hvx] at q1;rw [hvy] at q2;cases q1; cases q2;exact⟨.tup cV (.cons (rx.mono (.new hT)) (.cons (ry.mono (.new hT)) .nil)),.O0 ab hT⟩
    ·rw [GL] at hl;rw [j6.length,zV.length];lia
  ·exact q1.elim
 | [],q1=>exact q1.elim
 | [_],q1=>exact q1.elim
 | _ :: _ :: _ :: _,q1=>exact q1.elim
end
end K2
end
section
namespace K2
open PySem PySem.W PyProof.Rows
def ja{α:Type}(lt:Nat->Nat->Bool):KasT α->α
 | .ret a=>a
 | .ask i j k=>ja lt (k (lt i j))
theorem nX{α β:Type}(lt:Nat->Nat->Bool)(f:α->KasT β):∀ t:KasT α,ja lt (t.bind f)=ja lt (f (ja lt t))
 | .ret _=>rfl
 | .ask i j k=>nX lt f (k (lt i j))
abbrev gA(p:Array Nat)(k:Nat):Nat:=p.getD k 0
theorem DC(p:Array Nat)(k:Nat):gA p k=(p[k]?).getD 0:=by
 unfold gA; rw [bq]
structure NS(lt:Nat->Nat->Bool):Prop where
 asymm:∀ i j,lt i j=true->lt j i=false
 trans:∀ i j k,lt j i=false->lt k j=false->lt k i=false
theorem NS.refl{lt:Nat->Nat->Bool}(w:NS lt)(i:Nat):lt i i=false:=by
 cases h:lt i i with
 | false=>rfl
 | true=>rw [w.asymm _ _ h] at h; cases h
def Up(lt:Nat->Nat->Bool)(p:Array Nat)(m:Nat):Prop:=∀ i j,i<=j->j < m->lt (gA p j) (gA p i)=false
def Dn(lt:Nat->Nat->Bool)(p:Array Nat)(m:Nat):Prop:=∀ i j,i<=j->j < m->lt (gA p i) (gA p j)=false
section
variable {lt:Nat->Nat->Bool}
theorem Up.more(w:NS lt){p:Array Nat}{n m:Nat}(h1:1<=n)(h:Up lt p n)(hs:∀ k,n<=k->k < m->lt (gA p k) (gA p (k - 1))=false):Up lt p m:=by
 intro i j JF hjm;induction j with
 | zero =>
  have:i=0:=by lia
  subst this; exact w.refl _
 | succ j ih =>
  by_cases hj:j+1 < n
  ·exact h i (j+1) JF hj
  ·by_cases e:i=j+1
   ·subst e; exact w.refl _
   ·have h1:=ih (by lia) (by lia);have h2:=hs (j+1) (by lia) hjm;exact w.trans _ _ _ h1 h2
theorem MD(p:Array Nat):∀ (f n:Nat),n<=ja lt (sx p f n)/\ja lt (sx p f n)<=n+f/\(∀ k,n<=k->k < ja lt (sx p f n)->lt (gA p k) (gA p (k - 1))=false) /\
  (ja lt (sx p f n) < n+f->lt (gA p (ja lt (sx p f n))) (gA p (ja lt (sx p f n) - 1))=true):=by
 intro f;induction f with
 | zero=>intro n; exact⟨aK _,aK _,fun k h1 h2=>absurd (show k < n from h2) (by lia),fun h=>absurd (show n < n+0 from h) (by lia)⟩
 | succ f ih =>
  intro n;have e:ja lt (sx p (f+1) n)=if lt (gA p n) (gA p (n - 1))=true then n else ja lt (sx p f (n+1)):=by
   show ja lt (if lt (gA p n) (gA p (n - 1))=true then ya n else sx p f (n+1))=_;split <;> rfl
  rw [e];by_cases c:lt (gA p n) (gA p (n - 1))=true
  ·rw [if_pos c];exact⟨aK _,by lia,fun k h1 h2=>absurd h2 (by lia),fun _=>c⟩
  ·rw [if_neg c];obtain⟨h1,h2,h3,h4⟩:=ih (n+1);refine⟨by lia,by lia,fun k k1 k2=>?_,fun h=>h4 (by lia)⟩;by_cases e:k=n
   ·subst e; simpa using c
   ·exact h3 k (by lia) k2
theorem i9{p:Array Nat}{i j:Nat}(hj:j<=p.size)(k:Nat):gA (iw p i j) k=if i<=k/\k < j then gA p (i+j - 1 - k) else gA p k:=by
 rw [DC,iw,getElem?_mirror_all hj];split <;> rw [DC]
theorem ou(p:Array Nat)(i j:Nat):(iw p i j).size=p.size:=mirror_size _ _ _ _
theorem k9(p:Array Nat)(i j:Nat):(iw p i j).Perm p:=mirror_perm _ _ _ _
theorem Dn.rev{p:Array Nat}{a n:Nat}(w:NS lt)(hn:n<=p.size)(h:Dn lt p n)(he:∀ k,a<=k->k < n->lt (gA p (n - 1)) (gA p k)=false):Dn lt (iw p a n) n:=by
 intro i j JF hjn;rw [i9 hn,i9 hn];by_cases hi:a<=i
 ·rw [if_pos ⟨hi,by lia⟩,if_pos ⟨by lia,hjn⟩];exact w.trans _ _ _ (he (a+n - 1 - j) (by lia) (by lia)) (h (a+n - 1 - i) (n - 1) (by lia) (by lia))
 ·rw [if_neg (by lia)];by_cases hj:a<=j
  ·rw [if_pos ⟨hj,hjn⟩];exact h i (a+n - 1 - j) (by lia) (by lia)
  ·rw [if_neg (by lia)];exact h i j JF hjn
def Eqs(lt:Nat->Nat->Bool)(p:Array Nat)(n q:Nat):Prop:=q+1<=n/\∀ k,n - (q+1)<=k->k < n->lt (gA p (n - 1)) (gA p k)=false
theorem Dn.one(w:NS lt){p:Array Nat}{n:Nat}(h1:1<=n)(h:Dn lt p n)(hc:lt (gA p (n - 1)) (gA p n)=false):Dn lt p (n+1):=by
 intro i j JF hj;by_cases e:j=n
 ·subst e;by_cases e2:i=j
  ·subst e2; exact w.refl _
  ·exact w.trans _ _ _ hc (h i (j - 1) (by lia) (by lia))
 ·exact h i j JF (by lia)
theorem QK(w:NS lt):∀ (f:Nat) (p:Array Nat) (n q:Nat),n+f<=p.size->Dn lt p n->Eqs lt p n q->∃ p' n' q',ja lt (mO f p n q)=(p',n',q')/\p'.Perm p/\p'.size=p.size/\n<=n'/\n'<=n+f/\Dn lt p' n'/\Eqs lt p' n' q':=by
 intro f;induction f with
 | zero=>intro p n q _ hd he; exact⟨p,n,q,rfl,oQ _,rfl,aK _,aK _,hd,he⟩
 | succ f ih =>
  intro p n q hs hd he;have h1:1<=n:=by have:=he.1; lia
  have e:ja lt (mO (f+1) p n q)=if lt (gA p n) (gA p (n - 1))=true then (if q > 0 then ja lt (mO f (iw p (n - (q+1)) n) (n+1) 0) else ja lt (mO f p (n+1) 0))
    else if lt (gA p (n - 1)) (gA p n)=true then (p,n,q) else ja lt (mO f p (n+1) (q+1)):=by
   show ja lt (if lt (gA p n) (gA p (n - 1))=true then (if q > 0 then mO f (iw p (n - (q+1)) n) (n+1) 0 else mO f p (n+1) 0) else .ask (gA p (n - 1)) (gA p n) fun d=>if d=true then .ret (p,n,q) else mO f p (n+1) (q+1))=_;split
   ·split <;> rfl
   ·show ja lt (if lt (gA p (n - 1)) (gA p n)=true then ya (p,n,q) else mO f p (n+1) (q+1))=_;split <;> rfl
  rw [e];by_cases c:lt (gA p n) (gA p (n - 1))=true
  ·rw [if_pos c];have ca:=w.asymm _ _ c;by_cases hq:q > 0
   ·rw [if_pos hq];have d1:Dn lt (iw p (n - (q+1)) n) n:=hd.rev w (by lia) he.2;have en:gA (iw p (n - (q+1)) n) n=gA p n:=by rw [i9 (by lia),if_neg (by lia)]
    have ca':lt (gA (iw p (n - (q+1)) n) (n - 1)) (gA (iw p (n - (q+1)) n) n)=false:=by
     rw [en,i9 (by lia)];split
     ·-- an item of the aa4 is above p n
      exact w.trans _ _ _ ca (hd _ (n - 1) (by lia) (by lia))
     ·exact ca
    obtain⟨p',n',q',z,h2,h3,h4,h5,h6,h7⟩:=ih (iw p (n - (q+1)) n) (n+1) 0 (by rw [ou]; lia) (d1.one w h1 ca') ⟨by lia,fun k k1 k2=>by
     have:k=n:=by lia
     subst this; exact w.refl _⟩
    exact⟨p',n',q',z,h2.trans (k9 _ _ _),h3.trans (ou _ _ _),by lia,by lia,h6,h7⟩
   ·rw [if_neg hq];obtain⟨p',n',q',z,h2,h3,h4,h5,h6,h7⟩:=ih p (n+1) 0 (by lia) (hd.one w h1 ca) ⟨by lia,fun k k1 k2=>by
     have:k=n:=by lia
     subst this; exact w.refl _⟩
    exact⟨p',n',q',z,h2,h3,by lia,by lia,h6,h7⟩
  ·rw [if_neg c];have c':lt (gA p n) (gA p (n - 1))=false:=by simpa using c
   by_cases d:lt (gA p (n - 1)) (gA p n)=true
   ·rw [if_pos d];exact⟨p,n,q,rfl,oQ _,rfl,aK _,by lia,hd,he⟩
   ·rw [if_neg d];have d':lt (gA p (n - 1)) (gA p n)=false:=by simpa using d
    obtain⟨p',n',q',z,h2,h3,h4,h5,h6,h7⟩:=ih p (n+1) (q+1) (by lia) (hd.one w h1 d') ⟨by have:=he.1; lia,fun k k1 k2=>by
     rw [si];by_cases e:k=n
     ·subst e; exact w.refl _
     ·exact w.trans _ _ _ (he.2 k (by lia) (by lia)) c'⟩
    exact⟨p',n',q',z,h2,h3,by lia,by lia,h6,h7⟩
theorem Dn.up{p:Array Nat}{n:Nat}(hn:n<=p.size)(h:Dn lt p n):Up lt (iw p 0 n) n:=by
 intro i j JF hjn;rw [i9 hn,i9 hn,if_pos ⟨by lia,hjn⟩,if_pos ⟨by lia,by lia⟩];exact h _ _ (by lia) (by lia)
theorem Hk(w:NS lt){p:Array Nat}{n nrem:Nat}(h1:1<=n)(hn:n<=nrem)(hs:nrem<=p.size)(h:Dn lt p n):∃ p' m,ja lt (P5 n nrem p)=(m,p')/\p'.Perm p/\p'.size=p.size/\n<=m/\m<=nrem/\Up lt p' m:=by
 obtain⟨a1,a2,a3,_⟩:=MD (lt:=lt) (iw p 0 n) (nrem - n) n;refine⟨iw p 0 n,ja lt (sx (iw p 0 n) (nrem - n) n),by rw [P5,nX]; rfl,k9 _ _ _,ou _ _ _,a1,by lia,?_⟩;exact(h.up (by lia)).more w h1 a3
theorem wG(w:NS lt){p:Array Nat}{n nrem:Nat}(h1:1<=n)(hn:n < nrem)(hs:nrem<=p.size)(h:Dn lt p n)(hc:lt (gA p (n - 1)) (gA p n)=false) :
  ∃ p' m,ja lt (As n nrem p)=(m,p')/\p'.Perm p/\p'.size=p.size/\n<=m/\m<=nrem/\Up lt p' m:=by
 obtain⟨p1,n1,q1,z,z2,z3,z4,z5,z6,z7⟩:=QK w (nrem - (n+1)) p (n+1) 0 (by lia) (h.one w h1 hc) ⟨by lia,fun k k1 k2=>by
  have:k=n:=by lia
  subst this; exact w.refl _⟩
 rw [As,nX,z];show ∃ p' m,ja lt (if q1 > 0 then P5 n1 nrem (iw p1 (n1 - (q1+1)) n1) else P5 n1 nrem p1)=(m,p')/\_;by_cases hq:q1 > 0
 ·rw [if_pos hq];obtain⟨p',m,y1,y2,y3,y4,y5,y6⟩:=Hk (nrem:=nrem) w (p:=iw p1 (n1 - (q1+1)) n1) (by lia) (by lia) (by rw [ou]; lia) (z6.rev w (by lia) z7.2);exact⟨p',m,y1,(y2.trans (k9 _ _ _)).trans z2,(y3.trans (ou _ _ _)).trans z3,by lia,y5,y6⟩
 ·rw [if_neg hq];obtain⟨p',m,y1,y2,y3,y4,y5,y6⟩:=Hk (nrem:=nrem) w (p:=p1) (by lia) (by lia) (by lia) z6;exact⟨p',m,y1,y2.trans z2,y3.trans z3,by lia,y5,y6⟩
theorem Ol(w:NS lt){p:Array Nat}{nrem:Nat}(h1:1<=nrem)(hs:nrem<=p.size):∃ p' m,ja lt (kas_count nrem p)=(m,p')/\p'.Perm p/\p'.size=p.size/\1<=m/\m<=nrem/\Up lt p' m:=by
 obtain⟨a1,a2,a3,a4⟩:=MD (lt:=lt) p (nrem - 1) 1;rw [kas_count,nX];generalize ja lt (sx p (nrem - 1) 1)=n at a1 a2 a3 a4;have u1:Up lt p 1:=fun i j JF hj=>by
  have:i=j:=by lia
  subst this; exact w.refl _
 have up:Up lt p n:=u1.more w (aK _) a3;by_cases e:n=nrem
 ·subst e;rw [if_pos (by simp)];exact⟨p,n,rfl,oQ _,rfl,a1,aK _,up⟩
 ·rw [if_neg (by simpa using e)];have hb:=a4 (by lia);by_cases h2:n > 1
  ·rw [if_pos h2];show ∃ p' m,ja lt (if lt (gA p 0) (gA p (n - 1))=true then ya (n,p) else As n nrem (iw p 0 n))=(m,p')/\_;by_cases c:lt (gA p 0) (gA p (n - 1))=true
   ·rw [if_pos c];exact⟨p,n,rfl,oQ _,rfl,a1,by lia,up⟩
   ·rw [if_neg c];have c':lt (gA p 0) (gA p (n - 1))=false:=by simpa using c
    have all:∀ i j,i < n->j < n->lt (gA p i) (gA p j)=false:=fun i j hi hj =>
     w.trans _ _ _ (w.trans _ _ _ (up j (n - 1) (by lia) (by lia)) c') (up 0 i (by lia) hi)
    have d1:Dn lt (iw p 0 n) n:=fun i j JF hj=>by
     rw [i9 (by lia),i9 (by lia),if_pos ⟨by lia,by lia⟩,if_pos ⟨by lia,hj⟩];exact all _ _ (by lia) (by lia)
    have hl:lt (gA (iw p 0 n) (n - 1)) (gA (iw p 0 n) n)=false:=by
     rw [i9 (by lia),i9 (by lia),if_pos ⟨by lia,by lia⟩,if_neg (by lia)];exact w.trans _ _ _ (w.asymm _ _ hb) (all _ _ (by lia) (by lia))
    obtain⟨p',m,y1,y2,y3,y4,y5,y6⟩:=wG (nrem:=nrem) w (p:=iw p 0 n) a1 (by lia) (by rw [ou]; lia) d1 hl;exact⟨p',m,y1,y2.trans (k9 _ _ _),y3.trans (ou _ _ _),by lia,y5,y6⟩
  ·rw [if_neg h2];have e1:n=1:=by lia
   subst e1;have d1:Dn lt p 1:=fun i j JF hj=>by
    have:i=j:=by lia
    subst this; exact w.refl _
   obtain⟨p',m,y1,y2,y3,y4,y5,y6⟩:=wG (nrem:=nrem) w (p:=p) (aK _) (by lia) hs d1 (w.asymm _ _ hb);exact⟨p',m,y1,y2,y3,by lia,y5,y6⟩
theorem Oj(w:NS lt){p:Array Nat}{k:Nat}:∀ (f l r:Nat),l<=r->r<=k->r - l<=f->Up lt p k->(∀ i,i < l->lt (gA p k) (gA p i)=false)->(∀ i,r<=i->i < k->lt (gA p k) (gA p i)=true) ->
  ∃ m,ja lt (kZ p k f l r)=m/\m<=k/\(∀ i,i < m->lt (gA p k) (gA p i)=false)/\(∀ i,m<=i->i < k->lt (gA p k) (gA p i)=true):=by
 intro f;induction f with
 | zero =>
  intro l r hlr hrk hf up h1 h2;have:l=r:=by lia
  subst this;exact⟨l,rfl,hrk,h1,h2⟩
 | succ f ih =>
  intro l r hlr hrk hf up h1 h2;have e:ja lt (kZ p k (f+1) l r)=if l>=r then l else if lt (gA p k) (gA p ((l+r) / 2))=true then ja lt (kZ p k f l ((l+r) / 2)) else ja lt (kZ p k f ((l+r) / 2+1) r):=by
   show ja lt (if l>=r then ya l else .ask (gA p k) (gA p ((l+r) / 2)) fun c=>if c=true then kZ p k f l ((l+r) / 2) else kZ p k f ((l+r) / 2+1) r)=_;split
   ·rfl
   ·show ja lt (if lt (gA p k) (gA p ((l+r) / 2))=true then kZ p k f l ((l+r) / 2) else kZ p k f ((l+r) / 2+1) r)=_;split <;> rfl
  rw [e];by_cases c:l>=r
  ·rw [if_pos c];have:l=r:=by lia
   subst this;exact⟨l,rfl,hrk,h1,h2⟩
  ·rw [if_neg c];by_cases d:lt (gA p k) (gA p ((l+r) / 2))=true
   ·rw [if_pos d];refine ih l ((l+r) / 2) (by lia) (by lia) (by lia) up h1 fun i i1 i2=>?_;cases q:lt (gA p k) (gA p i) with
    | true=>rfl
    | false=>rw [w.trans _ _ _ (up ((l+r) / 2) i i1 i2) q] at d; cases d
   ·rw [if_neg d];refine ih ((l+r) / 2+1) r (by lia) hrk (by lia) up (fun i hi=>?_) h2;exact w.trans _ _ _ (up i ((l+r) / 2) (by lia) (by lia)) (by simpa using d)
theorem DD{p:Array Nat}{src d:Nat}(hs:src < p.size)(hd:d<=src)(k:Nat):gA (bubble p src d) k=if k=src - d then gA p src else if src - d < k/\k<=src then gA p (k - 1) else gA p k:=by
 rw [DC,getElem?_bubble hs d hd,DC p src,DC p (k - 1),DC p k];by_cases h1:k=src - d
 ·rw [if_pos h1,if_pos h1]
 ·rw [if_neg h1,if_neg h1];by_cases h2:src - d < k/\k<=src
  ·rw [if_pos h2,if_pos h2]
  ·rw [if_neg h2,if_neg h2]
theorem UA(w:NS lt):∀ (f:Nat) (p:Array Nat) (k:Nat),k+f<=p.size->Up lt p k->∃ p',ja lt (kas_bin f p k)=p'/\p'.Perm p/\p'.size=p.size/\Up lt p' (k+f):=by
 intro f;induction f with
 | zero=>intro p k _ up; exact⟨p,rfl,oQ _,rfl,up⟩
 | succ f ih =>
  intro p k hs up;obtain⟨m,e,hm,h1,h2⟩:=Oj w k 0 k (cP _) (aK _) (aK _) up (fun i hi=>absurd hi (by lia)) (fun i i1 i2=>absurd i1 (by lia));have up':Up lt (bubble p k (k - m)) (k+1):=by
   intro i j JF hj;rw [DD (by lia) (by lia),DD (by lia) (by lia)];have ek:k - (k - m)=m:=by lia
   rw [ek];by_cases j1:j=m
   ·rw [if_pos j1];by_cases i1:i=m
    ·rw [if_pos i1]; exact w.refl _
    ·rw [if_neg i1,if_neg (by lia)]; exact h1 i (by lia)
   ·rw [if_neg j1];by_cases j2:m < j/\j<=k
    ·rw [if_pos j2];by_cases i1:i=m
     ·rw [if_pos i1]; exact w.asymm _ _ (h2 (j - 1) (by lia) (by lia))
     ·rw [if_neg i1];by_cases i2:m < i/\i<=k
      ·rw [if_pos i2]; exact up _ _ (by lia) (by lia)
      ·rw [if_neg i2]; exact up _ _ (by lia) (by lia)
    ·rw [if_neg j2,if_neg (by lia),if_neg (by lia)]; exact up _ _ JF (by lia)
  obtain⟨p',z,z1,z2,z3⟩:=ih (bubble p k (k - m)) (k+1) (by rw [bubble_size]; lia) up';refine⟨p',?_,z1.trans (bubble_perm _ _ _),z2.trans (bubble_size _ _ _),by rw [show k+(f+1)=k+1+f by lia]; exact z3⟩;rw [kas_bin,nX,e]; exact z
theorem Hl(w:NS lt){n:Nat}(h1:1<=n):∃ p,ja lt (kas_sort n)=p/\p.toList.Perm (aY n)/\p.size=n/\Up lt p n:=by
 obtain⟨p,m,z,z1,z2,z3,z4,z5⟩:=Ol w (p:=(aY n).toArray) h1 (by simp);have zs:p.size=n:=by rw [z2]; simp
 have zp:p.toList.Perm (aY n):=by simpa using z1.toList
 rw [kas_sort,nX,z];show ∃ q,ja lt (if m < n then kas_bin (n - max m 1) p (max m 1) else .ret p)=q/\_;by_cases c:m < n
 ·rw [if_pos c];have em:max m 1=m:=by lia
  rw [em];obtain⟨p',y,y1,y2,y3⟩:=UA w (n - m) p m (by lia) z5;exact⟨p',y,(by simpa using y1.toList:p'.toList.Perm p.toList).trans zp,y2.trans zs,by rw [show n=m+(n - m) by lia]; exact y3⟩
 ·rw [if_neg c];have:m=n:=by lia
  subst this;exact⟨p,rfl,zp,zs,z5⟩
end
end K2
end
section
namespace K2
open PySem PySem.Spec PyProof.Rows L2
open PySem.AutoSeq1 (wpAny_loadPart')
open PySem.MeetsSeq PySem.MeetsSeq2 PySem.MeetsSeq3 PySem.SeqAt
def BS(A:eu)(s:az)(y x:Value)(b:Bool):Prop :=
 ∀ (prog:bT) (w:World) (E:Value->az->Prop) (Q:Value->az->Prop),Q (.bool b) s->wpAny (model prog w) A (richCompare .Lt y x) Q E s
def uF(e l:Nat->Bool)(n m:Nat):Nat->Nat->Bool
 | 0,_=>decide (n < m)
 | f+1,i=>if e i=true then uF e l n m f (i+1) else l i
theorem U3(l b:Addr)(xs ys:Array Value)(n m:Nat)(dd de:Option Addr)(sl sm:Array (Option Value))(e lt:Nat->Bool)(k:Nat) :
  ∀ i:Nat,i<=min xs.size ys.size->min xs.size ys.size - i=k->Meets (Builtin.«list.__eq__.loop» ⟨[.ref l,.ref b,rM i,rM 0],[]⟩)
   (fun A R s=>s.heap.get? l=some { cls:=.type "list",dict:=dd,data:=.seq xs n,slots:=sl }/\s.heap.get? b=some { cls:=.type "list",dict:=de,data:=.seq ys m,slots:=sm } /\
    (∀ j (h1:j < xs.size) (h2:j < ys.size),EqAt A.in1 s xs[j] ys[j] (e j)/\BS A.in1 s xs[j] ys[j] (lt j)) /\
    R (.ok (.ret (.bool (uF e lt xs.size ys.size k i)))) s):=by
 induction k with
 | zero =>
  intro i hi hk prog w A R s h;obtain⟨hp,g,d,tk,os⟩:=s;obtain⟨hl,hb,he,h⟩:=h
  wp_walk using cH hl,cH hb
  by_cases c:xs.size<=ys.size
  ·have h1:xs[((i:Nat):Int).toNat]?=none:=by simp; lia
   rw [h1]
   wp_walk using cH hl,cH hb
   exact h
  ·have h2:ys[((i:Nat):Int).toNat]?=none:=by simp; lia
   rw [h2];cases q:xs[((i:Nat):Int).toNat]? with
   | none =>
    wp_walk using cH hl,cH hb
    exact h
   | some v =>
    wp_walk using cH hl,cH hb
    exact h
 | succ k ih =>
  intro i hi hk prog w A R s h;obtain⟨hp,g,d,tk,os⟩:=s;obtain⟨hl,hb,he,h⟩:=h
  wp_walk using cH hl,cH hb
  have l1:i < xs.size:=by lia
  have l2:i < ys.size:=by lia
  have h1:xs[((i:Nat):Int).toNat]?=some xs[i]:=by simp [l1]
  have h2:ys[((i:Nat):Int).toNat]?=some ys[i]:=by simp [l2]
  have hc:((i:Int)+1)=((i+1:Nat):Int):=by push_cast; rfl
  rw [h1,h2];refine af ((he i l1 l2).1 prog w _ _ ?_);cases q:e i with
  | true =>
   rw [uF,q,if_pos rfl] at h
   wp_walk
   rw [hc];exact⟨GB plain_eq_loop _,k6 entry_eq_loop (by
    rw [kM plain_eq_loop _];exact ih (i+1) (by lia) (by lia) prog w A R _ ⟨hl,hb,he,h⟩)⟩
  | false =>
   rw [uF,q,if_neg (by simp)] at h
   wp_walk using cH hl,cH hb
   rw [h1,h2];have Z8:=(he i l1 l2).2 prog w
   wp_walk using Z8
   exact h
theorem Dq(l b:Addr)(xs ys:Array Value)(n m:Nat)(dd de:Option Addr)(sl sm:Array (Option Value))(e lt:Nat->Bool) :
  Meets (Builtin.«list.__lt__» ⟨[.ref l,.ref b],[]⟩)
   (fun A R s=>s.heap.get? l=some { cls:=.type "list",dict:=dd,data:=.seq xs n,slots:=sl }/\s.heap.get? b=some { cls:=.type "list",dict:=de,data:=.seq ys m,slots:=sm } /\
    (∀ j (h1:j < xs.size) (h2:j < ys.size),EqAt A.in1 s xs[j] ys[j] (e j)/\BS A.in1 s xs[j] ys[j] (lt j)) /\
    R (.ok (.ret (.bool (uF e lt xs.size ys.size (min xs.size ys.size) 0)))) s):=by
 intro prog w A R s h;obtain⟨hp,g,d,tk,os⟩:=s;obtain⟨hl,hb,he,h⟩:=h;have f3:=JZ
 wp_walk using cH hl,cH hb
 exact⟨GB plain_eq_loop _,k6 entry_eq_loop (by
  rw [kM plain_eq_loop _];exact U3 l b xs ys n m dd de sl sm e lt _ 0 (cP _) rfl prog w A R _ ⟨hl,hb,he,h⟩)⟩
theorem AE(l b:Addr)(xs ys:Array Value)(n m:Nat)(dd de:Option Addr)(sl sm:Array (Option Value))(e lt:Nat->Bool) :
  Meets (Builtin.«tuple.__lt__» ⟨[.ref l,.ref b],[]⟩)
   (fun A R s=>s.heap.get? l=some { cls:=.type "tuple",dict:=dd,data:=.seq xs n,slots:=sl }/\s.heap.get? b=some { cls:=.type "tuple",dict:=de,data:=.seq ys m,slots:=sm } /\
    (∀ j (h1:j < xs.size) (h2:j < ys.size),EqAt A.in1 s xs[j] ys[j] (e j)/\BS A.in1 s xs[j] ys[j] (lt j)) /\
    R (.ok (.ret (.bool (uF e lt xs.size ys.size (min xs.size ys.size) 0)))) s) :=
 .of_wp fun prog w A R s h=>by
  obtain⟨hp,g,d,tk,os⟩:=s;obtain⟨hl,hb,he,h⟩:=h;have f2:=rN;have zl:(xs.toList.zip ys.toList).length=min xs.size ys.size:=by simp
  wp_walk using cH hl,cH hb,j9 _ (fun rest c s'=>c.1=none/\s'=⟨hp,g,d,tk,os⟩/\∃ i,i<=min xs.size ys.size/\rest=(xs.toList.zip ys.toList).drop i /\
   R (.ok (.ret (.bool (uF e lt xs.size ys.size (min xs.size ys.size - i) i)))) ⟨hp,g,d,tk,os⟩) _
  case turn =>
   rintro⟨y,x⟩ rest c s' ⟨hc,rfl,i,hi,hz,hR⟩;have il:i < min xs.size ys.size:=by
    have:=congrArg dF hz;rw [c6,zl,aj] at this;lia
   have l1:i < xs.size:=by lia
   have l2:i < ys.size:=by lia
   rw [gC (by rw [zl]; exact il)] at hz;injection hz with hyx RW
   have ey:y=xs[i]/\x=ys[i]:=by simpa using hyx
   obtain⟨rfl,rfl⟩:=ey;obtain⟨k,ek⟩:∃ k,min xs.size ys.size - i=k+1:=⟨min xs.size ys.size - i - 1,by lia⟩;rw [ek,uF] at hR;refine af ((he i l1 l2).1 prog w _ _ ?_);cases q:e i with
   | true =>
    rw [q,if_pos rfl] at hR
    wp_walk
    exact⟨rfl,rfl,i+1,by lia,RW,by rw [show min xs.size ys.size - (i+1)=k by lia]; exact hR⟩
   | false =>
    rw [q,if_neg (by simp)] at hR;have Z8:=(he i l1 l2).2 prog w
    wp_walk using Z8
    exact⟨_,rfl,by simpa using hR⟩
  case fin =>
   rintro⟨c1,c2⟩ s' ⟨hc,rfl,i,hi,hz,hR⟩;simp only at hc;subst hc;have il:min xs.size ys.size - i=0:=by
    have:=congrArg dF hz;rw [c6,zl,ay] at this;lia
   rw [il,uF] at hR
   wp_walk
   exact⟨_,rfl,by simpa [wd] using hR⟩
  case h =>
   exact⟨rfl,rfl,0,cP _,rfl,by simpa using h⟩
theorem OJ{A:eu}{s:az}{l b:Addr}{xs ys:Array Value}{e lt:Nat->Bool}(hl:s.heap.IsList l xs)(hb:s.heap.IsList b ys)(hu:A.units < cLine)
  (he:∀ j (h1:j < xs.size) (h2:j < ys.size),EqAt A.in1 s xs[j] ys[j] (e j)/\BS A.in1 s xs[j] ys[j] (lt j)):BS A s (.ref l) (.ref b) (uF e lt xs.size ys.size (min xs.size ys.size) 0):=by
 intro prog w E Q hq;obtain⟨⟨cls,dd,data,sl⟩,ho,hc,n,hd⟩:=id hl;obtain⟨⟨SX,ND,data2,Hb⟩,Ib,Ih,n2,hd2⟩:=id hb;simp only at hc hd Ih hd2;subst hc hd Ih hd2;exact zx (op:=.Lt) ⟨_,ho,rfl⟩ ⟨_,Ib,rfl⟩ v8 NX (Mg _ _) (Dq l b xs ys n n2 dd ND sl Hb e lt)
  ⟨ho,Ib,he,(fun x=>nomatch x),hq⟩ hu
theorem La{A:eu}{s:az}{l b:Addr}{xs ys:Array Value}{e lt:Nat->Bool}(hl:s.heap.IsTuple l xs)(hb:s.heap.IsTuple b ys)(hu:A.units < cLine)
  (he:∀ j (h1:j < xs.size) (h2:j < ys.size),EqAt A.in1 s xs[j] ys[j] (e j)/\BS A.in1 s xs[j] ys[j] (lt j)):BS A s (.ref l) (.ref b) (uF e lt xs.size ys.size (min xs.size ys.size) 0):=by
 intro prog w E Q hq;obtain⟨⟨cls,dd,data,sl⟩,ho,hc,n,hd⟩:=id hl;obtain⟨⟨SX,ND,data2,Hb⟩,Ib,Ih,n2,hd2⟩:=id hb;simp only at hc hd Ih hd2;subst hc hd Ih hd2;exact zx (op:=.Lt) ⟨_,ho,rfl⟩ ⟨_,Ib,rfl⟩ nG uw (sD _ _) (AE l b xs ys n n2 dd ND sl Hb e lt)
  ⟨ho,Ib,he,(fun x=>nomatch x),hq⟩ hu
theorem qm(xs ys:List D):∀ (k i:Nat),i<=min xs.length ys.length->min xs.length ys.length - i=k ->
  uF (fun j=>jf (xs.getD j .dh) (ys.getD j .dh)) (fun j=>oR (xs.getD j .dh) (ys.getD j .dh)) xs.length ys.length k i=oY (xs.drop i) (ys.drop i)
 | 0,i,hi,hk=>by
  rw [uF];by_cases c:xs.length<=ys.length
  ·have e1:xs.drop i=[]:=jV (by lia);rw [e1];cases q:ys.drop i with
   | nil =>
    have:=congrArg dF q;rw [c6,ay] at this;exact decide_eq_false (by lia)
   | cons y r =>
    have:=congrArg dF q;rw [c6,aj] at this;exact decide_eq_true (by lia)
  ·have e1:ys.drop i=[]:=jV (by lia);rw [e1];cases q:xs.drop i with
   | nil =>
    have:=congrArg dF q;rw [c6,ay] at this;exact decide_eq_false (by lia)
   | cons y r=>exact decide_eq_false (by lia)
 | k+1,i,hi,hk=>by
  have l1:i < xs.length:=by lia
  have l2:i < ys.length:=by lia
  rw [uF,gC l1,gC l2,rg,qm xs ys k (i+1) (by lia) (by lia)];have g1:xs.getD i .dh=xs[i]:=by rw [aF,ah l1]; rfl
  have g2:ys.getD i .dh=ys[i]:=by rw [aF,ah l2]; rfl
  rw [g1,g2]
theorem lb{h:Heap}:∀ {ds:List D} {vs:List Value} {as:List Addr},iB h vs (nC ds) as->∀ j (hj:j < vs.length),∃ bs,Reads h vs[j] (pd (ds.getD j .dh)) bs
 | [],vs,as,r,j,hj=>by cases r; exact absurd hj (cF _)
 | d :: ds,_,_,.cons (v:=v) (vs:=vs) r1 r2,j,hj=>by
  cases j with
  | zero=>exact⟨_,r1⟩
  | succ j=>exact lb r2 j (by simpa using hj)
theorem readsAll_len{h:Heap}:∀ {ds:List D} {vs:List Value} {as:List Addr},iB h vs (nC ds) as->vs.length=ds.length
 | [],_,_,r=>by cases r; rfl
 | d :: ds,_,_,.cons r1 r2=>by rw [aj,aj,readsAll_len r2]
theorem qX:∀ {ds:List D},rQ ds=true->∀ j,nr (ds.getD j .dh)=true
 | [],_,j=>by rw [List.getD_nil]; rfl
 | d :: ds,h,0=>by
  have h:(nr d&&rQ ds)=true:=h;rw [aQ] at h; simpa using h.1
 | d :: ds,h,j+1=>by
  have h:(nr d&&rQ ds)=true:=h;rw [aQ] at h; simpa using qX h.2 j
theorem mG:∀ (ds:List D) (j:Nat),(pd (ds.getD j .dh)).depth<=cK (nC ds)
 | [],j=>by rw [List.getD_nil]; exact aK _
 | d :: ds,0=>by
  show (pd d).depth<=cK (pd d :: nC ds);simp only [cK]; lia
 | d :: ds,j+1=>by
  have:=mG ds j;show (pd (ds.getD j .dh)).depth<=cK (pd d :: nC ds);simp only [cK]; lia
theorem tM:∀ {l:List oS} {ds:List D},gv l ds=true->∀ j,j < ds.length->∃ s∈l,dj s (ds.getD j .dh)=true/\l[j]?=some s
 | [],[],_,j,hj=>absurd hj (cF _)
 | [],_ :: _,h,_,_=>by cases h
 | _ :: _,[],h,_,_=>by cases h
 | s :: l,d :: ds,h,0,_=>by
  have h:(dj s d&&gv l ds)=true:=h;rw [aQ] at h;exact⟨s,by simp,by simpa using h.1,by simp⟩
 | s :: l,d :: ds,h,j+1,hj=>by
  have h:(dj s d&&gv l ds)=true:=h;rw [aQ] at h;obtain⟨s',h1,h2,h3⟩:=tM h.2 j (by simpa using hj);exact⟨s',ax _ h1,by simpa using h2,by simpa using h3⟩
theorem tN:∀ {s:oS} {ds:List D},iA s ds=true->∀ j,j < ds.length->dj s (ds.getD j .dh)=true
 | s,[],_,j,hj=>absurd hj (cF _)
 | s,d :: ds,h,0,_=>by
  have h:(dj s d&&iA s ds)=true:=h;rw [aQ] at h; simpa using h.1
 | s,d :: ds,h,j+1,hj=>by
  have h:(dj s d&&iA s ds)=true:=h;rw [aQ] at h; simpa using tN h.2 j (by simpa using hj)
theorem FA{A:eu}{s:az}{xs ys:List D}{vs ws:Array Value}{as bs:List Addr}(r1:iB s.heap vs.toList (nC xs) as)(r2:iB s.heap ws.toList (nC ys) bs)(n1:rQ xs=true)(n2:rQ ys=true)
  (hu:A.units+cK (nC xs) < cLine) (j:Nat) (h1:j < vs.size) (h2:j < ws.size):EqAt A s vs[j] ws[j] (jf (xs.getD j .dh) (ys.getD j .dh)):=by
 obtain⟨as',q1⟩:=lb r1 j (by simpa using h1);obtain⟨Wc,q2⟩:=lb r2 j (by simpa using h2);have m1:=qX n1 j;have m2:=qX n2 j;have dp:=mG xs j;have:=eqAt_reads (pd (xs.getD j .dh)) (pd (ys.getD j .dh)) A s _ _ _ _ q1 q2 (lu _ m1) (lu _ m2) (by lia);rw [vJ _ _ m1 m2] at this;simpa using this
theorem vA:∀ (n:Nat) (sh:oS) (a b:D) (A:eu) (s:az) (u v:Value) (as bs:List Addr),(pd a).depth<=n->dj sh a=true->dj sh b=true->nr a=true->nr b=true->Reads s.heap u (pd a) as->Reads s.heap v (pd b) bs->A.units+n < cLine->BS A s u v (oR a b):=by
 intro n;induction n using Nat.strongRecOn with
 | _ n ih =>
 intro sh a b A s u v as bs hn h1 h2 n1 n2 r1 r2 hu;cases sh with
 | int =>
  first | obtain⟨_,rfl⟩:=eU h1 | obtain⟨_,rfl⟩:=eS h1 | obtain⟨_,rfl⟩:=eT h1
  first | obtain⟨_,rfl⟩:=eU h2 | obtain⟨_,rfl⟩:=eS h2 | obtain⟨_,rfl⟩:=eT h2
  cases r1; cases r2;intro prog w E Q hq;exact HT.Ho A s _ _ _ _ prog w E Q hq
 | tup l =>
  first | obtain⟨_,rfl⟩:=eU h1 | obtain⟨_,rfl⟩:=eS h1 | obtain⟨_,rfl⟩:=eT h1
  first | obtain⟨_,rfl⟩:=eU h2 | obtain⟨_,rfl⟩:=eS h2 | obtain⟨_,rfl⟩:=eT h2
  rename_i xs ys;have n1:rQ xs=true:=n1;have n2:rQ ys=true:=n2;cases r1 with
  | tuple k1 k2 k3 k4 =>
   cases r2 with
   | tuple m1 m2 m3 m4 =>
    rename_i p o vs c p' o' ws c';have hd:(pd (.tup xs)).depth=cK (nC xs)+1:=rfl;obtain⟨n',rfl⟩:∃ n',n=n'+1:=⟨n - 1,by lia⟩;have z1:=readsAll_len k4;have z2:=readsAll_len m4;have e1:vs.size=xs.length:=by simpa using z1
    have e2:ws.size=ys.length:=by simpa using z2
    have base:=La (A:=A) (s:=s) (e:=fun j=>jf (xs.getD j .dh) (ys.getD j .dh)) (lt:=fun j=>oR (xs.getD j .dh) (ys.getD j .dh)) ⟨_,k1,k2,_,k3⟩ ⟨_,m1,m2,_,m3⟩ (by lia) (fun j j1 j2=>by
     refine⟨FA k4 m4 n1 n2 (by show A.units+1+_ < _; lia) j j1 j2,?_⟩;obtain⟨as',q1⟩:=lb k4 j (by simpa using j1);obtain⟨Wc,q2⟩:=lb m4 j (by simpa using j2);obtain⟨sj,hsj,g1,g2⟩:=tM (l:=l) (ds:=xs) h1 j (by lia);obtain⟨sj',adC,g1',g2'⟩:=tM (l:=l) (ds:=ys) h2 j (by lia);rw [g2] at g2'; cases g2';have dp:=mG xs j;have:=ih n' (by lia) sj (xs.getD j .dh) (ys.getD j .dh) A.in1 s _ _ _ _ (by lia) g1 g1' (qX n1 j) (qX n2 j) q1 q2 (by show A.units+1+n' < cLine; lia);simpa using this)
    have fin:=qm xs ys (min xs.length ys.length) 0 (cP _) rfl;rw [e1,e2,fin] at base;exact base
 | lst l =>
  first | obtain⟨_,rfl⟩:=eU h1 | obtain⟨_,rfl⟩:=eS h1 | obtain⟨_,rfl⟩:=eT h1
  first | obtain⟨_,rfl⟩:=eU h2 | obtain⟨_,rfl⟩:=eS h2 | obtain⟨_,rfl⟩:=eT h2
  rename_i xs ys;have n1:rQ xs=true:=n1;have n2:rQ ys=true:=n2;cases r1 with
  | list k1 k2 k3 k4 =>
   cases r2 with
   | list m1 m2 m3 m4 =>
    rename_i p o vs c p' as' o' ws c' Wc;have hd:(pd (.fx xs)).depth=cK (nC xs)+1:=rfl;obtain⟨n',rfl⟩:∃ n',n=n'+1:=⟨n - 1,by lia⟩;have z1:=readsAll_len k4;have z2:=readsAll_len m4;have e1:vs.size=xs.length:=by simpa using z1
    have e2:ws.size=ys.length:=by simpa using z2
    have base:=OJ (A:=A) (s:=s) (e:=fun j=>jf (xs.getD j .dh) (ys.getD j .dh)) (lt:=fun j=>oR (xs.getD j .dh) (ys.getD j .dh)) ⟨_,k1,k2,_,k3⟩ ⟨_,m1,m2,_,m3⟩ (by lia) (fun j j1 j2=>by
     refine⟨FA k4 m4 n1 n2 (by show A.units+1+_ < _; lia) j j1 j2,?_⟩;obtain⟨as',q1⟩:=lb k4 j (by simpa using j1);obtain⟨Wc,q2⟩:=lb m4 j (by simpa using j2);have dp:=mG xs j;have:=ih n' (by lia) l (xs.getD j .dh) (ys.getD j .dh) A.in1 s _ _ _ _ (by lia) (tN (s:=l) (ds:=xs) h1 j (by lia)) (tN (s:=l) (ds:=ys) h2 j (by lia)) (qX n1 j) (qX n2 j) q1 q2 (by show A.units+1+n' < cLine; lia);simpa using this)
    have fin:=qm xs ys (min xs.length ys.length) 0 (cP _) rfl;rw [e1,e2,fin] at base;exact base
end K2
end
section
namespace K2
open PySem PySem.Spec PyProof.Rows L2 PySem.W
section
variable {prog:bT} {w:World} {A:eu} {E:Value->az->Prop} {s:az}
theorem Ha {at':Addr} {bH:List Value} {n:Nat} {P:PySem.Fin->az->Prop} (Vh:s.heap.get? at'=some (uN "list" bH.toArray n)) (nE:bH.length < 2)
  (done:P (.done (.ret .none)) { s with heap:=sortedHeap s.heap at' bH bH.toArray }):wpAny (model prog w) A (Builtin.«list.sort» ⟨[.ref at'],[]⟩) P E s:=by
 rw [list_sort_plain];have lt':at' < s.heap.objs.size:=aR Vh;refine af (listItems_at Vh rfl (af (listUpdate_at Vh rfl ?_)));obtain⟨c,hc⟩:∃ c,(s.heap.update at' (jU fun _=>#[])).get? at'=some (uN "list" #[] c):=⟨_,get?_update_seq Vh (fun _=>#[])⟩;refine af (seqEpoch_at hc rfl (af (wpAny_newTuple (af (wpAny_newList (eD ?_))))));have h6:(((s.heap.update at' (jU fun _=>#[])).push (uN "tuple" bH.toArray 0)).push (uN "list" #[] 0)).get? at'=some (uN "list" #[] c):=by
  rw [Heap.get?_push_ne _ _ _ (by rw [size_push',Gn]; exact bQ (Nat.lt_succ_of_lt lt')),Heap.get?_push_ne _ _ _ (by rw [Gn]; exact bQ lt')];exact hc
 show wpAny (model prog w) A _ P E { s with heap:=((s.heap.update at' (jU fun _=>#[])).push (uN "tuple" bH.toArray 0)).push (uN "list" #[] 0) };dsimp only;have sz2:bH.toArray.size < 2:=by simpa using nE
 rw [if_pos sz2,if_pos sz2];refine af (aq ?_);rw [StateT.run_pure];refine af (aq ?_);dsimp only;have es:(bH.toArray.zip bH.toArray).map (·.2)=bH.toArray:=by
  apply Array.toList_inj.mp;simp [List.map_snd_zip]
 refine af (seqEpoch_at h6 rfl (af (listUpdate_at h6 rfl ?_ (hsz2:=by rw [show (arrOf (SortSt.mk' general' (bH.toArray.zip bH.toArray) #[] 7 none)).map (·.2)=bH.toArray from es,cC]; simp; lia))));simp only [bne_self_eq_false,aC,if_false];refine aq ?_;rw [show (arrOf (SortSt.mk' general' (bH.toArray.zip bH.toArray) #[] 7 none)).map (·.2)=bH.toArray from es];exact done
theorem KH{l:Addr}{bH:List Value}{Q:Value->az->Prop}(hl:s.heap.IsList l bH.toArray)(nE:bH.length < 2)
  (done:Q (.ref (s.heap.objs.size+1)) { s with heap:=sortedAll s.heap bH bH.toArray }):wpAny (model prog w) A (call (.builtin "sorted") [.ref l]) Q E s:=by
 refine Calls.call_function_entry kind_sorted plain_sorted entry_sorted (args_sorted1 _) ?_;unfold Builtin.«sorted»;refine af (m:=checkCount "sorted" 1 1 _) (aq (af (collect_list hl (af (wpAny_newList ?_)))));have e1:((s.heap.push (uN "list" #[] 0)).update s.heap.objs.size (jU (·++bH.toArray))).objs.size=s.heap.objs.size+1:=by rw [Gn,size_push']
 have e2:(((s.heap.push (uN "list" #[] 0)).update s.heap.objs.size (jU (·++bH.toArray))).push (uN "list" bH.toArray 0)).get? (s.heap.objs.size+1)=some (uN "list" bH.toArray 0):=by
  rw [<-e1]; exact br _ rfl
 show wpAny _ _ _ _ _ { s with heap:=((s.heap.push (uN "list" #[] 0)).update s.heap.objs.size (jU (·++bH.toArray))).push (uN "list" bH.toArray 0) };rw [e1];refine af (eD (da slot_list_sort ⟨_,e2,rfl⟩ entry_list_sort (Ha e2 nE ⟨_,rfl,?_⟩) (args_list_sort _)));exact aq ⟨_,rfl,done⟩
end
section
open PySem.SeqAt
def Th(A:eu)(s:az)(y x:Value)(b:Bool):Prop :=
 ∀ (prog:bT) (w:World) (E:Value->az->Prop) (Q:Bool->az->Prop),Q b s->wpAny (model prog w) A (oneLt' true y x) Q E s
theorem KZ{A:eu}{s:az}{l b:Addr}{xs ys:Array Value}{e lt:Nat->Bool}(hl:s.heap.IsList l xs)(hb:s.heap.IsList b ys)(hu:A.units < cLine)
  (he:∀ j (h1:j < xs.size) (h2:j < ys.size),EqAt A.in1 s xs[j] ys[j] (e j)/\BS A.in1 s xs[j] ys[j] (lt j)):Th A s (.ref l) (.ref b) (uF e lt xs.size ys.size (min xs.size ys.size) 0):=by
 intro prog w E Q hq;obtain⟨⟨cls,dd,data,sl⟩,ho,hc,n,hd⟩:=id hl;obtain⟨⟨SX,ND,data2,Hb⟩,Ib,Ih,n2,hd2⟩:=id hb;simp only at hc hd Ih hd2;subst hc hd Ih hd2;rw [oneLt'_eq];simp only [if_true];refine af (wpAny_cRoomFor hu (af (Mc (T:="list") ⟨_,ho,rfl⟩ v8 ?_)));exact BX v8 ⟨_,ho,rfl⟩ NX (Mg _ _) (Dq l b xs ys n n2 dd ND sl Hb e lt) ⟨ho,Ib,he,pN hq⟩
theorem HA{A:eu}{s:az}{l b:Addr}{xs ys:Array Value}{e lt:Nat->Bool}(hl:s.heap.IsTuple l xs)(hb:s.heap.IsTuple b ys)(hu:A.units < cLine)
  (he:∀ j (h1:j < xs.size) (h2:j < ys.size),EqAt A.in1 s xs[j] ys[j] (e j)/\BS A.in1 s xs[j] ys[j] (lt j)):Th A s (.ref l) (.ref b) (uF e lt xs.size ys.size (min xs.size ys.size) 0):=by
 intro prog w E Q hq;obtain⟨⟨cls,dd,data,sl⟩,ho,hc,n,hd⟩:=id hl;obtain⟨⟨SX,ND,data2,Hb⟩,Ib,Ih,n2,hd2⟩:=id hb;simp only at hc hd Ih hd2;subst hc hd Ih hd2;rw [oneLt'_eq];simp only [if_true];refine af (wpAny_cRoomFor hu (af (Mc (T:="tuple") ⟨_,ho,rfl⟩ nG ?_)));exact BX nG ⟨_,ho,rfl⟩ uw (sD _ _) (AE l b xs ys n n2 dd ND sl Hb e lt) ⟨ho,Ib,he,pN hq⟩
theorem HW{n:Nat}{A:eu}{s:az}{xs ys:List D}{vs ws:Array Value}{as bs:List Addr}(r1:iB s.heap vs.toList (nC xs) as)(r2:iB s.heap ws.toList (nC ys) bs)(n1:rQ xs=true)(n2:rQ ys=true)(hd:cK (nC xs)<=n)
  (hu:A.units+n < cLine) (hs:∀ j,j < xs.length->j < ys.length->∃ sh,dj sh (xs.getD j .dh)=true/\dj sh (ys.getD j .dh)=true) (j:Nat) (h1:j < vs.size) (h2:j < ws.size) :
  EqAt A s vs[j] ws[j] (jf (xs.getD j .dh) (ys.getD j .dh))/\BS A s vs[j] ws[j] (oR (xs.getD j .dh) (ys.getD j .dh)):=by
 have z1:=readsAll_len r1;have z2:=readsAll_len r2;have e1:vs.size=xs.length:=by simpa using z1
 have e2:ws.size=ys.length:=by simpa using z2
 refine⟨FA r1 r2 n1 n2 (by lia) j h1 h2,?_⟩;obtain⟨as',q1⟩:=lb r1 j (by simpa using h1);obtain⟨Wc,q2⟩:=lb r2 j (by simpa using h2);obtain⟨sh,g1,g2⟩:=hs j (by lia) (by lia);have dp:=mG xs j;have:=vA n sh (xs.getD j .dh) (ys.getD j .dh) A s _ _ _ _ (by lia) g1 g2 (qX n1 j) (qX n2 j) q1 q2 hu;simpa using this
theorem tq{n:Nat}{sh:oS}{a b:D}{A:eu}{s:az}{u v:Value}{as bs:List Addr}(hn:(pd a).depth<=n)(h1:dj sh a=true)(h2:dj sh b=true)(n1:nr a=true)(n2:nr b=true)(r1:Reads s.heap u (pd a) as)(r2:Reads s.heap v (pd b) bs)
  (hu:A.units+n < cLine):Th A s u v (oR a b):=by
 cases sh with
 | int =>
  first | obtain⟨_,rfl⟩:=eU h1 | obtain⟨_,rfl⟩:=eS h1 | obtain⟨_,rfl⟩:=eT h1
  first | obtain⟨_,rfl⟩:=eU h2 | obtain⟨_,rfl⟩:=eS h2 | obtain⟨_,rfl⟩:=eT h2
  cases r1; cases r2;intro prog w E Q hq;exact oneLt_int hq
 | tup l =>
  first | obtain⟨_,rfl⟩:=eU h1 | obtain⟨_,rfl⟩:=eS h1 | obtain⟨_,rfl⟩:=eT h1
  first | obtain⟨_,rfl⟩:=eU h2 | obtain⟨_,rfl⟩:=eS h2 | obtain⟨_,rfl⟩:=eT h2
  rename_i xs ys;have n1:rQ xs=true:=n1;have n2:rQ ys=true:=n2;cases r1 with
  | tuple k1 k2 k3 k4 =>
   cases r2 with
   | tuple m1 m2 m3 m4 =>
    rename_i p o vs c p' o' ws c';have hd:(pd (.tup xs)).depth=cK (nC xs)+1:=rfl;obtain⟨n',rfl⟩:∃ n',n=n'+1:=⟨n - 1,by lia⟩;have z1:=readsAll_len k4;have z2:=readsAll_len m4;have e1:vs.size=xs.length:=by simpa using z1
    have e2:ws.size=ys.length:=by simpa using z2
    have base:=HA (A:=A) (s:=s) ⟨_,k1,k2,_,k3⟩ ⟨_,m1,m2,_,m3⟩ (by lia) (HW (A:=A.in1) (n:=n') k4 m4 n1 n2 (by lia) (by show A.units+1+n' < cLine; lia) fun j j1 j2=>by
     obtain⟨sj,hsj,g1,g2⟩:=tM (l:=l) (ds:=xs) h1 j j1;obtain⟨sj',adC,g1',g2'⟩:=tM (l:=l) (ds:=ys) h2 j j2;rw [g2] at g2'; cases g2';exact⟨sj,g1,g1'⟩)
    have fin:=qm xs ys (min xs.length ys.length) 0 (cP _) rfl;rw [e1,e2,fin] at base;exact base
 | lst l =>
  first | obtain⟨_,rfl⟩:=eU h1 | obtain⟨_,rfl⟩:=eS h1 | obtain⟨_,rfl⟩:=eT h1
  first | obtain⟨_,rfl⟩:=eU h2 | obtain⟨_,rfl⟩:=eS h2 | obtain⟨_,rfl⟩:=eT h2
  rename_i xs ys;have n1:rQ xs=true:=n1;have n2:rQ ys=true:=n2;cases r1 with
  | list k1 k2 k3 k4 =>
   cases r2 with
   | list m1 m2 m3 m4 =>
    rename_i p o vs c p' as' o' ws c' Wc;have hd:(pd (.fx xs)).depth=cK (nC xs)+1:=rfl;obtain⟨n',rfl⟩:∃ n',n=n'+1:=⟨n - 1,by lia⟩;have z1:=readsAll_len k4;have z2:=readsAll_len m4;have e1:vs.size=xs.length:=by simpa using z1
    have e2:ws.size=ys.length:=by simpa using z2
    have base:=KZ (A:=A) (s:=s) ⟨_,k1,k2,_,k3⟩ ⟨_,m1,m2,_,m3⟩ (by lia) (HW (A:=A.in1) (n:=n') k4 m4 n1 n2 (by lia) (by show A.units+1+n' < cLine; lia) fun j j1 j2=>⟨l,tN (s:=l) (ds:=xs) h1 j j1,tN (s:=l) (ds:=ys) h2 j j2⟩);have fin:=qm xs ys (min xs.length ys.length) 0 (cP _) rfl;rw [e1,e2,fin] at base;exact base
theorem E9{prog:bT}{w:World}{A:eu}{s:az}{b fin:Bool}{Q:Bool->az->Prop}{n:Nat}(hu:A.units+n < cLine):∀ (l:List oS) (xs ys:List D) (vs ws:List Value) (as bs:List Addr) (i:Nat),gv l xs=true->gv l ys=true->rQ xs=true->rQ ys=true ->
  iB s.heap vs (nC xs) as->iB s.heap ws (nC ys) bs->cK (nC xs)<=n->fin=false->Q (oY xs ys) s->KatLex prog w A b fin Q (vs.zip ws) i s:=by
 intro l xs;induction xs generalizing l with
 | nil =>
  intro ys vs ws as bs i h1 h2 n1 n2 r1 r2 hd hf hq;cases r1;cases l with
  | nil =>
   cases ys with
   | nil=>cases r2; subst hf; exact hq
   | cons _ _=>cases h2
  | cons _ _=>cases h1
 | cons x xs ih =>
  intro ys vs ws as bs i h1 h2 n1 n2 r1 r2 hd hf hq;cases l with
  | nil=>cases h1
  | cons sh l =>
  cases ys with
  | nil=>cases h2
  | cons y ys =>
  cases r1 with
  | @cons v vs _ _ _ _ a1 a2 =>
  cases r2 with
  | @cons u ws _ _ _ _ b1 b2 =>
  have h1:(dj sh x&&gv l xs)=true:=h1;have h2:(dj sh y&&gv l ys)=true:=h2;have n1:(nr x&&rQ xs)=true:=n1;have n2:(nr y&&rQ ys)=true:=n2;rw [aQ] at h1 h2 n1 n2;have hd1:(pd x).depth<=n/\cK (nC xs)<=n:=by
   have hd:cK (pd x :: nC xs)<=n:=hd;simp only [cK] at hd;lia
  show KatLex prog w A b fin Q ((v,u) :: vs.zip ws) i s;have eq:=eqAt_reads (pd x) (pd y) A s _ _ _ _ a1 b1 (lu _ n1.1) (lu _ n2.1) (by lia);rw [vJ _ _ n1.1 n2.1] at eq;refine kat_cons (eq prog w _ _ ?_);rw [rg] at hq;cases q:jf x y with
  | true =>
   rw [q,if_pos rfl] at hq;exact kat_yes (ih l ys vs ws _ _ (i+1) h1.2 h2.2 n1.2 n2.2 a2 b2 hd1.2 hf hq)
  | false =>
   rw [q,if_neg (by simp)] at hq;refine kat_no ?_;cases c:(b&&i == 0) with
   | true=>exact tq hd1.1 h1.1 h2.1 n1.1 n2.1 a1 b1 hu prog w _ Q hq
   | false=>exact kat_one v u (vA n sh x y A s _ _ _ _ hd1.1 h1.1 h2.1 n1.1 n2.1 a1 b1 hu prog w _ _ hq)
end
def mM{α:Type}(n:Nat)(P:α->Prop):KasT α->Prop
 | .ret a=>P a
 | .ask i j k=>i < n/\j < n/\∀ b,mM n P (k b)
theorem mM.bind{α β:Type}{n:Nat}{P:α->Prop}{P':β->Prop}{f:α->KasT β}:∀ {t:KasT α},mM n P t->(∀ a,P a->mM n P' (f a))->mM n P' (t.bind f)
 | .ret a,q,h=>h a q
 | .ask i j k,⟨q1,q2,q3⟩,h=>⟨q1,q2,fun b=>mM.bind (q3 b) h⟩
theorem Bo{α:Type}{n:Nat}{lt:Nat->Nat->Bool}{cmp:Nat->Nat->(Bool->az->Prop)->az->Prop}{s:az}{Q:α->az->Prop}(hc:∀ i j,i < n->j < n->∀ C:Bool->az->Prop,C (lt i j) s->cmp i j C s) :
  ∀ (t:KasT α),mM n (fun _=>True) t->Q (ja lt t) s->t.kasWp cmp Q s
 | .ret a,_,q=>q
 | .ask i j k,⟨h1,h2,h3⟩,q=>hc i j h1 h2 _ (Bo hc (k (lt i j)) (h3 _) q)
def Bd(n:Nat)(p:Array Nat):Prop:=0 < n/\∀ x∈p,x < n
theorem Bd.at{n:Nat}{p:Array Nat}(h:Bd n p)(k:Nat):p.getD k 0 < n:=by
 by_cases hk:k < p.size
 ·have:p.getD k 0=p[k]:=by simp [sE,hk]
  rw [this]; exact h.2 _ (Array.getElem_mem hk)
 ·have:p.getD k 0=0:=by simp [sE,hk]
  rw [this]; exact h.1
theorem Bd.perm{n:Nat}{p q:Array Nat}(h:Bd n p)(hp:q.Perm p):Bd n q:=⟨h.1,fun x hx=>h.2 x (hp.mem_iff.mp hx)⟩
theorem FT{n:Nat}{p:Array Nat}(h:Bd n p):∀ (f k:Nat),mM n (fun _=>True) (sx p f k)
 | 0,k=>trivial
 | f+1,k=>⟨h.at _,h.at _,fun b=>by
  show mM n _ (if b=true then ya k else sx p f (k+1));split
  ·trivial
  ·exact FT h f (k+1)⟩
theorem xH{n:Nat}:∀ (f:Nat) (p:Array Nat) (k q:Nat),Bd n p->mM n (fun r=>Bd n r.1) (mO f p k q)
 | 0,p,k,q,h=>h
 | f+1,p,k,q,h=>⟨h.at _,h.at _,fun b=>by
  show mM n _ (if b=true then (if q > 0 then mO f (iw p (k - (q+1)) k) (k+1) 0 else mO f p (k+1) 0) else .ask (p.getD (k - 1) 0) (p.getD k 0) fun d=>if d=true then .ret (p,k,q) else mO f p (k+1) (q+1));split
  ·split
   ·exact xH f _ _ _ (h.perm (k9 _ _ _))
   ·exact xH f _ _ _ h
  ·refine⟨h.at _,h.at _,fun d=>?_⟩;show mM n _ (if d=true then ya (p,k,q) else mO f p (k+1) (q+1));split
   ·exact h
   ·exact xH f _ _ _ h⟩
theorem Jg{n:Nat}{p:Array Nat}(h:Bd n p)(k m:Nat):mM n (fun r=>Bd n r.2) (P5 k m p) :=
 mM.bind (FT (h.perm (k9 _ _ _)) _ _) fun _ _=>h.perm (k9 _ _ _)
theorem xG{n:Nat}{p:Array Nat}(h:Bd n p)(k m:Nat):mM n (fun r=>Bd n r.2) (As k m p) :=
 mM.bind (xH _ _ _ _ h) fun r hr=>by
  split
  ·exact Jg (hr.perm (k9 _ _ _)) _ _
  ·exact Jg hr _ _
theorem Pq{n:Nat}{p:Array Nat}(h:Bd n p)(m:Nat):mM n (fun r=>Bd n r.2) (kas_count m p) :=
 mM.bind (FT h _ _) fun k _=>by
  split
  ·exact h
  ·split
   ·refine⟨h.at _,h.at _,fun b=>?_⟩;show mM n _ (if b=true then ya (k,p) else As k m (iw p 0 k));split
    ·exact h
    ·exact xG (h.perm (k9 _ _ _)) _ _
   ·exact xG h _ _
theorem yR{n:Nat}{p:Array Nat}(h:Bd n p)(k:Nat):∀ (f l r:Nat),mM n (fun _=>True) (kZ p k f l r)
 | 0,l,r=>trivial
 | f+1,l,r=>by
  show mM n _ (if l>=r then ya l else .ask (p.getD k 0) (p.getD ((l+r) / 2) 0) fun c=>if c=true then kZ p k f l ((l+r) / 2) else kZ p k f ((l+r) / 2+1) r);split
  ·trivial
  ·refine⟨h.at _,h.at _,fun b=>?_⟩;show mM n _ (if b=true then kZ p k f l ((l+r) / 2) else kZ p k f ((l+r) / 2+1) r);split
   ·exact yR h k f _ _
   ·exact yR h k f _ _
theorem NP{n:Nat}:∀ (f:Nat) (p:Array Nat) (k:Nat),Bd n p->mM n (fun _=>True) (kas_bin f p k)
 | 0,p,k,h=>trivial
 | f+1,p,k,h=>mM.bind (yR h k _ _ _) fun l _=>NP f _ _ (h.perm (bubble_perm _ _ _))
theorem Jh{n:Nat}(h:0 < n):mM n (fun _=>True) (kas_sort n) :=
 mM.bind (Pq ⟨h,fun x hx=>by simpa using hx⟩ n) fun r hr=>by
  split
  ·exact NP _ _ _ hr
  ·trivial
end K2
end
section
namespace K2
open PySem PySem.Spec PyProof.Rows L2 PySem.W
mutual
theorem sT{h h':Heap}(hk:∀ b o vs n,o.data=.seq vs n->h.get? b=some o->h'.get? b=some o):∀ (d:D) {v:Value} {as:List Addr},nr d=true->Reads h v (pd d) as->Reads h' v (pd d) as
 | .dh,_,_,_,r=>by cases r; exact .none
 | .bl b,_,_,_,r=>by cases r; exact .bool b
 | .int i,_,_,_,r=>by cases r; exact .int i _
 | .str x,_,_,_,r=>by cases r; exact .str x _
 | .tup ds,_,_,n,r=>by
  cases r with
  | tuple h1 h2 h3 h4=>exact .tuple (hk _ _ _ _ h3 h1) h2 h3 (oy hk ds n h4)
 | .fx ds,_,_,n,r=>by
  cases r with
  | list h1 h2 h3 h4=>exact .list (hk _ _ _ _ h3 h1) h2 h3 (oy hk ds n h4)
 | .lI _,_,_,n,_=>by cases n
 | .ref _,_,_,n,_=>by cases n
 | .exc _,_,_,n,_=>by cases n
theorem oy{h h':Heap}(hk:∀ b o vs n,o.data=.seq vs n->h.get? b=some o->h'.get? b=some o):∀ (ds:List D) {vs:List Value} {as:List Addr},rQ ds=true->iB h vs (nC ds) as->iB h' vs (nC ds) as
 | [],_,_,_,r=>by cases r; exact .nil
 | d :: ds,_,_,n,r=>by
  have n:(nr d&&rQ ds)=true:=n;rw [aQ] at n;cases r with
  | cons r1 r2=>exact .cons (sT hk d n.1 r1) (oy hk ds n.2 r2)
end
mutual
theorem Ez(G:Gp):∀ (sh:oS) (d:D) (n:Nat),dj sh d=true->Vp sh<=n->Sn G n d d
 | .int,.int i,n,_,_=>.int i
 | .tup l,.tup ds,n,h,hn=>by
  have hn:SE l+1<=n:=hn;obtain⟨m,rfl⟩:∃ m,n=m+1:=⟨n - 1,by lia⟩;exact MA G l ds m h (by lia)
 | .lst s,.fx ds,n,h,hn=>by
  have hn:Vp s+1<=n:=hn;obtain⟨m,rfl⟩:∃ m,n=m+1:=⟨n - 1,by lia⟩;exact MB G s ds m h (by lia)
theorem MA(G:Gp):∀ (l:List oS) (ds:List D) (m:Nat),gv l ds=true->SE l<=m->Sn G (m+1) (.tup ds) (.tup ds)
 | [],[],m,_,_=>.Er
 | s :: l,d :: ds,m,h,hm=>by
  have h:(dj s d&&gv l ds)=true:=h;have hm:max (Vp s) (SE l)<=m:=hm;rw [aQ] at h;exact .om (Ez G s d m h.1 (by lia)) (MA G l ds m h.2 (by lia))
theorem MB(G:Gp):∀ (s:oS) (ds:List D) (m:Nat),iA s ds=true->Vp s<=m->Sn G (m+1) (.fx ds) (.fx ds)
 | s,[],m,_,_=>.EG
 | s,d :: ds,m,h,hm=>by
  have h:(dj s d&&iA s ds)=true:=h;rw [aQ] at h;exact .zh (Ez G s d m h.1 hm) (MB G s ds m h.2 hm)
end
theorem getD_at{α:Type}(xs:List α)(d:α){i:Nat}(h:i < xs.length):xs.getD i d=xs[i]:=by
 rw [aF,ah h]; rfl
theorem oF{α:Type}(xs:List α)(d:α):(aY xs.length).map (fun i=>xs.getD i d)=xs:=by
 refine List.ext_getElem (by simp) fun i h1 h2=>?_;rw [dq,mQ];exact getD_at _ _ h2
theorem yX{h:Heap}{s1:oS}{l:List oS}:∀ (zs:List D) (vs:List Value),(∀ z∈zs,dj (.tup (s1 :: l)) z=true)->(∀ i,i < vs.length->∃ as,Reads h (vs.getD i .none) (pd (zs.getD i .dh)) as)->vs.length=zs.length ->
  ∃ fs,KatTups h vs fs/\fs.length=vs.length/\∀ f∈fs,∃ d as,dj s1 d=true/\Reads h f (pd d) as:=by
 intro zs;induction zs with
 | nil =>
  intro vs _ _ h;have:vs=[]:=List.length_eq_zero_iff.mp h;subst this;exact⟨[],trivial,rfl,fun _ h=>by cases h⟩
 | cons z zs ih =>
 intro vs hs hr hl;cases vs with
 | nil=>cases hl
 | cons v vs =>
  obtain⟨fs,h1,h2,h3⟩:=ih vs (fun z hz=>hs z (ax _ hz)) (fun i hi=>by
   obtain⟨as,r⟩:=hr (i+1) (by simpa using hi);exact⟨as,by simpa using r⟩) (by simpa using hl)
  obtain⟨as,r⟩:=hr 0 (by simp);have hz:=hs z (by simp);simp only [qE] at r;cases z <;> first | (cases hz; done) | skip
  rename_i ds;cases ds with
  | nil=>cases hz
  | cons d ds =>
   have hz:(dj s1 d&&gv l ds)=true:=hz;rw [aQ] at hz;cases r with
   | tuple k1 k2 k3 k4 =>
    rename_i p o ws c;have k5:iB h ws.toList (pd d :: nC ds) as:=k4;cases q:ws.toList with
    | nil=>rw [q] at k5; cases k5
    | cons f rest =>
     rw [q] at k5;cases k5 with
     | cons r1 r2 =>
      have hf:ws[0]?=some f:=by
       have:ws.toList[0]?=some f:=by rw [q]; rfl
       simpa using this
      refine⟨f :: fs,.cons k1 k2 k3 hf h1,by simp [h2],fun g hg=>?_⟩;rcases List.mem_cons.mp hg with rfl | hg
      ·exact⟨d,_,hz.1,r1⟩
      ·exact h3 g hg
def GW:oS->Value
 | .int=>.type "int"
 | .tup _=>.type "tuple"
 | .lst _=>.type "list"
theorem uh{M:Model}{h:Heap}{sh:oS}{d:D}{v:Value}{as:List Addr}(hs:dj sh d=true)(r:Reads h v (pd d) as):Looks M h (typeOf v) (GW sh):=by
 cases sh with
 | int =>
  cases d <;> first | (cases hs; done) | skip
  cases r;exact .now
 | tup l =>
  cases d <;> first | (cases hs; done) | skip
  cases r with
  | tuple k1 k2 k3 k4 =>
   rename_i p o ws c;have:Looks M h (typeOf (.ref p)) o.cls:=(Looks.ld k1).andThen .now;rw [k2] at this; exact this
 | lst l =>
  cases d <;> first | (cases hs; done) | skip
  cases r with
  | list k1 k2 k3 k4 =>
   rename_i p o ws c as;have:Looks M h (typeOf (.ref p)) o.cls:=(Looks.ld k1).andThen .now;rw [k2] at this; exact this
theorem Dt{prog:bT}{w:World}{A:eu}{s:az}{E:Value->az->Prop}{Q:Bool->az->Prop}{n:Nat}{b:Bool}{l:List oS}{a c:D}{u v:Value}{as bs:List Addr}(hn:(pd a).depth<=n+1)(h1:dj (.tup l) a=true)(h2:dj (.tup l) c=true)(n1:nr a=true)(n2:nr c=true)
  (r1:Reads s.heap u (pd a) as) (r2:Reads s.heap v (pd c) bs) (hu:A.units+n < cLine) (hq:Q (oR a c) s):wpAny (model prog w) A (keyLt' (tuples' b) u v) Q E s:=by
 first | obtain⟨_,rfl⟩:=eU h1 | obtain⟨_,rfl⟩:=eS h1 | obtain⟨_,rfl⟩:=eT h1
 first | obtain⟨_,rfl⟩:=eU h2 | obtain⟨_,rfl⟩:=eS h2 | obtain⟨_,rfl⟩:=eT h2
 rename_i xs ys;cases r1 with
 | tuple k1 k2 k3 k4 =>
  cases r2 with
  | tuple m1 m2 m3 m4 =>
   rename_i p o vs c p' o' ws c';have z1:=readsAll_len k4;have z2:=readsAll_len m4;have e1:vs.size=xs.length:=by simpa using z1
   have e2:ws.size=ys.length:=by simpa using z2
   have el:∀ (l:List oS) (xs ys:List D),gv l xs=true->gv l ys=true->xs.length=ys.length:=by
    intro l;induction l with
    | nil =>
     intro xs ys h1 h2;cases xs with
     | nil=>cases ys with
      | nil=>rfl
      | cons _ _=>cases h2
     | cons _ _=>cases h1
    | cons s l ih =>
     intro xs ys h1 h2;cases xs with
     | nil=>cases h1
     | cons x xs =>
      cases ys with
      | nil=>cases h2
      | cons y ys =>
       have h1:(dj s x&&gv l xs)=true:=h1;have h2:(dj s y&&gv l ys)=true:=h2;rw [aQ] at h1 h2;rw [aj,aj,ih xs ys h1.2 h2.2]
   have hd:(pd (.tup xs)).depth=cK (nC xs)+1:=rfl;refine kat_lt k1 k3 m1 m3 (E9 (n:=n) hu l xs ys _ _ _ _ 0 h1 h2 n1 n2 k4 m4 (by lia) (decide_eq_false (by rw [e1,e2,el l xs ys h1 h2]; lia)) hq)
section
variable {X:Cx}
theorem OL{x:D}{G:Gp}{zs:List D}(ty:Ce x G)(hi:itemsOf x G=some zs):pD x G=some zs:=by
 cases x <;> first | exact ty.elim | exact hi
theorem FN (hc:X.calm=true) (hu:X.A.units+64 < cLine):vW X (.builtin "sorted") Ak:=by
 intro ZB s σ H G xs ds us Q I ab rx rd q;unfold Ak at q;split at q
 ·rename_i x;obtain⟨sh,zs,ty,hi,rn,cB,h64,q⟩:=q;obtain⟨w1,rfl,KL⟩:=rd.one;obtain⟨u,rfl,ru⟩:=rx.one;obtain⟨l,vs,bH,rfl,rv,rs,hl,_⟩:=oP I ab ru KL (OL ty hi);have V0:=rv.length;have TR:=rs.length;have hsz:bx=16777216:=cC;have hz:∀ z∈zs,dj sh z=true:=fun z h=>List.all_eq_true.mp rn z h;by_cases nE:bH.length < 2
  ·refine KH hl nE ?_;obtain⟨e,he⟩:=sortedAll_at s.heap bH bH.toArray;have hp:H (s.heap.objs.size+1)=none:=I.cB.fresh (Nat.le_succ _);have es:ph zs=zs:=nM sh hz (.refl _) (by
    match zs,TR,nE with
    | [],_,_=>exact .nil
    | [z],_,_=>exact uP _ _
    | _ :: _ :: _,h,f=>exact absurd f (by rw [<-V0,h]; simp))
   rw [es] at q;refine⟨.ref (s.heap.objs.size+1),upd H (s.heap.objs.size+1) (.lst vs),.ref _,_,I.laid (t':=s.toks) (fun b o e=>sortedAll_old e) (Nat.le_succ _) ?_,.Ba ab hp rs,rfl,.ref _,q _ (ab.free hp)⟩;exact⟨by lia,bH,e,rv,he⟩
  ·obtain⟨m,F0⟩:=I.fr;have nz:0 < zs.length:=by lia
   have nL:∀ b o vs n,o.data=.seq vs n->s.heap.get? b=some o->b≠X.env.locals:=fun b o vs n e1 e2 z=>by
    obtain⟨o',es,ep,OX,Ag,_⟩:=F0.ns;rw [z,OX] at e2; cases e2; rw [Ag] at e1; cases e1
   unfold Rh at cB;rw [aQ] at cB;have hdp:Vp sh<=7:=of_decide_eq_true cB.1;have sn:∀ z∈zs,Sn G 7 z z:=fun z h=>Ez G sh z 7 (hz z h) hdp;refine kat_sorted F0 A9 hl (by lia) (by lia) fun Dd e1 h' F N mj=>?_;obtain⟨kk,ns⟩:=nY I F0 F fun p hp=>N p (ax _ hp);have AV:∀ i,i < bH.length->∃ as,Reads h' (bH.getD i .none) (pd (zs.getD i .dh)) as:=fun i hi=>by
    have i1:i < zs.length:=by lia
    have i2:i < vs.length:=by lia
    have g1:zs.getD i .dh=zs[i]:=getD_at _ _ i1;have g2:bH.getD i .none=bH[i]:=getD_at _ _ hi;obtain⟨v,hv,WT⟩:=rs.get (ah i1);obtain⟨u,Ac,WO⟩:=rv.get hv;rw [ah hi] at Ac;cases Ac;obtain⟨as,r⟩:=(h8 I ab (sn _ (cu i1))).1 v _ WT WO;rw [g1,g2];exact⟨as,sT (fun b o vs n e1 e2=>kk b o (nL b o vs n e1 e2) e2) _ (sn _ (cu i1)).nr r⟩
   have yj:∀ i,i < zs.length->dj sh (zs.getD i .dh)=true:=fun i hi=>by rw [getD_at _ _ hi]; exact hz _ (cu hi)
   have U1:∀ i,i < zs.length->nr (zs.getD i .dh)=true:=fun i hi=>by rw [getD_at _ _ hi]; exact(sn _ (cu hi)).nr
   have dpz:∀ i,i < zs.length->(pd (zs.getD i .dh)).depth<=7:=fun i hi=>by rw [getD_at _ _ hi]; exact yK (sn _ (cu hi))
   let zz:Nat->D:=fun i=>if i < zs.length then zs.getD i .dh else zs.getD 0 .dh
   have Qk:∀ i,dj sh (zz i)=true:=fun i=>by
    show dj sh (if i < zs.length then zs.getD i .dh else zs.getD 0 .dh)=true;split
    ·exact yj i (by assumption)
    ·exact yj 0 nz
   let lt:Nat->Nat->Bool:=fun i j=>oR (zz i) (zz j)
   have swo:NS lt:=⟨fun i j h=>yu sh (Qk i) (Qk j) h,fun i j k h1 h2=>vw sh (Qk i) (Qk j) (Qk k) h1 h2⟩;have ZS:∀ i j,i < zs.length->j < zs.length->lt i j=oR (zs.getD i .dh) (zs.getD j .dh):=fun i j hi hj=>by
    show oR (if i < zs.length then _ else _) (if j < zs.length then _ else _)=_;rw [if_pos hi,if_pos hj]
   obtain⟨p,ep,tK,Zs,hup⟩:=Hl swo (n:=bH.length) (by lia);have hA2:X.A.in1.in1.units=X.A.units+2:=rfl;have ask:∀ κ:SortKind,(∀ i j,i < bH.length->j < bH.length->∀ C:Bool->az->Prop,C (oR (zs.getD i .dh) (zs.getD j .dh)) { s with heap:=h' }->kas_ask X.prog X.w X.A.in1.in1 κ bH i j C { s with heap:=h' }) ->
     (kas_sort bH.length).kasWp (kas_ask X.prog X.w X.A.in1.in1 κ bH) (fun p WN=>KasFin X.base X.env.locals m Dd e1 (p.toList.map fun i=>bH.getD i eX) (fun s3=>sr X ZB σ H G Q (.ref Dd) s3) WN) { s with heap:=h' }:=by
    intro κ hk;refine Bo (lt:=lt) (n:=bH.length) (fun i j i1 i2 C hC=>hk i j i1 i2 C (by rw [<-ZS i j (by lia) (by lia)]; exact hC)) _ (Jh (by lia)) ?_;rw [ep];refine KasFin.intro (g:=fun o=>(Dd,o) :: rK X.base s.heap X.env.locals) F N (.head (fun q hq z=>absurd (mj q hq) (by rw [z]; exact gE _))) fun h2 c F2 N2=>?_;obtain⟨k2,ns2⟩:=nY I F0 F2 fun p hp=>N2 p (ax _ hp);have hD:s.heap.get? Dd=none:=by
     have nD:=N _ aA;cases qd:s.heap.get? Dd with
     | none=>rfl
     | some o=>exact absurd (mj _ (pB nD.2.1 nD.2.2 qd)) (gE _)
    have hp:H Dd=none:=Ai I.cB hD;have rvp:Vals (p.toList.map fun i=>vs.getD i .dh) (p.toList.map fun i=>bH.getD i eX):=by
     have:∀ (ps:List Nat),(∀ i∈ps,i < bH.length)->Vals (ps.map fun i=>vs.getD i .dh) (ps.map fun i=>bH.getD i eX):=by
      intro ps;induction ps with
      | nil=>intro _; exact .nil
      | cons i ps ih =>
       intro hh;have hi:=hh i (by simp);refine .cons ?_ (ih fun j hj=>hh j (ax _ hj));have i2:i < vs.length:=by lia
       obtain⟨u,Ac,WO⟩:=rv.get (ah i2);rw [ah hi] at Ac;cases Ac;show RelV (vs.getD i .dh) (bH.getD i .none);rw [getD_at _ _ i2,getD_at _ _ hi]; exact WO
     exact this _ fun i hi=>by simpa using tK.mem_iff.mp hi
    have rsp:bp X.K H (p.toList.map fun i=>vs.getD i .dh) (p.toList.map fun i=>zs.getD i .dh):=by
     have:∀ (ps:List Nat),(∀ i∈ps,i < bH.length)->bp X.K H (ps.map fun i=>vs.getD i .dh) (ps.map fun i=>zs.getD i .dh):=by
      intro ps;induction ps with
      | nil=>intro _; exact .nil
      | cons i ps ih =>
       intro hh;have hi:=hh i (by simp);refine .cons ?_ (ih fun j hj=>hh j (ax _ hj));have i2:i < vs.length:=by lia
       have i1:i < zs.length:=by lia
       obtain⟨v,hv,r⟩:=rs.get (ah i1);rw [ah i2] at hv;cases hv;show cM X.K H (vs.getD i .dh) (zs.getD i .dh);rw [getD_at _ _ i2,getD_at _ _ i1]; exact r
     exact this _ fun i hi=>by simpa using tK.mem_iff.mp hi
    have es:ph zs=p.toList.map fun i=>zs.getD i .dh:=by
     refine nM sh hz ?_ ?_
     ·have h1:(p.toList.map fun i=>zs.getD i .dh).Perm ((aY zs.length).map fun i=>zs.getD i .dh):=by
       have:bH.length=zs.length:=by lia
       rw [<-this];exact tK.map _
      rw [oF] at h1;exact h1
     ·rw [hV,Mi];intro i j hi hj JF;have g1:gA p i=p.toList[i]:=by
       have:i < p.size:=by simpa using hi
       simp [gA,sE,this]
      have g2:gA p j=p.toList[j]:=by
       have:j < p.size:=by simpa using hj
       simp [gA,sE,this]
      have bi:p.toList[i] < bH.length:=by simpa using tK.mem_iff.mp (cu hi)
      have bj:p.toList[j] < bH.length:=by simpa using tK.mem_iff.mp (cu hj)
      have:=hup i j (by lia) (by have:j < p.toList.length:=hj; rw [bz,Zs] at this; exact this);rw [g1,g2,ZS _ _ (by lia) (by lia)] at this;exact this
    rw [es] at q;have ln:(p.toList.map fun i=>vs.getD i .dh).length<=bx:=by rw [ag,bz,Zs]; lia
    refine⟨.ref Dd,upd H Dd (.lst (p.toList.map fun i=>vs.getD i .dh)),.ref _,_,Inv.M6 (t':=s.toks) I k2 ns2 hD ?_,.Ba ab hp rsp,rfl,.ref _,q _ (ab.free hp)⟩;exact⟨ln,_,c,rvp,(N2 _ aA).1⟩
   have gen:∀ i j,i < bH.length->j < bH.length->∀ C:Bool->az->Prop,C (oR (zs.getD i .dh) (zs.getD j .dh)) { s with heap:=h' }->wpAny (model X.prog X.w) X.A.in1.in1 (keyLt' PH (bH.getD i eX) (bH.getD j eX)) C (fun _ _=>False) { s with heap:=h' }:=by
    intro i j hi hj C hC;obtain⟨as,r1⟩:=AV i hi;obtain⟨bs,r2⟩:=AV j hj;rw [keyLt'_oneType];exact tq (s:={ s with heap:=h' }) (n:=7) (dpz i (by lia)) (yj i (by lia)) (yj j (by lia)) (U1 i (by lia)) (U1 j (by lia)) r1 r2 (by rw [hA2]; lia) X.prog X.w _ C hC
   have lk:∀ v∈bH,Looks (model X.prog X.w) h' (typeOf v) (GW sh):=fun v hv=>by
    obtain⟨i,hi,rfl⟩:=c8 hv;obtain⟨as,r⟩:=AV i hi;rw [getD_at _ _ hi] at r;exact uh (yj i (by lia)) r
   cases sh with
   | int=>exact kas_kind (s:={ s with heap:=h' }) (T:=.type "int") (by lia) lk rfl rfl (ask PH gen)
   | lst ss=>exact kas_kind (s:={ s with heap:=h' }) (T:=.type "list") (by lia) lk rfl rfl (ask PH gen)
   | tup ss =>
    cases ss with
    | nil=>exact absurd cB.2 (by simp)
    | cons s1 ss =>
     obtain⟨fs,t1,t2,t3⟩:=yX (h:=h') zs bH hz AV (by lia);refine kat_kind (s:={ s with heap:=h' }) (T:=GW s1) t1 (by lia) (fun f hf=>?_) (by cases s1 <;> rfl) (ask _ fun i j hi hj C hC=>?_)
     ·obtain⟨d,as,h1,h2⟩:=t3 f hf;exact uh h1 h2
     ·obtain⟨as,r1⟩:=AV i hi;obtain⟨bs,r2⟩:=AV j hj;exact Dt (s:={ s with heap:=h' }) (n:=7) (by have:=dpz i (by lia); lia) (yj i (by lia)) (yj j (by lia)) (U1 i (by lia)) (U1 j (by lia)) r1 r2 (by rw [hA2]; lia) hC
 ·exact q.elim
end
end K2
end
section
namespace L2
open PySem PySem.Spec PyProof.Rows
section
variable {prog:bT} {w:World} {A:eu} {E:Value->az->Prop} {s:az}
theorem Bn{d:Addr}{od:Obj}{es:Array iV}{c:Nat}{Q:Value->az->Prop}(ns:(d == fv)=false)(zk:s.heap.get? d=some od)(ex:od.ExactDict)(dd:od.data=.dict es c)
  (hQ:Q (.ref s.heap.objs.size) { s with heap:=s.heap.push { cls:=.type "dict_keyiterator",data:=.fields #[.ref d,.int 0 0,.int es.size 0,.int c 0] } }):wpAny (model prog w) A (CM (.ref d)) Q E s:=by
 have ty:s.TypeIs (.ref d) "dict":=⟨od,zk,ex.1⟩;refine jo ty F.slot_dict_iter (da F.slot_dict_iter ty F.entry_dict_iter ?_ (F.args_dict_iter_1 _));unfold Builtin.«dict.__iter__» Builtin.Dict.dictSlotNone;refine af (af (Ap ty (show wpAny _ _ (pure (eQ d)) _ _ s from aq ?_)));show wpAny _ _ (jn d >>= _) _ _ s;unfold jn;rw [if_neg (fun z=>by rw [ns] at z; cases z)];refine af (aq (af (fu zk dd (af (jt zk dd ?_)))));refine af (c9 (aq ⟨_,rfl,"dict_keyiterator",_,⟨_,br _ rfl,rfl⟩,F.slot_dict_keyiterator_next.lookup,?_⟩));simpa [rM] using hQ
theorem Ds{it d:Addr}{od:Obj}{es:Array iV}{i c:Nat}{Q:Option Value->az->Prop}(ki:s.heap.IsKeyIter it d i es.size c)(zk:s.heap.get? d=some od)(dd:od.data=.dict es c)(hi:i < es.size)
  (hQ:∀ h',h'.IsKeyIter it d (i+1) es.size c->g8 it s.heap h'->Q (some es[i].key) { s with heap:=h' }):wpAny (model prog w) A (sv (.ref it)) Q E s:=by
 obtain⟨o,ho,hc,hf⟩:=id ki;unfold sv;refine af (lJ (gq (name:=oT "__next__") ki.typeIs kr (da kr ki.typeIs JY ?_ (JB _))));refine af (aq (af (af ?_)))
 first | refine af (j8 ki.typeIs (aq ?_)) | refine af (ny ki.typeIs (aq ?_))
 refine af (kq ho hf ?_);have W6:gu "dict_keyiterator" = false:=by decide
 rw [W6];show wpAny _ _ (if (eQ d == eX)=true then _ else _) _ _ s;rw [if_neg (fun z=>by cases z)];refine af (aq (af (fu zk dd ?_)));rw [if_neg (by simp)];refine af (aq (af (jt zk dd ?_)));rw [if_neg (by simp)];refine aq ?_;dsimp only;rw [if_neg (show ¬ ((i:Int) < 0) from Int.not_lt.mpr (j4 i)),aZ,bb hi];dsimp only;refine af ?_
 first | refine af (j8 ki.typeIs (aq ?_)) | refine af (ny ki.typeIs (aq ?_))
 refine af (wpAny_isOneOf_keyiter ki.typeIs ?_);show wpAny _ _ (PG (.ref it) 1 (rM ((i:Int)+1)) >>= _) _ _ s;refine af (my ho hf (by simp) ?_);have ki2:(s.heap.update it (mV (·.setIfInBounds 1 (rM ((i:Int)+1))))).IsKeyIter it d (i+1) es.size c :=
  ⟨_,fN _ ho (oV (fA hf _)),(uy ..).trans hc,by rw [fA hf]; simp [rM]⟩
 refine af (eD (af (wpAny_isOneOf_keyiter (s:={ s with heap:=s.heap.update it (mV (·.setIfInBounds 1 (rM ((i:Int)+1)))) }) ki2.typeIs ?_)));show wpAny _ _ (pure es[i].key) _ _ _;exact aq (aq ⟨_,rfl,aq (hQ _ ki2 (cO ..))⟩)
theorem HQ{it d:Addr}{od:Obj}{es:Array iV}{i c:Nat}{Q:Option Value->az->Prop}(calm:A.handled=none)(ki:s.heap.IsKeyIter it d i es.size c)(zk:s.heap.get? d=some od)(dd:od.data=.dict es c)(hi:es.size<=i)
  (hQ:∀ h',Heap.ExtBut it s.heap h'->Q none { s with heap:=h' }):wpAny (model prog w) A (sv (.ref it)) Q E s:=by
 obtain⟨o,ho,hc,hf⟩:=id ki;unfold sv;refine af (lJ (gq (name:=oT "__next__") ki.typeIs kr (da kr ki.typeIs JY ?_ (JB _))));refine af (aq (af (af ?_)))
 first | refine af (j8 ki.typeIs (aq ?_)) | refine af (ny ki.typeIs (aq ?_))
 refine af (kq ho hf ?_);have W6:gu "dict_keyiterator" = false:=by decide
 rw [W6];show wpAny _ _ (if (eQ d == eX)=true then _ else _) _ _ s;rw [if_neg (fun z=>by cases z)];refine af (aq (af (fu zk dd ?_)));rw [if_neg (by simp)];refine af (aq (af (jt zk dd ?_)));rw [if_neg (by simp)];refine aq ?_;dsimp only;rw [if_neg (show ¬ ((i:Int) < 0) from Int.not_lt.mpr (j4 i)),aZ,iq hi];dsimp only;refine af ?_
 first | refine af (j8 ki.typeIs (aq ?_)) | refine af (ny ki.typeIs (aq ?_))
 show wpAny _ _ (PG (.ref it) 0 .none >>= _) _ _ s;refine af (my ho hf (by simp) ?_);show wpAny _ _ (newExc (.type "StopIteration") [] >>= _) _ _ _;refine af ?_;simp only [newExc,newTuple];refine af (c9 (af (m:=pX _ _) (DZ (a:=eX) (by first | rfl | (simp only [pX]; rfl)) (c9 ?_ (by size_fits)))) (by size_fits));simp only [raiseNew];refine af (wpAny_handled ?_);rw [show A.in1.handled=none from calm];refine af (aq (wpAny_throw ?_));refine af (qG (T:="StopIteration") (b:=true) ⟨_,br _ rfl,rfl⟩ T4 (?_));exact aq (hQ _ (((cO ..).extBut.push _).push _))
end
def Itk(a:Addr)(o:Obj)(es:Array iV)(ks:List V):It :=
 ⟨fun i H=>(∃ u,H a=some (.lB o u))/\i < es.size,fun i H v H'=>H'=H/\ks[i]?=some v,fun i H=>(∃ u,H a=some (.lB o u))/\es.size<=i⟩
theorem N7{P:bT}{w:World}{K:ak}{tg:Expr}(a it:Addr)(o:Obj)(es:Array iV)(c:Nat)(ks:List V)(dd:o.data=.dict es c)(hk:∀ i (h:i < es.size),∃ v,ks[i]?=some v/\RelV v es[i].key) :
  Turn P w K tg (Itk a o es ks) [it] it (fun i h=>h.IsKeyIter it a i es.size c) where
 mem:=by simp
 obj:=fun i h st b hb=>by
  have e:b=it:=by simpa using hb
  subst e;obtain⟨o',q,_,d⟩:=st;exact⟨o',q,fun v z=>by rw [d] at z; cases z⟩
 keep:=(by rintro i h h' ⟨o',q,r⟩ k; exact⟨o',k it (by simp) o' q,r⟩)
 item:=by
  intro X hP hw hK hc i ZB s σ H E I hf st hg;subst hP hw hK;obtain⟨⟨u,hu⟩,hi⟩:=hg;obtain⟨f0,f1,f2,f3,f4,f5⟩:=hf it (by simp);obtain⟨v,hv,rv⟩:=hk i hi;refine Ds st (I.cB a _ hu).1 dd hi fun h' CZ sb=>?_;have I1:Inv X ZB σ H { s with heap:=h' }:=I.turned (t':=s.toks) (fun b o hb e=>(sb.2 b hb).trans e) f0 f1 f3 f4 f5;obtain⟨o',e,cl,d'⟩:=id CZ;exact⟨_,rfl,Nj (s:={ s with heap:=h' }) e cl d' (by decide) ⟨v,H,I1,rv,⟨rfl,hv⟩,CZ,fun b hb=>(hf b hb).1⟩⟩
 done:=by
  intro X hP hw hK hc i ZB s σ H E I hf st hg;subst hP hw hK;obtain⟨⟨u,hu⟩,hi⟩:=hg;obtain⟨f0,f1,f2,f3,f4,f5⟩:=hf it (by simp);exact HQ (I.ok.hd hc) st (I.cB a _ hu).1 dd hi fun h' eb=>⟨rfl,I.turned (t':=s.toks) (fun b o hb e=>eb b o hb e) f0 f1 f3 f4 f5⟩
 self:=fun A i s Q E st h=>by
  refine jo st.typeIs Ml (da Ml st.typeIs F.entry_dict_keyiterator_iter ?_ (F.args_dict_keyiterator_iter_1 _));show wpAny _ _ (ret (.ref it)) _ _ s;exact aq ⟨_,rfl,"dict_keyiterator",_,st.typeIs,F.slot_dict_keyiterator_next.lookup,h⟩
end L2
namespace K2
open PySem PySem.Spec PyProof.Rows L2
section
variable {X:Cx} {tg a:Expr} {ta:gN} {pos p:Pos}
theorem yn{α β:Type}{F:α->β->Prop}:∀ {l:List α} {m:List β},Qb F l m->∀ i (h1:i < l.length) (h2:i < m.length),F l[i] m[i]:=by
 intro l m h;induction h with
 | nil=>intro i h1; exact absurd h1 (cF i)
 | cons h t ih =>
  intro i h1 h2;cases i with
  | zero=>exact h
  | succ i=>exact ih i (wa h1) (wa h2)
theorem HV{P:bT}{w:World}{k:Key}{u:Value}(h:(cA P w).is k u=true):RelV (kV k) u:=by
 rcases fD h with ⟨i,t,rfl,rfl⟩ | ⟨x,t,rfl,rfl⟩
 ·exact⟨t,rfl⟩
 ·exact⟨t,rfl⟩
theorem pM.keys{K:ak}{H:Hp}:∀ {kv:List (Key×V)} {WP:List (D×D)},pM K H kv WP->WP.map (·.1)=kv.map fun p=>eZ p.1:=fun h =>
 pM.ind (motive:=fun kv WP _=>WP.map (·.1)=kv.map fun p=>eZ p.1) rfl (fun _ _ ih=>congrArg (_ :: ·) ih) h
theorem mS.keys{K:ak}{H:Hp}:∀ {kv:List (List Key×V)} {WP:List (D×D)},mS K H kv WP->WP.map (·.1)=kv.map fun p=>D.tup (p.1.map eZ):=fun h =>
 mS.ind (motive:=fun kv WP _=>WP.map (·.1)=kv.map fun p=>D.tup (p.1.map eZ)) rfl (fun _ _ ih=>congrArg (_ :: ·) ih) h
theorem AU{K:ak}{H:Hp}(k:Key):cM K H (kV k) (eZ k):=by
 cases k with
 | inl i=>exact .int i
 | inr x=>exact .str x
theorem ua{K:ak}{H:Hp}:∀ (ks:List Key),bp K H (ks.map kV) (ks.map eZ)
 | []=>.nil
 | k :: ks=>.cons (AU k) (ua ks)
theorem A2(ha:ia X a ta):Tg X tg a (H0 ta):=by
 intro E ZB s σ H τ G R hE I h;refine kU ha hE I h fun x H1 d G1 v s1 I1 m1 r1 j6 q1=>?_;unfold Ab at q1;have go:∀ (l:Addr) (o:Obj) (u:HO) (WP:List (D×D)) (es:Array iV) (c:Nat) (ks:List V),(l == fv)=false->H1 l=some (.lB o u)->o.ExactDict->o.data=.dict es c->(∀ i (h:i < es.size),∃ v,ks[i]?=some v/\RelV v es[i].key)->ks.length=es.size ->
   bp X.K H1 ks (WP.map (·.1))->R (WP.map (·.1)) (fun _=>True) G1->wpAny (model X.prog X.w) X.A (CM (.ref l)) (LU X ZB σ tg H G R) X.xe s1:=by
  intro l o u WP es c ks ns hl ex dd hk hlen rs q;refine Bn ns (I1.inv.cB l _ hl).1 ex dd ?_;refine⟨s1.heap.objs.size,[s1.heap.objs.size],_,_,H1,G1,WP.map (·.1),_,rfl,I1.inv.kept (t':=s1.toks) fun b o e=>aN _ e,m1,N7 l _ o es c ks dd hk,⟨_,br _ rfl,rfl,rfl⟩,fun b hb=>?_,fun i H2 G2 k ab _=>?_,q⟩
  ·have e:b=s1.heap.objs.size:=by simpa using hb
   subst e;exact I1.inv.Im (aK _) (I1.inv.cB.fresh (aK _))
  ·have TR:=k.lB _ _ _ hl;have TB:=rs.mono k;refine⟨fun d hd=>?_,fun hle=>⟨⟨u,TR⟩,by rw [<-hlen,rs.length]; exact hle⟩⟩;obtain⟨v,hv,r⟩:=TB.get hd;have hi:i < es.size:=by rw [<-hlen]; exact(List.getElem?_eq_some_iff.mp hv).1
   refine⟨⟨⟨u,TR⟩,hi⟩,?_⟩;rintro x H3 ⟨e,y⟩;subst e;rw [hv] at y;cases y;exact⟨r,.refl ab⟩
 cases j6 with
 | pS hq rs =>
  rename_i l o kv WP;cases r1;obtain⟨z,ns,vs,rel,ob,es,ep,ho,ex,dd,hko,hp,nd⟩:=(I1.inv.cB l _ hq).2;have eo:ob=o:=by have:=(I1.inv.cB l _ hq).1; rw [ho] at this; exact bN this
  subst eo;have l1:es.size=vs.length:=by simpa using hp.length
  have l2:kv.length=vs.length:=gX rel;refine go l ob _ WP es ep (kv.map fun p=>kV p.1) ns hq ex dd (fun i hi=>?_) (by rw [ag]; lia) ?_ q1
  ·have i2:i < vs.length:=by lia
   have i3:i < kv.length:=by lia
   have g1:=(hp.get? (e:=es[i]) (k:=vs[i].1) (v:=vs[i].2) (by rw [ah (by simpa using hi)]; simp) (by rw [ah i2])).1;refine⟨kV kv[i].1,by simp [i3],?_⟩;have ek:kv[i].1=vs[i].1:=(yn rel i i3 i2).1;rw [ek];exact HV g1
  ·rw [rs.keys];have:∀ (l:List (Key×V)),bp X.K H1 (l.map fun p=>kV p.1) (l.map fun p=>eZ p.1):=by
    intro l;induction l with
    | nil=>exact .nil
    | cons p l ih=>exact .cons (AU p.1) ih
   exact this kv
 | pR hq rs =>
  rename_i l o kv WP;cases r1;obtain⟨z,ns,xs,rel,ob,es,ep,ho,ex,dd,hl,nd⟩:=(I1.inv.cB l _ hq).2;have eo:ob=o:=by have:=(I1.inv.cB l _ hq).1; rw [ho] at this; exact bN this
  subst eo;have l1:=congrArg dF hl;rw [ag,bz] at l1;refine go l ob _ WP es ep (xs.map fun q=>V.ref q.2.1) ns hq ex dd (fun i hi=>?_) (by rw [ag]; lia) ?_ q1
  ·have i2:i < xs.length:=by lia
   refine⟨.ref xs[i].2.1,by simp [i2],?_⟩;have:es[i]=BW (eM (cA X.prog X.w)) xs[i]:=by
    have:=congrArg (fun l=>l[i]?) hl;simp only [bu,ah i2] at this;simpa [hi] using this
   rw [this];rfl
  ·rw [rs.keys];have:∀ (kv:List (List Key×V)) (xs:List (List Key×Addr×Value)),Qb (fun (p:List Key×V) (q:List Key×Addr×Value)=>p.1=q.1/\H1 q.2.1=some (.tup (p.1.map kV))/\RelV p.2 q.2.2) kv xs->bp X.K H1 (xs.map fun q=>V.ref q.2.1) (kv.map fun p=>D.tup (p.1.map eZ)):=by
    intro kv xs r;induction r with
    | nil=>exact .nil
    | cons h _ ih=>exact .cons (.tup h.2.1 (ua _)) ih
   exact this kv xs rel
 | _=>exact q1.elim
end
end K2
end
section
namespace L2
open PySem PySem.Spec PyProof.Rows PySem.W
section
variable {prog:bT} {w:World}
theorem Kn{A:eu}{it d:Addr}{od:Obj}{es:Array iV}{c:Nat}(hh:A.handled=none)(kX:d≠it)(dd:od.data=.dict es c) :
  T6 prog w A it [it,d] [it] es.size (fun i v=>∃ h:i < es.size,v=es[i].key) (fun i h=>h.IsKeyIter it d i es.size c/\h.get? d=some od) where
 sub:=fun b hb=>by simp at hb; simp [hb]
 frame:=fun i h h' st hk=>⟨st.1.at fun o e=>hk it (by simp) o e,hk d (by simp) od st.2⟩
 item:=fun i s Q E hi st hQ=>Ds st.1 st.2 dd hi fun h' CZ sb=>hQ _ h' s.toks ⟨hi,rfl⟩ ⟨CZ,(sb.2 d kX).trans st.2⟩ fun b o hb e=>(sb.2 b (by simpa using hb)).trans e
 done:=fun s Q E st hQ=>HQ hh st.1 st.2 dd (aK _) fun h' eb=>hQ h' s.toks fun b o hb e=>eb b o (by simpa using hb) e
 self:=fun i s Q E st hQ=>wpAny_pyIter_keyiter st.1 hQ
theorem G0{d:Addr}{od:Obj}{es:Array iV}{c:Nat}(ns:(d == fv)=false)(ex:od.ExactDict)(dd:od.data=.dict es c) :
  KdlSrc prog w "dict" d d es.size (fun i v=>∃ h:i < es.size,v=es[i].key) (fun h=>h.get? d=some od) where
 type:=fun s cB=>⟨od,cB,ex.1⟩
 there:=fun h cB=>⟨aR cB,aR cB⟩
 keep:=fun h h' cB hk=>hk d (.inl rfl) od cB
 notList:=by decide
 notTuple:=by decide
 hint:=fun A E s Q cB hq=>kdl_hint_dict ⟨od,cB,ex.1⟩ hq
 iter:=fun A s hh cB=>⟨_,_,(fun E Q hq=>Bn ns cB ex dd hq),Kn hh (bQ (aR cB)) dd,⟨⟨_,br _ rfl,rfl,rfl⟩,aN _ cB⟩⟩
end
end L2
namespace K2
open PySem PySem.Spec PyProof.Rows L2 PySem.W
section
variable {X:Cx}
theorem zU:∀ (ks:List V) (us:List Value),ks.length=us.length->(∀ i (h1:i < ks.length) (h2:i < us.length),RelV ks[i] us[i])->Vals ks us
 | [],[],_,_=>.nil
 | [],_ :: _,h,_=>by cases h
 | _ :: _,[],h,_=>by cases h
 | k :: ks,u :: us,h,hr=>.cons (hr 0 (by simp) (by simp)) (zU ks us (by simpa using h) fun i h1 h2=>hr (i+1) (by simpa using h1) (by simpa using h2))
end
end K2
end
section
namespace L2
open PySem PySem.Spec PyProof.Rows
def Iti(a:Addr)(o:Obj)(kv:List (Key×V)):It :=
 ⟨fun i H=>(∃ u,H a=some (.lB o u))/\i < kv.length,fun i H v H'=>∃ T p,v=.ref T/\H T=none/\H'=upd H T (.tup [kV p.1,p.2])/\kv[i]?=some p,fun i H=>(∃ u,H a=some (.lB o u))/\kv.length<=i⟩
theorem A5{α β:Type}{F:α->β->Prop}:∀ {l:List α} {m:List β},Qb F l m->∀ i (h1:i < l.length) (h2:i < m.length),F l[i] m[i]
 | _,_,.cons h _,0,_,_=>h
 | _,_,.cons _ t,i+1,h1,h2=>A5 t i (by simpa using h1) (by simpa using h2)
theorem OU{P:bT}{w:World}{k:Key}{u:Value}(h:(cA P w).is k u=true):RelV (kV k) u:=by
 rcases fD h with ⟨i,t,rfl,rfl⟩ | ⟨x,t,rfl,rfl⟩
 ·exact⟨t,rfl⟩
 ·exact⟨t,rfl⟩
theorem uK:entryFor table "dict_itemiterator.__iter__" = some Builtin.«dict_keyiterator.__iter__» :=
 CN (id':="dict_keyiterator.__iter__") (by rw [fastTable_eq_tree]; kernel_rfl) (by decide +kernel) (by decide +kernel) (by rw [fastTable_eq_tree]; kernel_rfl)
theorem Ku{P:bT}{w:World}{K:ak}{elts:List Expr}{kk:Nat}{pos:Pos}(a it:Addr)(o:Obj)(kv:List (Key×V))(vs:List (Key×Value))(ep:Nat)(rel:KV kv vs)(hD:∀ h:Heap,h.get? a=some o->h.DictAt (cA P w) a vs ep) :
  Turn P w K (.Tuple elts kk pos) (Iti a o kv) [it] it (fun i h=>∃ ok ov,IsItemIter h it a i vs.length ep ok ov) where
 mem:=by simp
 obj:=fun i h ⟨ok,ov,st⟩ b hb=>by
  have e:b=it:=by simpa using hb
  subst e;exact⟨_,st,fun v z=>by cases z⟩
 keep:=fun i h h' ⟨ok,ov,st⟩ k=>⟨ok,ov,k it (by simp) _ st⟩
 item:=by
  intro X hP hw hK hc i ZB s σ H E I hf st hg;obtain⟨ok,ov,st⟩:=st;subst hP hw hK;obtain⟨⟨u,hu⟩,hi⟩:=hg;have hl:=rel.length;have O1:i < vs.length:=by lia
  have hx:vs[i]?=some (vs[i].1,vs[i].2):=ah O1;have rp:=A5 rel i hi O1;have hTn:H s.heap.objs.size=none:=I.cB.fresh (aK _);have hiT:it≠s.heap.objs.size:=bQ (aR st);refine wpAny_pyNext_items_item st (hD _ (I.cB a _ hu).1) hx fun key h' hk ho hT hsz kk=>?_;refine⟨_,rfl,?_⟩;have rk:RelV (kV kv[i].1) key:=by rw [rp.1]; exact OU hk
  have I1:Inv X ZB σ (upd H s.heap.objs.size (.tup [kV kv[i].1,kv[i].2])) { s with heap:=h',toks:=s.toks } :=
   I.Eo (fp:=[it]) hf (fun b o hb q=>kk b o (fun z=>hb (by simp [z])) q) (aK _)
    ⟨by show 2<=bx; decide,[key,vs[i].2],.cons rk (.cons rp.2 .nil),⟨_,hT,rfl,_,rfl⟩⟩
  refine wpAny_letOwnedTupleGo_items (s:={ s with heap:=h' }) ho fun h2 XW Ad=>?_;have f1:∀ b∈[it],o4 X ZB (upd H s.heap.objs.size (.tup [kV kv[i].1,kv[i].2])) b:=fun b hb=>(hf b hb).upd (by rw [List.mem_singleton.mp hb]; exact hiT);have I2:Inv X ZB σ (upd H s.heap.objs.size (.tup [kV kv[i].1,kv[i].2])) { s with heap:=h2,toks:=s.toks } :=
   Inv.wm (s:={ s with heap:=h',toks:=s.toks }) (t':=s.toks) (fp:=[it]) I1 f1 fun b o hb q=>(Ad.2 b (fun z=>hb (by simp [z]))).trans q
  exact⟨.ref s.heap.objs.size,_,I2,rfl,⟨_,kv[i],rfl,hTn,rfl,ah hi⟩,⟨_,_,XW⟩,fun b hb=>(f1 b hb).1⟩
 done:=by
  intro X hP hw hK hc i ZB s σ H E I hf st hg;obtain⟨ok,ov,st⟩:=st;subst hP hw hK;obtain⟨⟨u,hu⟩,hi⟩:=hg;have hl:=rel.length;obtain⟨f0,f1,f2,f3,f4,f5⟩:=hf it (by simp);exact wpAny_pyNext_items_end (I.ok.hd hc) st (hD _ (I.cB a _ hu).1) (dW (by lia)) fun h' eb=>⟨rfl,I.turned (t':=s.toks) (fun b o hb e=>eb b o hb e) f0 f1 f3 f4 f5⟩
 self:=fun A i s Q E ⟨ok,ov,st⟩ h=>by
  have ty:s.TypeIs (.ref it) "dict_itemiterator":=⟨_,st,rfl⟩;refine jo ty JX (da JX ty uK ?_ (F.args_dict_itemiterator_iter_1 _));show wpAny _ _ (ret (.ref it)) _ _ s;exact aq ⟨_,rfl,"dict_itemiterator",_,ty,F.slot_dict_itemiterator_next.lookup,h⟩
end L2
namespace K2
open PySem PySem.Spec PyProof.Rows L2
section
variable {X:Cx}
theorem WQ{ZB:List (Addr×Obj)}{σ:L2.St}{H:Hp}{s:az}{x:V}{WP:List (D×D)}(I:Inv X ZB σ H s)(rd:cM X.K H x (.lI WP))(h1:HU WP=true) :
  ∃ a ob u kv vs ep,x=.ref a/\H a=some (.lB ob u)/\pM X.K H kv WP/\(a == fv)=false/\KV kv vs/\∀ h:Heap,h.get? a=some ob->h.DictAt (cA X.prog X.w) a vs ep:=by
 cases rd with
 | pS hq rs =>
  rename_i a o kv;obtain⟨z,hm,vs,rel,ob,es,ep,ho,r⟩:=(I.cB a _ hq).2;have eo:ob=o:=by have:=(I.cB a _ hq).1; rw [ho] at this; exact bN this
  subst eo;exact⟨a,ob,_,kv,vs,ep,rfl,hq,rs,hm,rel,fun h e=>⟨ob,es,e,r⟩⟩
 | pR hq rs =>
  rename_i a o kv;cases rs with
  | nil =>
   obtain⟨z,hm,xs,rel,ob,es,ep,ho,hx,Ag,hl,nd⟩:=(I.cB a _ hq).2;have eo:ob=o:=by have:=(I.cB a _ hq).1; rw [ho] at this; exact bN this
   subst eo;have hv:xs=[]:=by cases rel; rfl
   subst hv;have he:es=#[]:=by simpa using hl
   subst he;exact⟨a,ob,_,[],[],ep,rfl,hq,.nil,hm,.nil,fun h e=>⟨ob,#[],e,hx,Ag,(fun _ h=>by simp at h),.nil,df⟩⟩
  | cons _ _=>simp [HU,gb] at h1
theorem pM.item{K:ak}{H:Hp}:∀ {kv:List (Key×V)} {WP:List (D×D)} {i:Nat} {q:D×D},pM K H kv WP->WP[i]?=some q->∃ p,kv[i]?=some p/\q.1=eZ p.1/\cM K H p.2 q.2
 | _,_,_,_,.nil,e=>by simp at e
 | _,_,0,_,.cons r _,e=>by simp at e; subst e; exact⟨_,rfl,rfl,r⟩
 | _,_,i+1,q,.cons _ t,e=>by
  obtain⟨p,h1,h2⟩:=pM.item (i:=i) (q:=q) t (by simpa using e);exact⟨p,by simpa using h1,h2⟩
variable {elts:List Expr} {kk:Nat} {Kv apos jh:Pos} {o:Expr} {to:gN}
theorem Oo{K:ak}{H:Hp}(k:Key):cM K H (kV k) (eZ k):=by
 cases k with
 | inl i=>exact .int i
 | inr x=>exact .str x
theorem OB (ho:ia X o to) (Bu:x8 o "items" X.env (eval o X.env)=eval o X.env:=by rfl) (Ie:(apos.endLine == jh.line)=true:=by rfl) :
  Tg X (.Tuple elts kk Kv) (.Call (.Attribute o "items" apos) [] [] jh) (Lg to):=by
 intro E ZB s σ H τ G R hE I h;refine wpAny_Call_method0_late Bu Ie (kU ho hE I h fun x H1 d G1 v s1 I1 m1 r1 j6 q1=>?_);cases d with
 | lI WP =>
  obtain⟨h1,q1⟩:=q1;obtain⟨t1,t2⟩:=AD ZB s1 σ H1 G1 x _ v I1.inv I1.ab r1 j6 trivial;obtain⟨a,ob,u,kv,vs,ep,rfl,hu,rs,hm,rel,hD⟩:=WQ I1.inv j6 h1;cases r1;refine⟨"dict","dict.items",sC,JS,PySem.F.type_dict_items,t1,t2,vg rfl (T5 ?_)⟩;have dA:=hD _ (I1.inv.cB a _ hu).1;refine call_meetsIn JS t1 PySem.F.entry_dict_items (PySem.F.args_dict_items_1 _) (meets_dict_items (cA X.prog X.w) a hm) ⟨⟨vs,dA.dictOf⟩,?_⟩;have I2:Inv X ZB σ H1 { s1 with heap:=s1.heap.push { cls:=.type "dict_items",data:=.fields #[.ref a] } }:=I1.inv.kept (t':=s1.toks) fun b o e=>aN _ e;refine wpAny_pyIter_items (s:={ s1 with heap:=s1.heap.push { cls:=.type "dict_items",data:=.fields #[.ref a] } }) (kvs:=vs) (ep:=ep) ⟨_,br _ rfl,rfl,rfl⟩ (dA.push _) ?_;refine⟨_,[_],_,_,H1,G1,WP.map (fun p=>.tup [p.1,p.2]),_,rfl,I2.kept (t':=s1.toks) fun b o e=>aN _ e,m1,Ku a _ ob kv vs ep rel hD,⟨.none,.none,br _ rfl⟩,fun b hb=>?_,fun i H2 G2 k ab _=>?_,q1⟩
  ·have e:=List.mem_singleton.mp hb;subst e;exact I2.Im (aK _) (I2.cB.fresh (aK _))
  ·have TR:=k.lB _ _ _ hu;have TB:=rs.mono k;have hlen:kv.length=WP.length:=rs.length;refine⟨fun d hd=>?_,fun hle=>⟨⟨u,TR⟩,by rw [hlen]; simpa using hle⟩⟩;rw [bu] at hd;cases Vd:WP[i]? with
   | none=>rw [Vd] at hd; cases hd
   | some q =>
    rw [Vd] at hd;obtain⟨p,hp,ek,rp⟩:=TB.item Vd;have hi:i < kv.length:=(List.getElem?_eq_some_iff.mp hp).1;refine⟨⟨⟨u,TR⟩,hi⟩,fun x H3 ⟨T,p',ex,hT,e3,hy⟩=>?_⟩;subst ex e3;rw [hp] at hy;cases hy;have ed:D.tup [q.1,q.2]=d:=by simpa using hd
    subst ed;rw [ek];exact⟨.tup cV (.cons (Oo _) (.cons (rp.mono (.new hT)) .nil)),.O0 ab hT⟩
 | _=>exact q1.elim
end
end K2
end
section
namespace K2
open PySem PySem.Spec PyProof.Rows L2 PySem.W
section
variable {X:Cx}
variable {es:List Expr} {t:TF2} {e v1 v2:Expr} {te:gN} {pos:Pos} {c:Str} {k:Nat}
variable {a:Expr} {ta:gN} {p p2 wW:Pos}
theorem KG{ZB:List (Addr×Obj)}{σ:L2.St}{H:Hp}{G:Gp}{s:az}{Q:DK}{T:String}{r d:Addr}{n:Nat}{P:Nat->Value->Prop}{OK:Heap->Prop}(hc:X.calm=true)(hu:X.A.units+64 < cLine)(I:Inv X ZB σ H s)(ab:mx X.K H G)
  (K:xO X.prog X.w T r d n P OK) (XO:OK s.heap) {vs:List V} {zs:List D} (hlen:vs.length=n) (hP:∀ i u (h:i < vs.length),P i u->RelV vs[i] u) (rs:bp X.K H vs zs) (sh:oS) (hz:∀ z∈zs,dj sh z=true) (cB:Rh sh=true) (h64:zs.length < 64)
  (q:jH G (.lst (ph zs)) Q):wpAny (model X.prog X.w) X.A (call (.builtin "sorted") [.ref r]) (sr X ZB σ H G Q) X.xe s:=by
 have TR:=rs.length;have hsz:bx=16777216:=cC;obtain⟨m,F0⟩:=I.fr;have nL:∀ b o vs n,o.data=.seq vs n->s.heap.get? b=some o->b≠X.env.locals:=fun b o vs n e1 e2 z=>by
  obtain⟨o',es,ep,OX,Ag,_⟩:=F0.ns;rw [z,OX] at e2; cases e2; rw [Ag] at e1; cases e1
 unfold Rh at cB;rw [aQ] at cB;have hdp:Vp sh<=7:=of_decide_eq_true cB.1;have sn:∀ z∈zs,Sn G 7 z z:=fun z h=>Ez G sh z 7 (hz z h) hdp;refine kdu_sorted K (I.ok.hd hc) F0 A9 XO (by lia) fun Dd h0 tk bH F1 N1 mj hl0 hP'=>?_;have V0:vs.length=bH.length:=by lia
 have rv:Vals vs bH:=zU vs bH V0 fun i h1 h2=>hP i bH[i] h1 (hP' i bH[i] (ah h2));by_cases nE:bH.length < 2
 ·have e2:h0.get? Dd=some (uN "list" bH.toArray 0):=(N1 _ aA).1;refine da slot_list_sort ⟨_,e2,rfl⟩ entry_list_sort (Ha (s:={ s with heap:=h0,toks:=tk }) e2 nE ⟨_,rfl,?_⟩) (args_list_sort _);obtain⟨kk,ns⟩:=nY I F0 F1 fun p hp=>N1 p (ax _ hp);have hD:s.heap.get? Dd=none:=by
   have nD:=N1 _ aA;cases qd:s.heap.get? Dd with
   | none=>rfl
   | some o=>exact absurd (mj _ (pB nD.2.1 nD.2.2 qd)) (gE _)
  have hp:H Dd=none:=Ai I.cB hD;have hDL:Dd≠X.env.locals:=(N1 _ aA).2.1;obtain⟨e3,h3⟩:=sortedHeap_at (out:=bH.toArray) e2;have es:ph zs=zs:=nM sh hz (.refl _) (by
   match zs,TR,nE with
   | [],_,_=>exact .nil
   | [z],_,_=>exact uP _ _
   | _ :: _ :: _,h,f=>exact absurd f (by rw [<-V0,h]; simp))
  rw [es] at q;refine⟨.ref Dd,upd H Dd (.lst vs),.ref _,_,Inv.M6 (t':=tk) I (fun b o hb e=>?_) (fun m' hm=>?_) hD ⟨by lia,bH,e3,rv,h3⟩,.Ba ab hp rs,rfl,.ref _,q _ (ab.free hp)⟩
  ·have hb2:b≠Dd:=fun z=>by rw [z,hD] at e; cases e
   have e4:=kk b o hb e;rw [sortedHeap_old hb2 (aR e4)]; exact e4
  ·obtain⟨o,es,ep,ho,r⟩:=ns m' hm;exact⟨o,es,ep,by rw [sortedHeap_old (fB hDL) (aR ho)]; exact ho,r⟩
 have nz:0 < zs.length:=by lia
 refine kat_lsort (vs:=bH) F1 N1 (.head fun q hq z=>absurd (mj q hq) (by rw [z]; exact gE _)) (by simp) (by lia) (by lia) fun e1 h' F N=>?_;obtain⟨kk,ns⟩:=nY I F0 F fun p hp=>N p (ax _ hp);have AV:∀ i,i < bH.length->∃ as,Reads h' (bH.getD i .none) (pd (zs.getD i .dh)) as:=fun i hi=>by
  have i1:i < zs.length:=by lia
  have i2:i < vs.length:=by lia
  have g1:zs.getD i .dh=zs[i]:=getD_at _ _ i1;have g2:bH.getD i .none=bH[i]:=getD_at _ _ hi;obtain⟨v,hv,WT⟩:=rs.get (ah i1);obtain⟨u,Ac,WO⟩:=rv.get hv;rw [ah hi] at Ac;cases Ac;obtain⟨as,r⟩:=(h8 I ab (sn _ (cu i1))).1 v _ WT WO;rw [g1,g2];exact⟨as,sT (fun b o vs n e1 e2=>kk b o (nL b o vs n e1 e2) e2) _ (sn _ (cu i1)).nr r⟩
 have yj:∀ i,i < zs.length->dj sh (zs.getD i .dh)=true:=fun i hi=>by rw [getD_at _ _ hi]; exact hz _ (cu hi)
 have U1:∀ i,i < zs.length->nr (zs.getD i .dh)=true:=fun i hi=>by rw [getD_at _ _ hi]; exact(sn _ (cu hi)).nr
 have dpz:∀ i,i < zs.length->(pd (zs.getD i .dh)).depth<=7:=fun i hi=>by rw [getD_at _ _ hi]; exact yK (sn _ (cu hi))
 let zz:Nat->D:=fun i=>if i < zs.length then zs.getD i .dh else zs.getD 0 .dh
 have Qk:∀ i,dj sh (zz i)=true:=fun i=>by
  show dj sh (if i < zs.length then zs.getD i .dh else zs.getD 0 .dh)=true;split
  ·exact yj i (by assumption)
  ·exact yj 0 nz
 let lt:Nat->Nat->Bool:=fun i j=>oR (zz i) (zz j)
 have swo:NS lt:=⟨fun i j h=>yu sh (Qk i) (Qk j) h,fun i j k h1 h2=>vw sh (Qk i) (Qk j) (Qk k) h1 h2⟩;have ZS:∀ i j,i < zs.length->j < zs.length->lt i j=oR (zs.getD i .dh) (zs.getD j .dh):=fun i j hi hj=>by
  show oR (if i < zs.length then _ else _) (if j < zs.length then _ else _)=_;rw [if_pos hi,if_pos hj]
 obtain⟨p,ep,tK,Zs,hup⟩:=Hl swo (n:=bH.length) (by lia);have hA2:X.A.in1.in1.units=X.A.units+2:=rfl;have ask:∀ κ:SortKind,(∀ i j,i < bH.length->j < bH.length->∀ C:Bool->az->Prop,C (oR (zs.getD i .dh) (zs.getD j .dh)) { s with heap:=h',toks:=tk }->kas_ask X.prog X.w X.A.in1.in1 κ bH i j C { s with heap:=h',toks:=tk }) ->
   (kas_sort bH.length).kasWp (kas_ask X.prog X.w X.A.in1.in1 κ bH) (fun p WN=>KasFin X.base X.env.locals m Dd e1 (p.toList.map fun i=>bH.getD i eX) (fun s3=>sr X ZB σ H G Q (.ref Dd) s3) WN) { s with heap:=h',toks:=tk }:=by
  intro κ hk;refine Bo (lt:=lt) (n:=bH.length) (fun i j i1 i2 C hC=>hk i j i1 i2 C (by rw [<-ZS i j (by lia) (by lia)]; exact hC)) _ (Jh (by lia)) ?_;rw [ep];refine KasFin.intro (g:=fun o=>(Dd,o) :: rK X.base s.heap X.env.locals) F N (.head (fun q hq z=>absurd (mj q hq) (by rw [z]; exact gE _))) fun h2 c F2 N2=>?_;obtain⟨k2,ns2⟩:=nY I F0 F2 fun p hp=>N2 p (ax _ hp);have hD:s.heap.get? Dd=none:=by
   have nD:=N _ aA;cases qd:s.heap.get? Dd with
   | none=>rfl
   | some o=>exact absurd (mj _ (pB nD.2.1 nD.2.2 qd)) (gE _)
  have hp:H Dd=none:=Ai I.cB hD;have rvp:Vals (p.toList.map fun i=>vs.getD i .dh) (p.toList.map fun i=>bH.getD i eX):=by
   have:∀ (ps:List Nat),(∀ i∈ps,i < bH.length)->Vals (ps.map fun i=>vs.getD i .dh) (ps.map fun i=>bH.getD i eX):=by
    intro ps;induction ps with
    | nil=>intro _; exact .nil
    | cons i ps ih =>
     intro hh;have hi:=hh i (by simp);refine .cons ?_ (ih fun j hj=>hh j (ax _ hj));have i2:i < vs.length:=by lia
     obtain⟨u,Ac,WO⟩:=rv.get (ah i2);rw [ah hi] at Ac;cases Ac;show RelV (vs.getD i .dh) (bH.getD i .none);rw [getD_at _ _ i2,getD_at _ _ hi]; exact WO
   exact this _ fun i hi=>by simpa using tK.mem_iff.mp hi
  have rsp:bp X.K H (p.toList.map fun i=>vs.getD i .dh) (p.toList.map fun i=>zs.getD i .dh):=by
   have:∀ (ps:List Nat),(∀ i∈ps,i < bH.length)->bp X.K H (ps.map fun i=>vs.getD i .dh) (ps.map fun i=>zs.getD i .dh):=by
    intro ps;induction ps with
    | nil=>intro _; exact .nil
    | cons i ps ih =>
     intro hh;have hi:=hh i (by simp);refine .cons ?_ (ih fun j hj=>hh j (ax _ hj));have i2:i < vs.length:=by lia
     have i1:i < zs.length:=by lia
     obtain⟨v,hv,r⟩:=rs.get (ah i1);rw [ah i2] at hv;cases hv;show cM X.K H (vs.getD i .dh) (zs.getD i .dh);rw [getD_at _ _ i2,getD_at _ _ i1]; exact r
   exact this _ fun i hi=>by simpa using tK.mem_iff.mp hi
  have es:ph zs=p.toList.map fun i=>zs.getD i .dh:=by
   refine nM sh hz ?_ ?_
   ·have h1:(p.toList.map fun i=>zs.getD i .dh).Perm ((aY zs.length).map fun i=>zs.getD i .dh):=by
     have:bH.length=zs.length:=by lia
     rw [<-this];exact tK.map _
    rw [oF] at h1;exact h1
   ·rw [hV,Mi];intro i j hi hj JF;have g1:gA p i=p.toList[i]:=by
     have:i < p.size:=by simpa using hi
     simp [gA,sE,this]
    have g2:gA p j=p.toList[j]:=by
     have:j < p.size:=by simpa using hj
     simp [gA,sE,this]
    have bi:p.toList[i] < bH.length:=by simpa using tK.mem_iff.mp (cu hi)
    have bj:p.toList[j] < bH.length:=by simpa using tK.mem_iff.mp (cu hj)
    have:=hup i j (by lia) (by have:j < p.toList.length:=hj; rw [bz,Zs] at this; exact this);rw [g1,g2,ZS _ _ (by lia) (by lia)] at this;exact this
  rw [es] at q;have ln:(p.toList.map fun i=>vs.getD i .dh).length<=bx:=by rw [ag,bz,Zs]; lia
  refine⟨.ref Dd,upd H Dd (.lst (p.toList.map fun i=>vs.getD i .dh)),.ref _,_,Inv.M6 (t':=tk) I k2 ns2 hD ?_,.Ba ab hp rsp,rfl,.ref _,q _ (ab.free hp)⟩;exact⟨ln,_,c,rvp,(N2 _ aA).1⟩
 have gen:∀ i j,i < bH.length->j < bH.length->∀ C:Bool->az->Prop,C (oR (zs.getD i .dh) (zs.getD j .dh)) { s with heap:=h',toks:=tk }->wpAny (model X.prog X.w) X.A.in1.in1 (keyLt' PH (bH.getD i eX) (bH.getD j eX)) C (fun _ _=>False) { s with heap:=h',toks:=tk }:=by
  intro i j hi hj C hC;obtain⟨as,r1⟩:=AV i hi;obtain⟨bs,r2⟩:=AV j hj;rw [keyLt'_oneType];exact tq (s:={ s with heap:=h',toks:=tk }) (n:=7) (dpz i (by lia)) (yj i (by lia)) (yj j (by lia)) (U1 i (by lia)) (U1 j (by lia)) r1 r2 (by rw [hA2]; lia) X.prog X.w _ C hC
 have lk:∀ v∈bH,Looks (model X.prog X.w) h' (typeOf v) (GW sh):=fun v hv=>by
  obtain⟨i,hi,rfl⟩:=c8 hv;obtain⟨as,r⟩:=AV i hi;rw [getD_at _ _ hi] at r;exact uh (yj i (by lia)) r
 cases sh with
 | int=>exact kas_kind (s:={ s with heap:=h',toks:=tk }) (T:=.type "int") (by lia) lk rfl rfl (ask PH gen)
 | lst ss=>exact kas_kind (s:={ s with heap:=h',toks:=tk }) (T:=.type "list") (by lia) lk rfl rfl (ask PH gen)
 | tup ss =>
  cases ss with
  | nil=>exact absurd cB.2 (by simp)
  | cons s1 ss =>
   obtain⟨fs,t1,t2,t3⟩:=yX (h:=h') zs bH hz AV (by lia);refine kat_kind (s:={ s with heap:=h',toks:=tk }) (T:=GW s1) t1 (by lia) (fun f hf=>?_) (by cases s1 <;> rfl) (ask _ fun i j hi hj C hC=>?_)
   ·obtain⟨d,as,h1,h2⟩:=t3 f hf;exact uh h1 h2
   ·obtain⟨as,r1⟩:=AV i hi;obtain⟨bs,r2⟩:=AV j hj;exact Dt (s:={ s with heap:=h',toks:=tk }) (n:=7) (by have:=dpz i (by lia); lia) (yj i (by lia)) (yj j (by lia)) (U1 i (by lia)) (U1 j (by lia)) r1 r2 (by rw [hA2]; lia) hC
end
end K2
end
section
namespace K2
open PySem PySem.Spec PyProof.Rows L2 PySem.W
section
variable {X:Cx}
theorem Bg{ZB:List (Addr×Obj)}{σ:L2.St}{H:Hp}{G:Gp}{s:az}{Q:DK}{T:String}{r d:Addr}{n:Nat}{P:Nat->Value->Prop}{OK:Heap->Prop}(hc:X.calm=true)(I:Inv X ZB σ H s)(ab:mx X.K H G)
  (K:xO X.prog X.w T r d n P OK) (XO:OK s.heap) {vs:List V} {zs:List D} (hlen:vs.length=n) (hP:∀ i u (h:i < vs.length),P i u->RelV vs[i] u) (rs:bp X.K H vs zs) (hn:n<=1000)
  (q:jH G (.lst zs) Q):wpAny (model X.prog X.w) X.A (call (.type "list") [.ref r]) (sr X ZB σ H G Q) X.xe s:=by
 have hsz:bx=16777216:=cC;refine kdl_call K (I.ok.hd hc) XO (by lia) fun h' tk WF c' hk hD Sf=>?_;have hp:H s.heap.objs.size=none:=I.cB.fresh (aK _);have rv:Vals vs WF.toList:=zU vs WF.toList (by have:=Sf.1; have e:=bz (xs:=WF); lia) fun i h1 h2=>hP i WF.toList[i] h1 (Sf.2 i _ (by rw [bb (by simpa using h2)]; simp));exact⟨.ref _,upd H s.heap.objs.size (.lst vs),.ref _,_,I.laid (a:=s.heap.objs.size) (t':=tk) (fun b o e=>hk b o e) (aK _) ⟨by lia,WF.toList,c',rv,by simpa [uN,W.listOf] using hD⟩,.Ba ab hp rs,rfl,.ref _,q _ (ab.free hp)⟩
theorem Jb (hc:X.calm=true):vW X (.type "list") FO:=by
 intro ZB s σ H G xs ds us Q I ab rx rd q;unfold FO at q;split at q
 ·rename_i a;split at q
  ·rename_i WP hg;obtain⟨hn,q⟩:=q;obtain⟨w1,rfl,KL⟩:=rd.one;obtain⟨u,rfl,ru⟩:=rx.one;cases KL;cases ru;rcases ab a _ hg with ⟨kv,hq,rs⟩ | ⟨kv,hq,rs⟩
   ·obtain⟨z,hm,vs,rel,ob,es,ep,ho,ex,dd,hko,hp,nd⟩:=I.cB a _ hq;have l1:es.size=vs.length:=by simpa using hp.length
    have l2:kv.length=vs.length:=gX rel;have l3:=rs.length;refine Bg hc I ab (G0 hm ex dd) ho (vs:=kv.map fun p=>kV p.1) (zs:=WP.map (·.1)) (by rw [ag]; lia) (fun i u hi hP=>?_) ?_ (by lia) q
    ·obtain⟨O1,rfl⟩:=hP;have i2:i < vs.length:=by lia
     have i3:i < kv.length:=by lia
     have g1:=(hp.get? (e:=es[i]) (k:=vs[i].1) (v:=vs[i].2) (by rw [ah (by simpa using O1)]; simp) (by rw [ah i2])).1;have e2:kv[i].1=vs[i].1:=(yn rel i i3 i2).1;rw [dq,e2];exact HV g1
    ·rw [rs.keys];have:∀ (l:List (Key×V)),bp X.K H (l.map fun p=>kV p.1) (l.map fun p=>eZ p.1):=by
      intro l;induction l with
      | nil=>exact .nil
      | cons p l ih=>exact .cons (AU p.1) ih
     exact this kv
   ·obtain⟨z,hm,ys,rel,ob,es,ep,ho,ex,dd,hl,nd⟩:=I.cB a _ hq;have l1:=congrArg dF hl;rw [ag,bz] at l1;have l2:=gX rel;have l3:=rs.length;refine Bg hc I ab (G0 hm ex dd) ho (vs:=ys.map fun q=>V.ref q.2.1) (zs:=WP.map (·.1)) (by rw [ag]; lia) (fun i u hi hP=>?_) ?_ (by lia) q
    ·obtain⟨O1,rfl⟩:=hP;have i2:i < ys.length:=by lia
     have:es[i]=BW (eM (cA X.prog X.w)) ys[i]:=by
      have:=congrArg (fun l=>l[i]?) hl;simp only [bu,ah i2] at this;simpa [O1] using this
     rw [this,dq];rfl
    ·rw [rs.keys];have:∀ (kv:List (List Key×V)) (xs:List (List Key×Addr×Value)),KT H kv xs->bp X.K H (xs.map fun q=>V.ref q.2.1) (kv.map fun p=>D.tup (p.1.map eZ)):=by
      intro kv xs r;induction r with
      | nil=>exact .nil
      | cons h _ ih=>exact .cons (.tup h.2.1 (ua _)) ih
     exact this kv ys rel
  ·exact q.elim
 ·exact q.elim
variable {a:Expr} {ta:gN} {pos p wW p2:Pos}
theorem A3 (hc:X.calm=true) (hg:Gl X "list") (hm:X.mg "list" = none) (hg2:Gl X "range") (XS:X.mg "range" = none) (ha:ia X a ta) (hs:bJ [a] X.env=[(false,eval a X.env)]:=by rfl)
  (Ad:bJ [.Call (.Name "range" p2) [a] [] wW] X.env=[(false,eval (.Call (.Name "range" p2) [a] [] wW) X.env)]:=by rfl) :
  ia X (.Call (.Name "list" p) [.Call (.Name "range" p2) [a] [] wW] [] pos) (xu ta):=by
 intro E ZB s σ H τ G Q hE I h;refine dZ (lY I.inv hg hm xF (dE ?_ Ad rfl));rw [Ad];show wpAny _ _ (xX ((false,eval (.Call (.Name "range" p2) [a] [] wW) X.env) :: iT pos (bJ [] X.env))) _ _ s;refine fV (dZ (lY I.inv hg2 XS boot_range (dE ?_ hs rfl)));rw [hs];show wpAny _ _ (xX ((false,eval a X.env) :: iT wW (bJ [] X.env))) _ _ s;refine fV (kU ha hE I h fun x H1 d G1 u s1 I1 m1 r1 j6 q1=>nH ?_);unfold Rv at q1;split at q1
 ·rename_i n;obtain⟨⟨n0,hn⟩,q⟩:=q1;cases j6;obtain⟨t,rfl⟩:=r1;refine call_range_1 (nH ?_);have hsz:bx=16777216:=cC;have nV:Inv X ZB σ H1 { s1 with heap:=s1.heap.push { cls:=.type "range",data:=.fields #[.int 0 s1.toks,.int n t,.int 1 (s1.toks+1)] },toks:=s1.toks+1+1 }:=I1.inv.kept fun b o e=>aN _ e;have rsz:Cd 0 n 1=(n.toNat:Int):=by rw [rangeSize_one]; split <;> lia
  refine call_list_range (n:=n.toNat) (I1.inv.ok.hd hc) (IsRange.new ..) (small_one (by lia) (by lia) (by lia) (by lia)) rsz (by lia) fun h' tk WF c' hk hD Sf=>?_;have hp:H1 (s1.heap.push { cls:=.type "range",data:=.fields #[.int 0 s1.toks,.int n t,.int 1 (s1.toks+1)] }).objs.size=none:=nV.cB.fresh (aK _);have rv:Vals ((aY n.toNat).map fun (i:Nat)=>V.int (0+(i:Int))) WF.toList:=zU _ WF.toList (by have:=Sf.1; have e:=bz (xs:=WF); rw [ag,cR]; lia) fun i h1 h2=>by
   obtain⟨t',e⟩:=Sf.2 i WF.toList[i] (by rw [bb (by simpa using h2)]; simp);rw [e,dq,mQ];exact⟨t',by simp⟩
  have rs:bp X.K H1 ((aY n.toNat).map fun (i:Nat)=>V.int (0+(i:Int))) (dB 0 n.toNat):=by
   unfold dB;have:∀ (l:List Nat),bp X.K H1 (l.map fun (i:Nat)=>V.int (0+(i:Int))) (l.map fun (i:Nat)=>D.int (0+(i:Int))):=by
    intro l;induction l with
    | nil=>exact .nil
    | cons i l ih=>exact .cons (.int _) ih
   exact this _
  exact sr.trans m1 ⟨.ref _,_,.ref _,_,nV.laid (o:=.lst ((aY n.toNat).map fun (i:Nat)=>V.int (0+(i:Int)))) (t':=tk) (fun b o e=>hk b o e) (aK _) ⟨by rw [ag,cR]; lia,WF.toList,c',rv,by simpa [uN,W.listOf] using hD⟩,.Ba I1.ab hp rs,rfl,.ref _,q _ (I1.ab.free hp)⟩
 ·exact q1.elim
end
end K2
end
section
namespace K2
open PySem PySem.Spec PyProof.Rows L2
section
variable {X:Cx}
def WX(neg:Bool):B7:=fun x y G Q=>match y with
 | .dh=>Ot neg x G Q
 | _=>False
theorem ZN{H:Hp}{x:V}{dx:D}{v:Value}(r:RelV x v)(rd:cM X.K H x dx)(h:dx≠.dh):v≠.none:=by
 intro z;subst z;cases rd with
 | dh=>exact h rfl
 | bl b=>cases r
 | int i=>obtain⟨t,e⟩:=r; cases e
 | str x=>obtain⟨t,e⟩:=r; cases e
 | _=>cases r
theorem UG{neg:Bool}{x:D}{G:Gp}{Q:DK}(h:x≠.dh)(q:Ot neg x G Q):Q (.bl neg) G:=by
 cases x with
 | dh=>exact absurd rfl h
 | _=>exact q
theorem OG:o3 X (eO .IsNot) (WX true):=by
 intro ZB s σ H G x y dx dy v u Q I ab rx ry dX dY q;unfold WX at q;split at q
 ·cases dY;cases ry;by_cases h:dx=.dh
  ·subst h;cases dX;cases rx;exact isnot_none_none ⟨.bl false,H,.bl false,G,I,.refl ab,rfl,.bl _,q⟩
  ·exact isnot_none_ne (ZN rx dX h) ⟨.bl true,H,.bl true,G,I,.refl ab,rfl,.bl _,UG h q⟩
 ·exact q.elim
variable {a:Expr} {ta:gN} {pos p:Pos}
end
end K2
end
section
namespace K2
open PySem PySem.Spec PyProof.Rows L2
section
variable {K:ak} {h:Heap} {C:Addr} {Gu:List Value} {newId:String}
theorem X8{P:Prop}{m:List Value}{sl:List (Option Value)}{f:Addr->List Value->Option Value->Option Value->Option Value->Option Value->String->Option Value->Bool}
  (q:PySem.W.excIn.match_1 (fun _ _=>Bool) m sl f (fun _ _=>false)=true)
  (k:∀ C' bm k0 k1 k2 k3 n k5,m=.ref C' :: bm->sl=[k0,k1,k2,k3,some (.builtin n),k5]->f C' bm k0 k1 k2 k3 n k5=true->P):P:=by
 have no:false=true->P:=fun z=>bB z;cases m with
 | nil=>exact no q
 | cons v bm =>
  cases v with
  | ref C' =>
   obtain _ | ⟨k0,_ | ⟨k1,_ | ⟨k2,_ | ⟨k3,_ | ⟨_ | w,sl⟩⟩⟩⟩⟩:=sl
   iterate 6 exact no q
   cases w with
   | builtin n =>
    obtain _ | ⟨k5,_ | _⟩:=sl
    ·exact no q
    ·exact k C' bm k0 k1 k2 k3 n k5 rfl rfl q
    ·exact no q
   | _=>exact no q
  | _=>exact no q
inductive Tj (h:Heap) (C:Addr) (Gu:List Value) (newId:String):Prop
 | mk (bm N nm qn bs hdct sn sub ab col dd k0 k1 k2 k3 k5 mN) (o:h.get? C=some (P8 nm qn C N bs bm hdct sn sub ab col dd k0 k1 k2 k3 k5 newId)) (n:h.Ns N mN) (i:mN "__init__" = none) (t:OwnTail h Gu bm):Tj h C Gu newId
theorem Fx(Y:K.In h)(q:fT K C Gu newId=true):Tj h C Gu newId:=by
 unfold fT at q;split at q
 case h_2=>cases q
 rename_i dd cd sl ho;refine X8 q fun C' bm k0 k1 k2 k3 n k5 hm hs q=>?_;obtain⟨nm,bs,mro,ns,qn,hd,sn,sub,ab,col,del⟩:=cd;obtain⟨sl⟩:=sl;subst hm hs;have q:(C' == C&&n == newId&&!del&&PySem.W.tailIn K Gu bm&&PySem.W.nsOkIn K ns&&cJ K ns "__init__" == some none)=true:=q;simp only [aQ,beq_iff_eq,t4] at q;obtain⟨⟨⟨⟨⟨e1,e2⟩,e3⟩,e4⟩,e5⟩,e6⟩:=q;subst e1 e2 e3;exact⟨bm,_,_,_,_,_,_,_,_,_,dd,k0,k1,k2,k3,k5,_,Y _ _ ho,.of_isNs (PySem.W.isNs_of_in Y e5),PySem.W.nsMap_none_of_in Y e5 e6,PySem.W.tail_of_in Y e4⟩
end
section
variable {X:Cx} {x:Str} {C:Addr} {Gu:List Value} {B newId XG:String} {e0:Expr} {es:List Expr} {np jh pos:Pos} {t:CF}
theorem Df(hg:Gl X x)(hm:X.mg x=some (.ref C))(q:fT X.K C Gu newId=true)(FB:ExcBaseFacts B newId XG Gu)(hc:X.calm=true)(ha:Gy X (e0 :: es) t)
  (Co:(x == ("__debug__" : Str))=false:=by decide) (he:bJ (e0 :: es) X.env=(false,eval e0 X.env) :: bJ es X.env:=by rfl) (Bt:(iT jh (bJ es X.env)).any (·.1)=false:=by rfl) :
  Gx X (.Raise (some (.Call (.Name x np) (e0 :: es) [] jh)) none pos) (BG x t):=by
 intro E ZB s σ H τ G D hE I h;obtain⟨tl,N,nm,qn,bs,hdct,sn,sub,ab,col,dd,k0,k1,k2,k3,k5,mN,hC,hN,hni,T⟩:=Fx I.inv.ok.mod.RC q;refine wpAny_Raise_call_subT (C:=C) (nm:=nm) (q:=qn) (N:=N) (bs:=bs) (bm:=tl) (hdct:=hdct) (sn:=sn) (sub:=sub) (ab:=ab) (col:=col) (dd:=dd) (k0:=k0) (k1:=k1) (k2:=k2) (k3:=k3) (k5:=k5)
  FB (mN:=mN) (T.hasType FB.hasBase) (I.inv.ok.hd hc) (by rw [he]; show (false||(iT jh (bJ es X.env)).any (·.1))=false; rw [Bt]; rfl) hni (pE I.inv hg hm ⟨rfl,?_⟩ Co)
 have w:=zF (Q:=fun us s2=>us.length<=bx/\(∀ b o,X.base.get? b=some o->s2.heap.get? b=some o)/\∀ h' e,Heap.MadeExcOf s2.heap h' e (.ref C) us->X.xe (.ref e) { s2 with heap:=h' }) ha jh hE I h
  fun vs H1 ds G1 us s1 I1 m1 r rd z=>⟨by rw [<-r.length,rd.length,cC]; exact z.1,I1.inv.bk,fun h' e hx=>hE.made ZB σ H1 s1 h' e C us ⟨x,[]⟩ I1.inv hx hm z.2⟩
 rw [he] at w ⊢;exact Tv (jq w (fun us s2 h2=>⟨rfl,h2.1,h2.2.1 _ _ hC,hN.keeps h2.2.1,T.keeps h2.2.1,h2.2.2⟩) fun _ _ y=>y)
end
end K2
end
section
namespace K2
open PySem PySem.Spec PyProof.Rows L2
theorem _root_.Internal.L2.ij.there{P:bT}{w:World}{H:Hp}{h:Heap}{a:Addr}{o:HO}(x:ij P w H h a o):∃ ob,h.get? a=some ob:=by
 cases o with
 | lst xs=>obtain⟨_,_,_,_,e⟩:=x; exact⟨_,e⟩
 | tup xs=>obtain⟨_,_,_,ob,e,_⟩:=x; exact⟨_,e⟩
 | dK WP=>obtain⟨_,_,_,_,o,_,_,e,_⟩:=x; exact⟨_,e⟩
 | dT WP=>obtain⟨_,_,_,_,o,_,_,e,_⟩:=x; exact⟨_,e⟩
 | set S n=>obtain⟨o,_,_,_,e,_⟩:=x; exact⟨_,e⟩
 | ins C dx fs=>obtain⟨_,_,_,e,_⟩:=x; exact⟨_,e⟩
 | own y=>exact x
 | xd fs=>obtain⟨_,⟨_,_,_,e,_⟩,_⟩:=x; exact⟨_,e⟩
 | Zm lo hi=>obtain⟨_,_,_,e⟩:=x; exact⟨_,e⟩
 | lB ob u=>obtain⟨e,_⟩:=x; exact⟨_,e⟩
 | Us ps=>exact⟨_,x⟩
 | met f y=>exact⟨_,x⟩
 | ext φ=>obtain⟨_,e,_⟩:=x; exact e
theorem KU{X:Cx}{ZB:List (Addr×Obj)}{σ:L2.St}{H1:Hp}{s1:az}{h1 h' B:Heap}(I:Inv X ZB σ H1 s1)(zI:X.stack=X.env :: X.outer)(TQ:X.env.frame=some X.env.locals)(hex:X.ex=[])
  (ZX:∀ b o,s1.heap.get? b=some o->h1.get? b=some o) (hB:∀ b o,s1.heap.get? b=some o->b∉uI X.stack->(X.jv.heap.get? b≠none\/H1 b≠none)->B.get? b=some o) (kb:B.StaysIn h') (up:h1.UpToSlots h') :
  Un (uI X.outer) [] X.PA H1 X.jv.heap h'/\sf X.prog X.w H1 h'/\∀ b o,h'.get? b=some o->b∉uI X.outer->(X.jv.heap.get? b≠none\/H1 b≠none)->B.get? b=some o:=by
 have efr:uI X.stack=X.env.locals :: uI X.outer:=by rw [zI]; unfold uI; rw [tY TQ]
 have Rj:∀ b,b∉uI X.outer->b≠X.env.locals->b∉uI X.stack:=fun b h1 h2 h3=>by
  rw [efr] at h3;rcases List.mem_cons.mp h3 with e | e
  ·exact h2 e
  ·exact h1 e
 have old:∀ b o,X.jv.heap.get? b=some o->b≠X.env.locals:=fun b o q=>bQ (bX (aR q) I.ok.above);have tr:∀ b u,H1 b=some u->b∉uI X.stack:=fun b u q hb=>by rw [I.Ew b hb] at q; cases q
 have nx:∀ b:Addr,b∉X.ex:=fun b=>by rw [hex]; exact cZ
 have frame:∀ b o,b∈uI X.outer->s1.heap.get? b=some o->∃ sl,h'.get? b=some { o with slots:=sl }:=fun b o hb e=>by
  obtain⟨_,o2,e2,nf⟩:=I.stack.mem (show b∈uI X.stack by rw [efr]; exact .tail _ hb);rw [e] at e2; cases e2;exact up b o (ZX b o e) nf
 have go:∀ b o,s1.heap.get? b=some o->b∉uI X.stack->(X.jv.heap.get? b≠none\/H1 b≠none)->h'.get? b=some o:=fun b o e n c=>kb b o (hB b o e n c);refine⟨⟨fun b o q n hb _=>?_,fun b o q n hb _=>?_,fun b o q n _=>I.base.free b o q n (nx b),fun b o q _=>?_,I.base.sd,I.base.rq,I.base.uB⟩,fun a o q=>?_,fun b o e hb hc=>?_⟩
 ·exact go b o (I.base.keep b o q n hb (nx b)) (Rj b hb (old b o q)) (.inl (by rw [q]; simp))
 ·obtain⟨sl,e⟩:=I.base.slot b o q n hb (nx b);obtain⟨Hb,e2⟩:=frame b _ hb e;exact⟨Hb,e2⟩
 ·obtain⟨o',e⟩:=I.base.there b o q (nx b);by_cases hb:b∈uI X.outer
  ·obtain⟨Hb,e2⟩:=frame b _ hb e; exact⟨_,e2⟩
  ·exact⟨o',go b o' e (Rj b hb (old b o q)) (.inl (by rw [q]; simp))⟩
 ·refine(I.cB a o q).kb (fun b u hb e=>?_) (fun b r=>r) (fun b xs r=>r);rcases hb with rfl | hb
  ·exact go b u e (tr b _ q) (.inr (by rw [q]; simp))
  ·exact go b u e (tr b _ hb) (.inr (by rw [hb]; simp))
 ·have n:b∉uI X.stack:=by
   rcases hc with hc | hc
   ·cases q:X.jv.heap.get? b with
    | none=>exact absurd q hc
    | some o0=>exact Rj b hb (old b o0 q)
   ·cases q:H1 b with
    | none=>exact absurd q hc
    | some u=>exact tr b u q
  have:∃ o1,s1.heap.get? b=some o1:=by
   rcases hc with hc | hc
   ·cases q:X.jv.heap.get? b with
    | none=>exact absurd q hc
    | some o0=>exact I.base.there b o0 q (nx b)
   ·cases q:H1 b with
    | none=>exact absurd q hc
    | some u=>exact(I.cB b u q).there
  obtain⟨o1,e1⟩:=this;have e2:=go b o1 e1 n hc;rw [e] at e2; cases e2;exact hB b o e1 n hc
section
variable {P:bT} {w:World} {K:ak} {mg:Str->Option Value} {base:Heap} {N:List Str} {qual:Str} {scope:Scope} {f:Addr} {cd:Value} {A:eu} {outer:List Env} {s:az} {H:Hp} {Ek:XK} {E2:md}
theorem ZT(ke:∀ ex C H',E2 ex (fun _=>none)->mg ex.cls=some (.ref C)->Ek (.ref C) none H'):Lk (yP (L9 P w) P w K mg base N qual scope f cd A outer s H Ek) E2 where
 made:=fun ZB σ H1 s1 h1 a C args ex I hx hm hE=>by
  show wpAny (model P w) _ (leaving _ (.ref a)) _ _ _;refine wpAny_leaves_madeW (h:=s1.heap) (base:=PySem.W.hideAll s1.heap (uI (yP (L9 P w) P w K mg base N qual scope f cd A outer s H Ek).stack)) I.ok.frames rfl (fun b o q=>Tp _ q)
   (PySem.W.funFrames_hide I.stack fun env he b hb=>List.mem_filterMap.mpr ⟨env,he,hb⟩) hx fun h' t fl tup tn up=>?_
  obtain⟨un,cB,hB⟩:=KU I rfl rfl rfl hx.keeps (fun b o e n _=>Qa _ e n) fl.1 up;refine⟨a,C,t,_,H1,rfl,I.os,I.bare,un,cB,hB,fl,?_,?_,ke ex C H1 hE hm⟩
  ·cases q:H1 a with
   | none=>rfl
   | some u =>
    obtain⟨o,e⟩:=(I.cB a u q).there;have:=hx.new;rw [e] at this; cases this
  ·cases q:s.heap.get? a with
   | none=>rfl
   | some o =>
    obtain⟨o',e⟩:=I.base.there a o q cZ;have:=hx.new;rw [e] at this; cases this
 pass:=fun ZB σ H1 s1 s' e I JE=>by
  obtain⟨a,C,t,B,H',e1,os,bare,un,cB,hB,fl,ha,hs,ex,C',e2,hm,hE⟩:=JE;subst e1; cases e2;show wpAny (model P w) _ (leaving _ (.ref a)) _ _ _;have I':Inv (yP (L9 P w) P w K mg base N qual scope f cd A outer s H Ek) ZB σ H' s':=by
   obtain⟨hh,g,d,t,Zw⟩:=s';obtain rfl:Zw=s1.os:=os;exact I.call (h':=hh) (g':=g) (d':=d) (t':=t) (ch:=[]) un cB bare (fun b z=>absurd z (by simp))
  refine wpAny_leaves_onW I.ok.frames rfl fl fun h' fl' up=>?_;obtain⟨Y4,Lh,hB'⟩:=KU I' rfl rfl rfl (fun _ _ e=>e) (fun b o e n c=>hB b o e n (c.imp (fun z=>by
   cases q:s.heap.get? b with
   | none=>exact absurd q z
   | some o0=>obtain⟨o1,e1⟩:=I.base.there b o0 q cZ; rw [e1]; simp) id)) fl'.1 up
  refine⟨a,C,t,B,H',rfl,I'.os,I'.bare,Y4,Lh,hB',fl',ha,?_,ke ex C H' hE hm⟩;cases q:s.heap.get? a with
  | none=>rfl
  | some o=>obtain⟨o1,e1⟩:=I.base.there a o q cZ; rw [e1] at hs; cases hs
end
def uR(K:ak)(mg:Str->Option Value)(sp:mw):Sp:=fun vs H Q E=>∃ ds G Q2 E2,bp K H vs ds/\mx K H G/\sp ds G Q2 E2/\(∀ d G' v H',Q2 d G'->Mv K H G H' G'->cM K H' v d->Q v H') /\
 ∀ (ex:Ex) (C:Addr) (H':Hp),E2 ex (fun _=>none)->mg ex.cls=some (.ref C)->E (.ref C) none H'
theorem Vi{P:bT}{w:World}{K:ak}{mg:Str->Option Value}{base:Heap}{x qual:Str}{st:Stmt}{f:Addr}{fd:aG}{Nn ps:List Str}{k:Nat}{sp:mw}{rd:iC}(F:oj K x qual st f fd)(S:cx Nn ps (aT st))(len:∀ ds G Q E,sp ds G Q E->ds.length=ps.length)
  (hr:∀ ds G Q E,sp ds G Q E->rd E (ends Q) (bC Nn.length ds) G)
  (hb:∀ (oh:Value) (A:eu) (outer:List Env) (s:az) (H:Hp) (E:XK),lM k (A.deeper (Au qual (aT st) s.heap.objs.size f oh))->vT (yP (L9 P w) P w K mg base Nn qual (aT st) f oh A outer s H E) (jQ st) rd):gf P w K mg base (L9 P w) (k+1) f fd ps (uR K mg sp):=by
 obtain⟨oc,od,kV,doc,pm,an,oh,ct,PS,rfl,lk,Gs⟩:=F.ex;refine V6 lk Gs S ((by rintro vs H Q E ⟨ds,G,Q2,E2,r,ab,q,_⟩; exact by rw [r.length]; exact len _ _ _ _ q)) ?_;rintro A outer s H vs Q E RV ⟨ds,G,Q2,E2,r,ab,q,kk,ke⟩;refine⟨_,QY (hb oh A outer s H E RV) (ZT ke),?_⟩;exact⟨bC Nn.length ds,G,ends Q2,GZ r,ab,hr ds G Q2 E2 q,fun j5 H' nI G' mv z=>kk _ _ _ _ z mv .dh,fun v H' d G' mv WT z=>kk _ _ _ _ z mv WT,fun _ _ z=>z,fun _ _ z=>z⟩
end K2
end
section
namespace K2
open PySem PySem.Spec PyProof.Rows L2
def TF:HO->Bool
 | .tup _=>true
 | .lB _ (.lst _)=>true
 | .lB _ (.dK _)=>true
 | .lB _ (.dT _)=>true
 | .lB _ (.ext _)=>true
 | _=>false
def hr(H:Hp):Hp:=fun b=>(H b).bind fun o=>if TF o=true then some o else none
def hj(H1 H':Hp):Hp:=fun b=>match H1 b with
 | some o=>some o
 | none=>H' b
section
variable {P:bT} {w:World} {K:ak} {H H1 H':Hp} {h h':Heap} {b:Addr} {o:HO} {fs:List Addr}
theorem Va(q:hr H b=some o):H b=some o/\TF o=true:=by
 unfold hr at q;cases e:H b with
 | none=>rw [e] at q; cases q
 | some u =>
  rw [e] at q;simp only [CQ] at q;by_cases k:TF u=true
  ·rw [if_pos k] at q; cases q; exact⟨rfl,k⟩
  ·rw [if_neg k] at q; cases q
theorem xc(q:H b=some o)(k:TF o=true):hr H b=some o:=by unfold hr; rw [q,CQ,if_pos k]
theorem xf(q:H b=none):hr H b=none:=by unfold hr; rw [q]; rfl
theorem VX(q:H b=some o)(k:TF o=false):hr H b=none:=by unfold hr; rw [q,CQ,if_neg (by rw [k]; exact eV)]
theorem XM(x:sf P w H h):sf P w (hr H) h:=fun a o q=>by
 obtain⟨e,k⟩:=Va q;have y:=x a o e;cases o with
 | tup xs=>exact y
 | lB ob u =>
  cases u with
  | lst _=>exact y
  | dK _=>exact y
  | ext _=>exact y
  | dT WP =>
   obtain⟨e1,z,n,xs,r,rest⟩:=y;exact⟨e1,z,n,xs,L2.Paired.Xq r (fun p q z=>⟨z.1,xc z.2.1 rfl,z.2.2⟩),rest⟩
  | _=>exact bB (show false=true from k)
 | _=>exact bB (show false=true from k)
theorem qp(q:H1 b=some o):hj H1 H' b=some o:=by unfold hj; rw [q]
theorem tL(q:H1 b=none):hj H1 H' b=H' b:=by unfold hj; rw [q]
theorem join(un:Un fs [] (hr H1) H' h h')(k1:sf P w H1 h)(k2:sf P w H' h')(fr:∀ b∈fs,H1 b=none) :
  Un fs [] H1 (hj H1 H') h h'/\sf P w (hj H1 H') h'/\Kp H' (hj H1 H')/\∀ b u,(∀ o,H1 b=some o->TF o=false\/∃ ob v,o=.lB ob v)->H1 b≠none->h.get? b=some u->h'.get? b=some u:=by
 have nx:∀ c:Addr,c∉([]:List Addr):=fun c=>cZ;have ZK:∀ c u,H1 c=some u->c∉fs:=fun c u q z=>by rw [fr c z] at q; cases q
 have Gv:∀ c u v,H1 c=some u->H' c=some v->u=v/\TF u=true:=fun c u v q q'=>by
  cases k:TF u with
  | false =>
   obtain⟨ob,e⟩:=(k1 c u q).there;have:=un.free c ob e (VX q k) (nx c);rw [this] at q'; cases q'
  | true =>
   have r:=xc q k;cases u with
   | tup xs=>have:=un.sd c xs r; rw [q'] at this; cases this; exact⟨rfl,rfl⟩
   | lB ob x=>have:=un.rq c ob x r; rw [q'] at this; cases this; exact⟨rfl,rfl⟩
   | _=>exact bB (show false=true from k)
 have same:∀ b u,(∀ o,H1 b=some o->TF o=false\/∃ ob v,o=.lB ob v)->H1 b≠none->h.get? b=some u->h'.get? b=some u:=fun b u hh hn e=>by
  cases q:H1 b with
  | none=>exact absurd q hn
  | some o =>
   cases k:TF o with
   | false=>exact un.keep b u e (VX q k) (ZK b o q) (nx b)
   | true =>
    rcases hh o q with z | ⟨ob,v,rfl⟩
    ·rw [z] at k; cases k
    ·have h1:=(k2 b _ (un.rq b ob v (xc q k))).1;have h2:=(k1 b _ q).1;rw [h2] at e; cases e;exact h1
 refine⟨⟨fun c u e n hc hx=>un.keep c u e (xf n) hc hx,fun c u e n hc hx=>un.slot c u e (xf n) hc hx,fun c u e n hx=>?_,fun c u e hx=>un.there c u e hx,fun c xs q=>qp q,fun c ob u q=>qp q,fun c ps q=>⟨#[],by rw [qp q]; simp⟩⟩,fun c o q=>?_,⟨fun c xs q=>?_,fun c ob u q=>?_⟩,same⟩
 ·rw [tL n]; exact un.free c u e (xf n) hx
 ·cases q1:H1 c with
  | some o1 =>
   rw [qp q1] at q; cases q;by_cases ht:∃ xs,o=.tup xs
   ·obtain⟨xs,rfl⟩:=ht;exact k2 c _ (un.sd c xs (xc q1 rfl))
   ·refine(k1 c o q1).kb (fun d u hd e=>?_) (fun d r=>qp r) (fun d xs r=>qp r);rcases hd with rfl | hd
    ·refine same d u (fun o' e'=>?_) (by rw [q1]; simp) e;rw [q1] at e'; cases e';cases o with
     | tup xs=>exact absurd ⟨xs,rfl⟩ ht
     | lB ob v=>exact .inr ⟨ob,v,rfl⟩
     | _=>exact .inl rfl
    ·refine same d u (fun o' e'=>?_) (by rw [hd]; simp) e;rw [hd] at e'; cases e';exact .inl rfl
  | none =>
   rw [tL q1] at q;refine(k2 c o q).kb (fun d u _ e=>e) (fun d r=>?_) (fun d xs r=>?_)
   ·cases q2:H1 d with
    | none=>rw [tL q2]; exact r
    | some u=>obtain⟨rfl,k⟩:=Gv d u _ q2 r; exact bB (show false=true from k)
   ·cases q2:H1 d with
    | none=>rw [tL q2]; exact r
    | some u=>obtain⟨rfl,k⟩:=Gv d u _ q2 r; exact qp q2
 ·cases q2:H1 c with
  | none=>rw [tL q2]; exact q
  | some u=>obtain⟨rfl,k⟩:=Gv c u _ q2 q; exact qp q2
 ·cases q2:H1 c with
  | none=>rw [tL q2]; exact q
  | some v=>obtain⟨rfl,k⟩:=Gv c v _ q2 q; exact qp q2
end
theorem cM.hr{K:ak}{H:Hp}{v:V}{d:D}(h:cM K H v d):cM K (K2.hr H) v d :=
 cM.rec (motive_1:=fun v d _=>cM K (K2.hr H) v d) (motive_2:=fun v d _=>bp K (K2.hr H) v d) (motive_3:=fun v d _=>pM K (K2.hr H) v d) (motive_4:=fun v d _=>mS K (K2.hr H) v d)
  .dh .bl .int .str (fun h _ r=>.tup (xc h rfl) r) (fun h _ r=>.fx (h.imp (fun q=>q.elim fun o q=>⟨o,xc q rfl⟩) id) r) (fun h _ r=>.pS (xc h rfl) r) (fun h _ r=>.pR (xc h rfl) r) .ref (fun h=>.exc (by obtain⟨o,C,h1,h2,h3⟩:=h; exact⟨o,C,xc h1 rfl,h2,h3⟩)) .nil (fun _ _ a b=>.cons a b) .nil (fun _ _ a b=>.cons a b) .nil (fun _ _ a b=>.cons a b) h
theorem bp.hr{K:ak}{H:Hp}{v:List V}{d:List D}(h:bp K H v d):bp K (K2.hr H) v d :=
 bp.HY (P:=fun v d=>bp K (K2.hr H) v d) .nil (fun r _ ih=>.cons r.hr ih) h
end K2
end
section
namespace K2
open PySem PySem.Spec PyProof.Rows L2
section
variable {M:Model} {A:eu} {E:Value->az->Prop}
variable {nm q nm' q':Str} {C N D N':Addr} {bs bm Wc bm':List Value} {hdct V2:Bool} {sn sn':List Str} {sub Y9:List Value} {ab ab':Bool} {col aaN:Option Bool} {dd Ye:Option Addr} {k0 k1 k2 k3 k5 k0' k1' k2' k3' k5':Option Value} {newId Xm:String}
theorem OI{h:Heap}{g:Array GenState}{d:Drawn}{t:Nat}{os:OsState}{e:Addr}{oe:Obj}{Q:Bool->az->Prop}
  (hC:h.get? C=some (P8 nm q C N bs bm hdct sn sub ab col dd k0 k1 k2 k3 k5 newId)) (hD:h.get? D=some (P8 nm' q' D N' Wc bm' V2 sn' Y9 ab' aaN Ye k0' k1' k2' k3' k5' Xm))
  (he:h.get? e=some oe) (Sa:oe.cls=.ref C) (Bu:bm'.contains (.type "BaseException")=true)
  (hq:Q ((eQ C :: bm).contains (.ref D)) ⟨h,g,d,t,os⟩):wpAny M A (excMatches (.ref e) (.ref D)) Q E ⟨h,g,d,t,os⟩:=by
 have hcB:(eQ D :: bm').contains (.type "BaseException")=true:=by rw [rZ,Bu,Bool.or_true]
 have f:=tc_notTuple;generalize hb:(eQ C :: bm).contains (.ref D)=r at hq;unfold excMatches
 repeat (first | (with_reducible refine wpAny_loadPart_at he ?_; rw [Sa]) | with_reducible refine wpAny_loadPart_at hD ?_ | (with_reducible refine wpAny_isSubtype_exc hD ?_; rw [hcB]) | (with_reducible refine wpAny_isSubtype_exc hC ?_; rw [hb]) | wp_step)
 cases r
 ·wp_walk; exact hq
 ·wp_walk; exact hq
end
section
variable {X:Cx} {ZB:List (Addr×Obj)} {σ:L2.St} {H1:Hp} {G1:Gp} {s1:az} {k:Nat} {f:Addr} {fd:aG} {ps:List Str} {sp:mw}
theorem VU{H':Hp}(ab:mx X.K H1 G1):Mv X.K H1 G1 (hj H1 H') G1:=by
 have kp:Kp H1 (hj H1 H'):=⟨fun a xs e=>qp e,fun a o u e=>qp e⟩;have ab':mx X.K (hj H1 H') G1:=fun a g e=>(ab a g e).mono kp (by
  cases q:H1 a with
  | none=>exact absurd q (ab a g e).tracked
  | some o=>exact qp q)
 exact⟨fun a o e n=>⟨qp e,n⟩,fun a n=>by
  cases q:G1 a with
  | none=>exact absurd q n
  | some g=>exact(ab' a g q).tracked,ab'⟩
theorem QH{us:List Value}{vs:List V}{ds:List D}{Q2:DK}{E2:md}(F:gf X.prog X.w X.K X.mg X.base (L9 X.prog X.w) k f fd ps (uR X.K X.mg sp))(hr:lM k X.A)(hb:Binds X.K fd ps [])(I:Inv X ZB σ H1 s1)(ab:mx X.K H1 G1)(r:Vals vs us)(rd:bp X.K H1 vs ds)
  (h:sp ds (fun _=>none) Q2 E2):wpAny (model X.prog X.w) X.A (call (.ref f) us)
   (fun u s'=>∃ v d G' Hj,Inv X ZB σ Hj s'/\Mv X.K H1 G1 Hj G1/\RelV v u/\cM X.K Hj v d/\Q2 d G')
   (fun e s'=>∃ (a C t:Addr) (B:Heap) (ex:Ex) (Hj:Hp),e=.ref a/\Inv X ZB σ Hj s'/\Mv X.K H1 G1 Hj G1/\xP B X.stack a (.ref C) (.ref t) s'.heap /\
    (∀ b o,s'.heap.get? b=some o->b∉uI X.stack->(s1.heap.get? b≠none\/Hj b≠none)->B.get? b=some o)/\Hj a=none/\s1.heap.get? a=none/\X.mg ex.cls=some (.ref C)/\E2 ex (fun _=>none)) s1:=by
 have RS:uR X.K X.mg sp vs (K2.hr H1) (fun v H'=>∃ d G',cM X.K H' v d/\Q2 d G') (exK X.mg E2) :=
  ⟨ds,fun _=>none,Q2,E2,rd.hr,(fun _ _ z=>by cases z),h,fun d G' v H' q _ QS=>⟨d,G',QS,q⟩,fun ex C H' q hm=>⟨ex,C,rfl,hm,q⟩⟩
 have hl:us.length=ps.length:=by rw [<-r.length]; exact F.len _ _ _ _ RS
 have e0:=I.aaH;have e1:Tn X.prog X.w X.K X.mg X.base X.A X.stack s1 (K2.hr H1):=⟨e0.frames,e0.mod,fun b o q=>⟨(e0.bs b o q).1,xf (e0.bs b o q).2⟩,e0.S5,e0.yB,fun b z=>xf (e0.TX b z),XM e0.cB,e0.bare⟩;have hbu:=hb s1 us I.B5 (by rw [bL]; exact hl);rw [bL] at hbu;refine JK (p9 (F.run X.A X.stack s1 (K2.hr H1) ⟨us,[]⟩ us vs _ _ hr e1 hbu r RS) fun res s' hq=>?_);cases res with
 | error e =>
  obtain⟨a,C,t,B,H',rfl,os,bare,un,cB,hB,fl,ha,hs,ex,C',ec,hm,hE⟩:=hq;cases ec;obtain⟨Y4,Lh,_,_⟩:=join un I.cB cB e0.TX;have h1a:H1 a=none:=by
   cases q:H1 a with
   | none=>rfl
   | some u=>obtain⟨o,e⟩:=(I.cB a u q).there; rw [e] at hs; cases hs
  refine⟨a,C,t,B,ex,hj H1 H',rfl,I.Wb (ch:=[]) os Y4 Lh bare (fun b z=>absurd z (by simp)),VU ab,fl,fun b o e n c=>hB b o e n ?_,by rw [tL h1a]; exact ha,hs,hm,hE⟩;rcases c with c | c
  ·exact .inl c
  ·cases q:H1 b with
   | none=>rw [tL q] at c; exact .inr c
   | some u=>obtain⟨o1,e1⟩:=(I.cB b u q).there; exact .inl (by rw [e1]; simp)
 | ok fl =>
  cases fl with
  | ret u =>
   obtain⟨v,H',os,bare,un,cB,rv,d,G',QS,q⟩:=hq;obtain⟨Y4,Lh,kp,_⟩:=join un I.cB cB e0.TX;exact⟨v,d,G',hj H1 H',I.Wb (ch:=[]) os Y4 Lh bare (fun b z=>absurd z (by simp)),VU ab,rv,QS.mono kp,q⟩
  | next=>exact bY hq
  | brk=>exact bY hq
  | cont=>exact bY hq
end
end K2
end
section
namespace K2
open PySem PySem.Spec PyProof.Rows L2
section
variable {X:Cx} {ZB:List (Addr×Obj)} {σ:L2.St} {H H1:Hp} {s s1:az} {h6 B:Heap} {a:Addr} {o:Obj} {u:HO}
theorem NK{h h':Heap}{c:Addr}{v:Option Value}(up:h.UpToSlots h')(z:h.IsCell c v):h'.IsCell c v:=by
 obtain⟨o,ho,hd⟩:=z;obtain⟨sl,e⟩:=up c o ho (fun vs q=>by rw [hd] at q; cases q);exact⟨_,e,hd⟩
theorem Q6(I:Inv X ZB σ H s)(zI:X.stack=X.env :: X.outer)(TQ:X.env.frame=some X.env.locals){p:Addr×Obj}(hp:p∈X.pn++ZB):p.1∉uI X.stack:=fun z=>by
 obtain⟨_,_,h3,h4,_⟩:=I.pin p hp;rw [zI] at z; unfold uI at z; rw [tY TQ] at z;rcases List.mem_cons.mp z with e | e
 ·exact h3 e
 ·exact h4 e
theorem DX(I : Inv X ZB σ H s)(I1 : Inv X ZB σ H1 s1)(zI : X.stack = X.env :: X.outer)(TQ : X.env.frame = some X.env.locals)(hex : X.ex = [])
    (hB : ∀ b o, s.heap.get? b = some o -> b ∉ uI X.stack -> (s1.heap.get? b ≠ none ∨ H b ≠ none) -> B.get? b = some o) (kb : B.StaysIn h6) (up : s.heap.UpToSlots h6) (tk : Nat) : Inv X ZB σ H { s with heap := h6, toks := tk } := by
  have z := KU I zI TQ hex (fun _ _ e => e) (fun b o e n c => hB b o e n (c.imp (fun c => by
    cases q : X.jv.heap.get? b with
    | none => exact absurd q c
    | some o0 => obtain⟨o1, e1⟩ := I1.base.there b o0 q (by rw [hex]; exact cZ); rw [e1]; simp) id)) kb up
  exact { ok := I.ok, os := I.os, bare := I.bare
          base := by rw [hex]; exact z.1
          loc := by
            obtain⟨m, hn, hl⟩ := I.loc;exact⟨m, up.ns hn, fun i x v e1 e2 e3 => let ⟨u, r, q⟩ := hl i x v e1 e2 e3; ⟨u, r, q.imp id fun ⟨k, c, e, y⟩ => ⟨k, c, e, NK up y⟩⟩⟩
          cell := fun x c e => let ⟨v, y⟩ := I.cell x c e; ⟨v, NK up y⟩
          free := I.free, jG := I.jG
          pin := fun p hp => by
            obtain⟨h1, h2⟩ := I.pin p hp;exact⟨kb _ _ (hB p.1 p.2 h1 (Q6 I zI TQ hp) (.inl (by rw [(I1.pin p hp).1]; simp))), h2⟩
          cB := z.2.1
          len := I.len }
theorem Pz(I : Inv X ZB σ H s)(ha : H a = none)(hn : X.jv.heap.get? a = none)(nl : a ≠ X.env.locals)(nc : ∀ x c, X.env.cells.lookup x = some c -> c ≠ a)(np : ∀ p ∈ X.pn ++ ZB, p.1 ≠ a)(new : ij X.prog X.w (upd H a u) s.heap a u) :
    Inv X ZB σ (upd H a u) s := by
  have ne : ∀ b v, H b = some v -> b ≠ a := fun b v q e => by rw [e, ha] at q; cases q
  exact { ok := I.ok, os := I.os, bare := I.bare
          base := ⟨I.base.keep, I.base.slot, fun b o q n hx => by
            have : b ≠ a := fun e => by rw [e, hn] at q; cases q
            rw [bR this]; exact I.base.free b o q n hx, I.base.there, fun b xs q => by have r := I.base.sd b xs q; rw [bR (ne _ _ r)]; exact r, fun b o v q => by have r := I.base.rq b o v q; rw [bR (ne _ _ r)]; exact r,
            fun b ps q => by obtain⟨more, r⟩ := I.base.uB b ps q; exact⟨more, by rw [bR (ne _ _ r)]; exact r⟩⟩
          loc := I.loc, cell := I.cell
          free := by rw [bR (fB nl)]; exact I.free
          jG := fun x c e => by rw [bR (nc x c e)]; exact I.jG x c e
          pin := fun p hp => by obtain⟨h1, h2, h3⟩ := I.pin p hp; exact⟨h1, by rw [bR (np p hp)]; exact h2, h3⟩
          cB := fun b v q => by
            by_cases e : b = a
            · subst e; rw [cV] at q; cases q; exact new
            · rw [bR e] at q
              exact(I.cB b v q).kb (fun _ _ _ y => y) (fun c r => by rw [bR (ne _ _ r)]; exact r) (fun c xs r => by rw [bR (ne _ _ r)]; exact r)
          len := I.len }
abbrev marked(X:Cx)(v:Value):Cx:={ X with A:=X.A.mark (some v),calm:=false,xe:=fun _ _=>False }
theorem VG{v:Value}(ok:X.Ok):(marked X v).Ok :=
 ⟨ok.mod,ok.kind,ok.glob,ok.blt,ok.above,ok.inj,ok.has,ok.YK,fun z=>(by cases z),ok.frames,ok.Zc,ok.exf,ok.bs,ok.S5,ok.K0,ok.Pf,ok.yB,ok.TX⟩
theorem Jq{v:Value}(I:Inv X ZB σ H s):Inv (marked X v) ZB σ H s:=⟨VG I.ok,I.os,I.bare,I.base,I.loc,I.cell,I.free,I.jG,I.pin,I.cB,I.len⟩
theorem LZ{v:Value}(ok:X.Ok)(I:Inv (marked X v) ZB σ H s):Inv X ZB σ H s:=⟨ok,I.os,I.bare,I.base,I.loc,I.cell,I.free,I.jG,I.pin,I.cB,I.len⟩
theorem Wo{M : Model}{A : eu}{E : Value -> az -> Prop}{i : Nat}{n : Str}{pos : Pos}{Q : Unit -> az -> Prop}(I : Inv X ZB σ H s)(hN : X.N.Nodup)(hi : X.N[i]? = some n)(hk : X.env.scope.names.lookup n = some .local)
    (h : ∀ s', Inv X ZB (σ.set i none) H s' -> Q () s') : wpAny M A (do bindName X.env n .none; unbindBehindTheSuite X.env n pos) Q E s := by
  obtain⟨m, hn, hl⟩ := id I.loc;have Sa : (X.env.scope.kind == .class || (X.env.scope.kind == .module && X.env.locals != X.env.globals)) = false := by rw [I.ok.kind]; rfl
  obtain⟨oL, _, _, hoL, _⟩ := id hn;refine wpAny_nameGoes_keeps hk hn Sa fun h' v Li hs => h _ ?_;have low : ∀ b o, X.jv.heap.get? b = some o -> b ≠ X.env.locals := fun b o e => bQ (bX (aR e) I.ok.above)
  exact { ok := I.ok, os := I.os, bare := I.bare
          base := ⟨fun b o e n hb hx => (hs.2 b (low b o e)).trans (I.base.keep b o e n hb hx), fun b o e n hb hx => by
              obtain⟨sl, e1⟩ := I.base.slot b o e n hb hx;exact⟨sl, (hs.2 b (low b o e)).trans e1⟩, I.base.free, fun b o e hx => by
              obtain⟨o', e1⟩ := I.base.there b o e hx;exact⟨o', (hs.2 b (low b o e)).trans e1⟩, I.base.sd, I.base.rq, I.base.uB⟩
          loc := ⟨_, Li, fun j y v' e1 e2 e3 => by
            by_cases hj : j = i
            · subst hj
              by_cases mj : j < σ.length
              · rw [dI mj] at e2; cases e2
              · rw [dW (by rw [bO]; lia)] at e2; cases e2
            · rw [dg (fB hj)] at e2
              obtain⟨u', r', q⟩ := hl j y v' e1 e2 e3;refine⟨u', r', ?_⟩;rcases q with ⟨k, e⟩ | ⟨k, c, e, z⟩
              · refine .inl ⟨k, ?_⟩
                have : y ≠ n := fun e => hj (A8 hN e1 (e ▸ hi));simp [this, e]
              · exact .inr ⟨k, c, e, z.sameBut hs (I.Vu y c e)⟩⟩
          cell := fun y c e => by
            obtain⟨w', z⟩ := I.cell y c e;exact⟨w', z.sameBut hs (I.Vu y c e)⟩
          free := I.free, jG := I.jG
          pin := fun p hp => by
            obtain⟨h1, h2, h3, h4⟩ := I.pin p hp;exact⟨(hs.2 p.1 h3).trans h1, h2, h3, h4⟩
          cB := fun b ob e => by
            refine(I.cB b ob e).kb (fun c w' hc q => (hs.2 c ?_).trans q) (fun _ q => q) fun _ _ q => q;rintro rfl;rcases hc with rfl | hc
            · rw [I.free] at e; cases e
            · rw [I.free] at hc; cases hc
          len := by rw [bO]; exact I.len }
end
theorem PD{K:ak}{H:Hp}{σ:L2.St}{τ:iS}(a:Ma K H σ τ)(i:Nat):Ma K H (σ.set i none) (τ.set i none):=by
 refine⟨by rw [bO,bO]; exact a.len,fun j e h=>?_⟩;by_cases hj:i=j
 ·subst hj;by_cases hi:i < τ.length
  ·rw [dI hi] at h; cases h
  ·rw [dW (by rw [bO]; lia)] at h; cases h
 ·rw [dg hj] at h;obtain⟨w,h1,h2⟩:=a.at' j e h;exact⟨w,by rw [dg hj]; exact h1,h2⟩
end K2
end
section
namespace K2
open PySem PySem.Spec PyProof.Rows L2
def subIn(K:ak)(C:Addr)(v:Value):Bool:=match K.lookup C with
 | some ⟨_,_,.cls cd,_⟩=>cd.mro.contains v
 | _=>false
theorem Ut{K:ak}{h:Heap}{C N:Addr}{nm q:Str}{bs bm:List Value}{hdct:Bool}{sn:List Str}{sub:List Value}{ab:Bool}{col:Option Bool}{dd:Option Addr}{k0 k1 k2 k3 k5:Option Value}{newId:String}{v:Value}
  (Y:K.In h) (hC:h.get? C=some (P8 nm q C N bs bm hdct sn sub ab col dd k0 k1 k2 k3 k5 newId)) (e:subIn K C v=true):(eQ C :: bm).contains v=true:=by
 unfold subIn at e;split at e
 ·rename_i ho;have:=Y _ _ ho;rw [hC] at this;cases this;exact e
 ·cases e
section
variable {X:Cx} {x cn n:Str} {D f:Addr} {fd:aG} {ps:List Str} {k i:Nat} {sp:mw} {bmD:List Value} {newD:String} {cat:List Str} {e:Expr} {es:List Expr} {p np pos ep Vc tp:Pos} {Ze:Stmt} {GY:List Stmt} {t:CF} {th:iC}
structure Wh(X:Cx):Prop where
 st:X.stack=X.env :: X.outer
 fr:X.env.frame=some X.env.locals
 ex:X.ex=[]
structure Clause(X:Cx)(i:Nat)(n cn:Str)(D:Addr)(cat:List Str):Prop where
 nd:X.N.Nodup
 Gv:X.N[i]?=some n
 loc:X.env.scope.names.lookup n=some .local
 gl:Gl X cn
 mg:X.mg cn=some (.ref D)
 cls:∃ bmD newD,fT X.K D bmD newD=true/\bmD.contains (.type "BaseException")=true
 cat:∀ c,cat.contains c=true->∃ C Gu newId,cJ X.K bP c=some (some (.ref C))/\fT X.K C Gu newId=true/\subIn X.K C (.ref D)=true
theorem Ja{ZB:List (Addr×Obj)}{σ:L2.St}{H H1 Hj:Hp}{τ:iS}{G G1:Gp}{s1 s':az}{Dn:nF}{a C t0:Addr}{B:Heap}{ex:Ex}(A0:Wh X)(L:Clause X i n cn D cat)(Z2:∀ v,vT (marked X v) (Ze :: GY) th)(J1:Inv X ZB σ H1 s1)(st1:Ma X.K H1 σ τ)(ab1:mx X.K H1 G1)(m1:Mv X.K H G H1 G1)
  (I':Inv X ZB σ Hj s') (mv:Mv X.K H1 G1 Hj G1) (fl:xP B X.stack a (.ref C) (.ref t0) s'.heap) (hB:∀ b o,s'.heap.get? b=some o->b∉uI X.stack->(s1.heap.get? b≠none\/Hj b≠none)->B.get? b=some o)
  (X0:Hj a=none) (Bs:s1.heap.get? a=none) (hm':X.mg ex.cls=some (.ref C)) (PV:cat.contains ex.cls=true)
  (q':th (fun _ _=>False) ⟨fun nI G'=>Dn.nx (nI.set i none) G',fun _ _=>False,fun _ _=>False,fun _ _=>False⟩ (τ.set i (some (.exc ex.cls))) G1) (hdD:(cn == ("__debug__" : Str))=false) :
  wpAny (model X.prog X.w) X.A (noteFrame (.ref a) X.env) (fun _ vm=>wpAny (model X.prog X.w) X.A (setFlight (.ref a) none) (fun _ Eu=>wpAny (model X.prog X.w) X.A (handleBy (.ref a) X.env [.ExceptHandler (some (.Name cn np)) (some n) (Ze :: GY) Vc]) (VC X ZB H G Dn) X.xe Eu) X.xe vm) X.xe s':=by
 obtain⟨zI,TQ,hex⟩:=A0;obtain⟨hN,hi,hl,hgD,hmD,⟨bmD,newD,qD,bD⟩,ad9⟩:=L;obtain⟨C',Gu,newId,OY,qC,Ia⟩:=ad9 ex.cls PV;have eC:C'=C:=by
  have:=gQ J1.ok.mod.RC J1.ok.mod.glob OY;rw [hm'] at this; cases this; rfl
 subst eC;rw [zI] at fl;refine wpAny_looks_onW (L:=X.env.locals) (by rw [<-zI]; exact J1.ok.frames) TQ fl fun h4 held up4=>?_;refine wpAny_landsW held fun h5 fl5 up5=>?_;have I5:Inv X ZB σ Hj { s' with heap:=h5 }:=DX I' J1 zI TQ hex hB fl5.1 (up4.trans up5) _;refine wpAny_handleBy_cons (codeAny_handlers_test ?_) (by intro z; cases z);refine pE (X:=marked X (.ref a)) (Jq I5) hgD hmD ?_ hdD;obtain⟨bm,N,nm,qn,bs,hdct,sn,sub,ab,col,dd,k0,k1,k2,k3,k5,mN,hC,_,_,T⟩:=Fx I5.B5 qC;obtain⟨bm',N',nm',qn',Wc,V2,sn',Y9,ab',aaN,Ye,k0',k1',k2',k3',k5',mN',hD,_,_,T'⟩:=Fx I5.B5 qD;obtain⟨oe,he5,hce⟩:=fl5.there;refine OI hC hD he5 hce (T'.hasType bD) ?_;rw [Ut I5.B5 hC Ia];refine codeAny_handlers_suite_as ?_;refine lands_againW fl5 fun h6 fl6 up6=>?_;have I6:Inv X ZB σ Hj { s' with heap:=h6 }:=DX I' J1 zI TQ hex hB fl6.1 ((up4.trans up5).trans up6) _;obtain⟨Xj,he6,hc6⟩:=fl6.there;have nl:a≠X.env.locals:=fun z=>by
  obtain⟨m,⟨oL,_,_,hoL,_⟩,_⟩:=J1.loc;rw [z,hoL] at Bs; cases Bs
 have nc:∀ y c,X.env.cells.lookup y=some c->c≠a:=fun y c ec z=>by
  obtain⟨v,o,ho,_⟩:=J1.cell y c ec;rw [z,Bs] at ho; cases ho
 have npn:∀ q∈X.pn++ZB,q.1≠a:=fun q hq z=>by
  have:=(J1.pin q hq).1;rw [z,Bs] at this; cases this
 have hn:X.jv.heap.get? a=none:=by
  cases q0:X.jv.heap.get? a with
  | none=>rfl
  | some o=>obtain⟨o1,e1⟩:=J1.base.there a o q0 (by rw [hex]; exact cZ); rw [e1] at Bs; cases Bs
 have I7:=Pz (u:=.lB Xj (.ext fun h=>h.get? a=some Xj)) I6 X0 hn nl nc npn ⟨he6,he6,⟨_,he6⟩,fun h1 h2 q k=>k _ q⟩;have mvT:Mv X.K Hj G1 (upd Hj a (.lB Xj (.ext fun h=>h.get? a=some Xj))) G1:=.O0 mv.ab X0;have kp7:Kp H1 (upd Hj a (.lB Xj (.ext fun h=>h.get? a=some Xj))):=(mv.trans mvT).kp ab1;refine yf (v:=.ref a) I7 hN hi (.inl hl) rfl (fun s8 I8 _=>?_) (.inr hl);refine jq (Z2 (.ref a) (fun _ _=>False) ZB s8 _ _ (τ.set i (some (.exc ex.cls))) G1 _ (Lk.none fun _ _ z=>z)
  ⟨Jq I8,(st1.mono kp7).set i (.exc ⟨Xj,C',cV,hc6,OY⟩),mvT.ab⟩ q') (fun fw s9 q9=>?_) (fun _ _ z=>z.elim)
 cases fw with
 | next =>
  obtain⟨YV,H9,Yt,G9,I9,m9,q9⟩:=q9;exact Wo (LZ J1.ok I9.inv) hN hi hl fun s10 I10=>⟨YV.set i none,H9,Yt.set i none,G9,⟨I10,PD I9.st i,I9.ab⟩,m1.trans (mv.trans (mvT.trans m9)),q9⟩
 | brk=>obtain⟨_,_,_,_,_,_,z⟩:=q9; exact z.elim
 | cont=>obtain⟨_,_,_,_,_,_,z⟩:=q9; exact z.elim
 | ret u=>obtain⟨_,_,_,_,_,_,_,_,_,z⟩:=q9; exact z.elim
theorem UK(A0:Wh X)(L:Clause X i n cn D cat)
  (F:gf X.prog X.w X.K X.mg X.base (L9 X.prog X.w) k f fd ps (uR X.K X.mg sp)) (hr:lM k X.A) (hg:Gl X x) (hm:X.mg x=some (.ref f)) (hk:ji X.K (.ref f)=true) (hb:Binds X.K fd ps [])
  (ha:∀ EX,Gy (X.wj EX) (e :: es) t) (Z2:∀ v,vT (marked X v) (Ze :: GY) th)
  (Co:(x == ("__debug__" : Str))=false:=by decide) (hdD:(cn == ("__debug__" : Str))=false:=by decide) (he:bJ (e :: es) X.env=(false,eval e X.env) :: bJ es X.env:=by rfl) (Bt:(iT pos (bJ es X.env)).any (·.1)=false:=by rfl)
  (hs:Aq (.Call (.Name x p) (e :: es) [] pos) none ep.line X.env=pure false:=by rfl) :
  Gx X (.Try [.Expr (.Call (.Name x p) (e :: es) [] pos) ep] [.ExceptHandler (some (.Name cn np)) (some n) (Ze :: GY) Vc] [] [] tp) (NH sp t i cat th):=by
 intro E ZB s σ H τ G Dn hE I h;refine wpAny_Try_except ?_;refine yU (wpAny_Expr_any ?_ I.inv.quiet hs);generalize hEX:(fun (e:Value) (gx:az)=>wpAny (model X.prog X.w) X.A (noteFrame e X.env) (fun _ vm=>wpAny (model X.prog X.w) X.A (setFlight e none) (fun _ Eu=>wpAny (model X.prog X.w) X.A (handleBy e X.env [.ExceptHandler (some (.Name cn np)) (some n) (Ze :: GY) Vc]) (VC X ZB H G Dn) X.xe Eu) X.xe vm) X.xe gx)=EX;refine dZ (pE I.inv hg hm ?_ Co);have I0:I2 (X.wj EX) ZB σ H τ G s:=⟨I.inv.wj EX,I.st,I.ab⟩;refine zy (h₀:=X.base) I.inv.ok.mod.RC hk (zF (X:=X.wj EX) (ha EX) pos (Lk.none fun _ _ z=>z) I0 h fun vs H1 ds G1 us s1 I1 m1 r rd q=>⟨I1.inv.B5,?_⟩) he Bt;have J1:Inv X ZB σ H1 s1:=I1.inv.qM;refine jq (QH F hr hb J1 I1.ab r rd q) ?_ ?_
 ·rintro u s' ⟨v,d,G',Hj,I',mv,rv,QS,q'⟩;exact jr (jr ⟨σ,Hj,τ,G1,⟨I',I1.st.mono (mv.kp I1.ab),mv.ab⟩,m1.trans mv,q'⟩)
 ·rintro ev s' ⟨a,C,t0,B,ex,Hj,ea,I',mv,fl,hB,X0,Bs,hm',PV,q'⟩;subst ea; subst hEX;exact Ja A0 L Z2 J1 I1.st I1.ab m1 I' mv fl hB X0 Bs hm' PV q' hdD
theorem OF(F:gf X.prog X.w X.K X.mg X.base (L9 X.prog X.w) k f fd ps (uR X.K X.mg sp))(hr:lM k X.A)(hg:Gl X x)(hm:X.mg x=some (.ref f))(hk:ji X.K (.ref f)=true)(hb:Binds X.K fd ps [])
  (ha:Gy X (e :: es) t) (Co:(x == ("__debug__" : Str))=false:=by decide) (he:bJ (e :: es) X.env=(false,eval e X.env) :: bJ es X.env:=by rfl) (Bt:(iT pos (bJ es X.env)).any (·.1)=false:=by rfl) :
  ia X (.Call (.Name x p) (e :: es) [] pos) (LM sp t):=by
 intro E ZB s σ H τ G Q hE I h;refine dZ (pE I.inv hg hm ?_ Co);refine zy (h₀:=X.base) I.inv.ok.mod.RC hk (zF ha pos hE I h fun vs H1 ds G1 us s1 I1 m1 r rd q=>⟨I1.inv.B5,?_⟩) he Bt;refine g6 (QJ (E:=exK X.mg E) F hr hb .nil (fun ZB σ H s e s' I hq=>hE.pass ZB σ H s s' e I hq) I1.inv r (Q:=CH X.K H1 G1 Q) ?_) fun _ _ z=>(sr.of z).trans m1;rw [bL];exact⟨ds,G1,Q,E,rd,I1.ab,q,fun d G' v H' q' m' QS=>⟨d,G',m',QS,q'⟩,fun ex C H' q' hm'=>⟨ex,C,rfl,hm',q'⟩⟩
end
end K2
end
section
namespace K2
open PySem PySem.Spec PyProof.Rows L2 PySem.W PySem.Calls PySem.Builtin PySem.Builtin.Getset_descriptor
section
variable {prog:bT} {w:World} {A:eu} {E:Value->az->Prop} {s:az} {K:ak} {a C:Addr} {ox:Obj}
theorem Vn {Q:Option Value->az->Prop} {B:String} {Gu:List Value} (FB:ExcAttrBase B Gu) (X:K.In s.heap) (hx:s.heap.get? a=some ox) (hc:ox.cls=.ref C) (hga:findIn K (.ref C) "__getattribute__" = some (some (.builtin "BaseException.__getattribute__"))) (hgn:findIn K (.ref C) "__getattr__" = some none)
  (hA:findIn K (.ref C) "__class__" = some (some (.builtin "object.__class__"))) (hG:specialIn K (.builtin "object.__class__") "__get__" = some (some (.builtin "getset_descriptor.__get__"))) (hT:takesIn K (.builtin "object.__class__")=some true) (hm:mroIn K C (.type "object")=some true) (hmB:mroIn K C (.type "BaseException")=some true)
  (h:Q (some (.ref C)) { s with toks:=s.toks+1 }):wpAny (model prog w) A (getAttr? (.ref a) "__class__") Q E s:=by
 obtain⟨hh,g,d,t,os⟩:=s;have L0:Looks (model prog w) hh (typeOf (.ref a)) (.ref C):=hc ▸ (Looks.ld hx).andThen .now;have L1:=looks_findIn (M:=model prog w) X hga;have L2:=looks_findIn (M:=model prog w) X hgn;have L5:=looks_mroIn (M:=model prog w) X hm;have L3:Looks (model prog w) hh (Builtin.ObjectAttr.find (.ref a) (.ref C) "__class__") (.bind (.builtin "getset_descriptor.__get__") (.builtin "object.__class__")):=by
  refine(looks_findIn X hA).andThen ((looks_specialIn X hG:Looks (model prog w) hh (Builtin.ObjectAttr.getOf (some (.builtin "object.__class__"))) _).andThen ?_);refine((looks_takesIn X hT).andThen .now:Looks (model prog w) hh (Builtin.ObjectAttr.dataDescriptor? (some (.builtin "object.__class__")) (some (.builtin "getset_descriptor.__get__"))) (some (.builtin "getset_descriptor.__get__",.builtin "object.__class__"))).andThen ?_;exact Looks.tag .now
 have L4:=looks_mroIn (M:=model prog w) X hmB;have hx2:(Value.builtin "BaseException.__getattribute__" == Value.builtin "object.__getattribute__")=false:=by decide +kernel
 unfold getAttr? getAttrBy? getAttrBy;refine af (wpAny_mkText (af (lJ (eD (af (L0.at (af (L1.at ?_))))))));dsimp only;rw [if_neg (by rw [hx2]; simp)];unfold getAttrByItsOwn hookBefore callGetattribute;have f3:=FB.ga.bind (.ref a);have fin:xY (model prog w) A (.call (.builtin "BaseException.__getattribute__") ⟨[.ref a,.str "__class__" t],[]⟩) (fun r s'=>r=.ok (.ret (.ref C))/\s'=⟨hh,g,d,t+1,os⟩) ⟨hh,g,d,t+1,os⟩:=by
  refine B8 FB.ga.plain F.entry_bexc_ga ?_;have hk:builtinKind "BaseException.__getattribute__" = some .slot:=by decide +kernel
  have XH:splitId "BaseException.__getattribute__" = some ("BaseException","__getattribute__"):=by decide +kernel
  have ha:=F.args_bexc_ga (.ref a) (.str "__class__" t);have LI:Looks (model prog w) hh (isInstance (.ref a) (.type "BaseException")) true:=L0.andThen L4;simp only [checkBuiltinCall,hk,XH];refine af (LI.at ?_);simp only [bG,aC,if_false];have body:wpAny (model prog w) A.in1 (Builtin.«object.__getattribute__» ⟨[.ref a,.str "__class__" t],[]⟩)
    (fun fin s'=>fin=.done (.ret (.ref C))/\s'=⟨hh,g,d,t+1,os⟩) (fun _ _=>False) ⟨hh,g,d,t+1,os⟩:=by
   unfold Builtin.«object.__getattribute__»;refine af (aq ?_);refine af (aq ?_);refine af (L0.at (af (L3.at ?_)));show wpAny _ _ (Builtin.ObjectAttr.bindTo (.builtin "getset_descriptor.__get__") (.builtin "object.__class__") (.ref a) (.ref C)) _ _ _;show wpAny _ _ (do let v ← JO [.builtin "object.__class__"] (call (.builtin "getset_descriptor.__get__") [.builtin "object.__class__",.ref a,.ref C]); ret v) _ _ _;refine af (eD (JK ?_));refine B8 KF.slot_gs.plain KF.entry_gs (KF.slot_gs.check _ _ _ _ _ _ _ _ KF.type_class (KF.args_gs _ _ _) ?_);unfold Builtin.«getset_descriptor.__get__» descrGet;rw [dga_obj];refine af (aq ?_);unfold descrGetter descrCheckInstance descrNameAndClass isInstance;simp only [KF.owner_class]
   repeat lk
   refine⟨Code.quiet_builtin _ (by decide +kernel),k6 KF.entry_class ?_⟩;unfold Builtin.«object.__class__» shownTypeOf
   repeat lk
   exact⟨rfl,rfl⟩
  have go:∀ z:Sem Unit,z=pure ()->∀ (P:Unit->az->Prop) (E':Value->az->Prop) s',P () s'->wpAny (model prog w) A.in1 z P E' s':=fun z e P E' s' hp=>by rw [e]; exact aq hp
  refine go _ ha _ _ _ (jq body ?_ (fun _ _ z=>z.elim));rintro fin s' ⟨e1,e2⟩;subst e1; exact⟨rfl,e2⟩
 refine af (L2.at (af (lJ (eD ?_))));simp only [sk,aC,if_false];unfold boundAndCalled;rw [f3];refine af (aq (JK (p9 fin ?_)));rintro r s' ⟨e1,e2⟩;subst e1; subst e2;exact aq (aq h)
structure vb(K:ak)(C:Addr):Prop where
 ga:findIn K (.ref C) "__getattribute__" = some (some (.builtin "BaseException.__getattribute__"))
 gn:findIn K (.ref C) "__getattr__" = some none
 Gv:findIn K (.ref C) "__class__" = some (some (.builtin "object.__class__"))
 sp:specialIn K (.builtin "object.__class__") "__get__" = some (some (.builtin "getset_descriptor.__get__"))
 tk:takesIn K (.builtin "object.__class__")=some true
 mo:mroIn K C (.type "object")=some true
 mb:mroIn K C (.type "BaseException")=some true
 is:(clsIn K C).isSome=true
theorem RB{B:String}{Gu:List Value}(FB:ExcAttrBase B Gu)(Z:vb K C):KitX K (.ref a) (.ref C) (fun h=>∃ o,h.get? a=some o/\o.cls=.ref C) where
 ty:=by rintro M h _ ⟨o,hx,hc⟩; exact hc ▸ (Looks.ld hx).andThen .now
 it:=fun M h X _=>by
  have XY:=Z.is;unfold clsIn at XY;split at XY
  ·rename_i ho;intro A' Q' E' s' k q;unfold isType loadHead;exact af (wpAny_loadPart (k _ _ (X _ _ ho)) (aq q))
  ·cases XY
 ne:=fun h tp dd bH n sl X htp=>by
  have XY:=Z.is;refine Bool.eq_false_iff.mpr fun q=>?_;have e:C=tp:=Value.ref.inj (beq_iff_eq.mp q);subst e;unfold clsIn at XY;split at XY
  ·rename_i ho;have z:=(X _ _ ho).symm.trans htp;cases z
  ·cases XY
 ca:=fun X ⟨o,hx,hc⟩ k=>Vn FB X hx hc Z.ga Z.gn Z.Gv Z.sp Z.tk Z.mo Z.mb k
end
end K2
end
section
namespace K2
open PySem PySem.Spec PyProof.Rows L2
theorem FK{P:Str->Prop}:∀ c,([]:List Str).contains c=true->P c:=fun c h=>by simp at h
theorem qy{l:List Str}{P:Str->Prop}{x:Str}(h:P x)(t:∀ c,l.contains c=true->P c):∀ c,(x :: l).contains c=true->P c:=fun c hc=>by
 rw [rZ,qF] at hc;rcases hc with hc | hc
 ·rw [beq_iff_eq.mp hc]; exact h
 ·exact t c hc
section
variable {X:Cx} {a:Expr} {ta:gN} {p pos:Pos} {B:String} {Gu:List Value} {all sub:List Str}
theorem Hy {y:Str} {py:Pos} {C:Addr} (FB:ExcAttrBase B Gu) (hg:Gl X "isinstance") (hm:X.mg "isinstance" = none) (hgC:Gl X y) (hmC:X.mg y=some (.ref C)) (adL:dN X.K (.type "NoneType") (.ref C)=some false)
  (ad1:∀ c,all.contains c=true->∃ C',cJ X.K bP c=some (some (.ref C'))/\dN X.K (.ref C') (.ref C)=some (sub.contains c)/\vb X.K C') (ha:ia X a ta) (Co:(y == ("__debug__" : Str))=false:=by decide)
  (he:bJ [a,.Name y py] X.env=(false,eval a X.env) :: bJ [.Name y py] X.env:=by rfl) (Bt:(iT pos (bJ [Expr.Name y py] X.env)).any (·.1)=false:=by rfl) (XW:bJ [.Name y py] X.env=[(false,eval (.Name y py) X.env)]:=by rfl) :
  ia X (.Call (.Name "isinstance" p) [a,.Name y py] [] pos) (IS all sub ta):=by
 intro E ZB s σ H τ G Q hE I h;refine dZ (lY I.inv hg hm zA ?_);refine iD ?_ he Bt;rw [he];show wpAny _ _ (xX ((false,eval a X.env) :: iT pos (bJ [.Name y py] X.env))) _ _ s;refine fV (kU ha hE I h fun v H1 d G1 u s1 I1 m1 r1 j6 q1=>?_);rw [XW];show wpAny _ _ (xX [(false,eval (.Name y py) X.env)]) _ _ s1;refine fV (pE I1.inv hgC hmC (nH ?_) Co);have fin:∀ b tk,Q (.bl b) G1->sr X ZB σ H G Q (.bool b) { s1 with toks:=tk }:=fun b tk q =>
  ⟨.bl b,H1,.bl b,G1,I1.inv.tok _,m1,rfl,.bl b,q⟩
 cases j6 with
 | dh =>
  cases r1;exact g7 T7 I1.inv.B5 i4 adL (fun z=>nomatch z) fun tk=>fin false tk q1
 | exc h0 =>
  cases r1;obtain⟨o,C',e1,e2,e3⟩:=h0;obtain⟨rn,q2⟩:=q1;obtain⟨C2,e4,k1,k2⟩:=ad1 _ rn;rw [e3] at e4;cases e4;exact g7 (RB FB k2) I1.inv.B5 ⟨o,(I1.inv.cB _ _ e1).1,e2⟩ k1 (fun z=>nomatch z) fun tk=>fin _ tk q2
 | _=>exact q1.elim
end
end K2
end
section
namespace K2
open PySem PySem.Spec PyProof.Rows L2
section
variable {X:Cx} {e:Expr} {te:gN} {pos:Pos}
theorem kQ{i:Nat}{x:Str}{pos':Pos}(hN:X.N.Nodup)(hi:X.N[i]?=some x)(he:ia X e te)(hx:autoParam (Loc X.env.scope x) Ao._auto_1)(hs:Aq e (some (.Name x pos')) pos.line X.env=pure false:=by rfl)(hf:autoParam (X.fn x=true\/X.env.scope.names.lookup x=some .local) Ao._auto_1) :
  Gx X (.Assign [.Name x pos'] e pos) (bM te (aJ i)):=UL hN hi hx he hs hf
theorem kW{i:Nat}{x:Str}(hN:X.N.Nodup)(hi:X.N[i]?=some x)(hx:autoParam (Loc X.env.scope x) Ao._auto_1)(hf:autoParam (X.fn x=true\/X.env.scope.names.lookup x=some .local) Ao._auto_1):PZ X (.Name x pos) (aJ i):=Q8 hN hi hx hf
theorem so{P:bT}{w:World}{K:ak}{mg:Str->Option Value}{base:Heap}{x qual:Str}{st:Stmt}{f:Addr}{fd:aG}{Nn ps:List Str}{k:Nat}{sp:mw}{rd:iC}(F:oj K x qual st f fd)(S:cx Nn ps (aT st))
  (hr:∀ ds G Q,sp ds G Q (fun _ _=>False)->rd (fun _ _=>False) (ends Q) (bC Nn.length ds) G)
  (hb:∀ (oh:Value) (A:eu) (outer:List Env) (s:az) (H:Hp) (E:XK),lM k (A.deeper (Au qual (aT st) s.heap.objs.size f oh))->vT (yP gP P w K mg base Nn qual (aT st) f oh A outer s H E).Yz (jQ st) rd)
  (len:autoParam (∀ ds G Q E,sp ds G Q E->ds.length=ps.length) Al._auto_1):gf P w K mg base gP (k+1) f fd ps (cX K sp):=Vj F S len hr hb
theorem foX{P:bT}{w:World}{K:ak}{mg:Str->Option Value}{base:Heap}{x qual:Str}{st:Stmt}{f:Addr}{fd:aG}{Nn ps:List Str}{k:Nat}{sp:mw}{rd:iC}(F:oj K x qual st f fd)(S:cx Nn ps (aT st))
  (hr:∀ ds G Q E,sp ds G Q E->rd E (ends Q) (bC Nn.length ds) G)
  (hb:∀ (oh:Value) (A:eu) (outer:List Env) (s:az) (H:Hp) (E:XK),lM k (A.deeper (Au qual (aT st) s.heap.objs.size f oh))->vT (yP (L9 P w) P w K mg base Nn qual (aT st) f oh A outer s H E) (jQ st) rd)
  (len:autoParam (∀ ds G Q E,sp ds G Q E->ds.length=ps.length) Al._auto_1):gf P w K mg base (L9 P w) (k+1) f fd ps (uR K mg sp):=Vi F S len hr hb
theorem rO{N ps:List Str}{sc:Scope}(h1:sc.kind=.function:=by rfl)(h2:sc.isCoroutine=false:=by rfl)(h3:sc.isGenerator=false:=by rfl)(h4:N.Nodup:=by decide +kernel)(h5:N.take ps.length=ps:=by rfl)
  (h6:∀ x∈ps,sc.names.lookup x=some .local\/sc.names.lookup x=some .cell:=by decide +kernel) (h7:∀ y∈sc.names,y.2≠.free:=by decide +kernel):cx N ps sc:=⟨h1,h2,h3,h4,h5,h6,h7⟩
end
end K2
end
section
namespace K2
open PySem PySem.Spec PyProof.Rows L2
section
variable {X:Cx} {a b c:Expr} {ta tb tc:gN} {pos:Pos}
theorem MV {x:Str} {i:Int} {t:Tok} {p:Pos} (hg:Gl X x) (hm:X.mg x=some (.int i t)) (hd:(x == ("__debug__" : Str))=false:=by decide):ia X (.Name x p) (dC (.int i)):=qi (UO (v:=.int i) hg hm ⟨t,rfl⟩ hd) fun _ _=>.int i
theorem OE{op op':CmpOp}{r r':B7}(ho:o3 X (eO op) r)(OX:o3 X (eO op') r')(ha:ia X a ta)(hb:ia X b tb)(hc:ia X c tc)
  (hm:autoParam (lastMarks [op,op'] [b,c]=false) Aw._auto_1):ia X (.Compare a [op,op'] [b,c] pos) (LL r r' ta tb tc):=by
 intro E ZB s σ H τ G Q hE I h;refine Compare_chain (kU ha hE I h fun x H1 dx G1 v s1 I1 m1 r1 j6 q1=>chain_link (kU hb hE I1 q1 fun y H2 dy G2 u s2 nV m2 r2 zV q2=>?_)) hm;refine g6 (ho ZB s2 σ H2 G2 x y dx dy v u _ nV.inv nV.ab r1 r2 (j6.mono (m2.kp I1.ab)) zV q2) fun d s3 z=>?_;obtain⟨z,H3,dz,G3,I3,m3,r3,WU,k,e,q3⟩:=z;subst e;cases WU;cases r3;have ZR:=(m1.trans m2).trans m3;refine pN ?_;cases k with
 | false=>exact ite_ff ⟨.bl false,H3,.bl false,G3,I3,ZR,rfl,.bl _,q3⟩
 | true =>
  have J3:I2 X ZB σ H3 τ G3 s3:=nV.mv I3 m3;refine ite_tt (chain_last (kU hc hE J3 q3 fun w' H4 dw G4 u4 s4 I4 m4 r4 rd4 q4=>?_));exact g6 (OX ZB s4 σ H4 G4 y w' dy dw u u4 Q I4.inv I4.ab r2 r4 ((zV.mono (m3.kp nV.ab)).mono (m4.kp J3.ab)) rd4 q4) fun _ _ z=>z.trans (ZR.trans m4)
end
end K2
end
section
namespace K2
open PySem PySem.Spec PyProof.Rows L2
theorem uG{α:Type}{us:List α}(h:us.length=1):∃ a,us=[a]:=List.length_eq_one_iff.mp h
theorem Xx{α:Type}{us:List α}{n:Nat}(h:us.length=n+1):∃ a t,us=a :: t/\t.length=n:=by
 cases us with
 | nil=>cases h
 | cons a t=>exact⟨a,t,rfl,Nat.succ.inj h⟩
theorem yv{α:Type}{us:List α}(h:us.length=2):∃ a b,us=[a,b]:=by
 obtain⟨a,t,rfl,h2⟩:=Xx h; obtain⟨b,rfl⟩:=uG h2; exact⟨a,b,rfl⟩
theorem HL{α:Type}{us:List α}(h:us.length=3):∃ a b c,us=[a,b,c]:=by
 obtain⟨a,t,rfl,h2⟩:=Xx h; obtain⟨b,c,rfl⟩:=yv h2; exact⟨a,b,c,rfl⟩
theorem Xy{α:Type}{us:List α}(h:us.length=4):∃ a b c d,us=[a,b,c,d]:=by
 obtain⟨a,t,rfl,h2⟩:=Xx h; obtain⟨b,c,d,rfl⟩:=HL h2; exact⟨a,b,c,d,rfl⟩
end K2
end
section
namespace K2.S
open PySem PySem.Spec PyProof.Rows L2 PySem.SetTable
section
variable {prog:bT} {w:World} {A:eu} {E:Value->az->Prop} {s:az}
abbrev TK(prog:bT)(w:World):HeapKind prog w (List Key):=eM (cA prog w)
theorem Nb{h h':Heap}{k:List Key}{b:Addr}(x:(TK prog w).is h k b)(e:∀ o,h.get? b=some o->h'.get? b=some o):(TK prog w).is h' k b:=by
 obtain⟨o,W1,n,ho,r⟩:=x;exact⟨o,W1,n,e o ho,r⟩
theorem Ld{h:Heap}{k k':List Key}{b:Addr}(x:(TK prog w).is h k b)(y:(TK prog w).is h k' b):k=k':=(TK prog w).inj x y
def To(B:Addr->Prop)(prog:bT)(w:World)(h:Heap)(es:En)(ks:List (List Key)):Prop :=
 ks.length=es.size/\∀ (i:Nat) (e:Int×Value),es[i]?=some e->∃ (k:List Key) (b:Addr),ks[i]?=some k/\e.2=.ref b/\(TK prog w).is h k b/\e.1=(TK prog w).hash k/\B b
theorem sG{a:Addr}{o:Obj}{es:En}{ep:Nat}{t:iU}{Q:(En×Nat×iU)->az->Prop}(ho:s.heap.get? a=some o)(hd:o.data=.set es ep t)(O:VH t es)(h:Q (es,ep,t) s) :
  wpAny (model prog w) A (setState a) Q E s :=
 pO ho hd (by unfold SetTable.fits Jr; rw [O.sz,O.dm]; have:=O.nE; have:=O.sz; simp; lia) h
theorem IY(n:Nat){v:Value}(h:CO v=true):v5 n v=pure false:=by
 cases v <;> first | (unfold v5; rfl) | (exact bB (show false=true from h))
theorem Qm{k:List Key}{b:Addr}(hx:(TK prog w).is s.heap k b){Q:Bool->az->Prop}(h:Q false s):wpAny (model prog w) A (v5 8 (.ref b)) Q E s:=by
 have hT:s.TypeIs (.ref b) "tuple":=yV hx;obtain⟨o,W1,n,ho,_,hd,hi⟩:=hx;unfold v5;refine af (Mb hT ?_);dsimp only;rw [if_pos (beq_self_eq_true _)];refine af (aq ?_);rw [if_neg (by intro z; cases z)];refine af (wpAny_seqItems ho hd ?_);dsimp only;refine af ?_;show wpAny _ _ (forIn W1 _ _) _ _ s;rw [<-Ay];refine j9 _ (fun rest r s'=>r.1=none/\s'=s/\∀ v∈rest,CO v=true) _ ?_ ?_ _ _ ⟨rfl,rfl,hi.byValue⟩
 ·rintro v rest r s' ⟨hr,rfl,rn⟩;rw [IY _ (rn v aA)];refine af (aq ?_);rw [if_neg (by intro z; cases z)];exact aq ⟨rfl,rfl,fun u Ac=>rn u (ax _ Ac)⟩
 ·rintro⟨r1,r2⟩ s' ⟨hr,rfl,_⟩;simp only at hr;subst hr;exact aq h
theorem NZ{x:Value}{k:List Key}{b:Addr}(ex:x=.ref b)(hx:(TK prog w).is s.heap k b){l:List Value}(hl:∀ y∈l,∃ k' b',y=.ref b'/\(TK prog w).is s.heap k' b'){Q:Bool->az->Prop}(h:Q false s) :
  wpAny (model prog w) A (JM x l) Q E s:=by
 subst ex;unfold JM;refine af ?_;refine j9 _ (fun rest r s'=>r.1=none/\s'=s/\∀ y∈rest,∃ k' b',y=.ref b'/\(TK prog w).is s.heap k' b') _ ?_ ?_ _ _ ⟨rfl,rfl,hl⟩
 ·rintro v rest r s' ⟨hr,rfl,rn⟩;obtain⟨k',b',rfl,hv⟩:=rn v aA;have go:∀ y∈rest,∃ k' b',y=.ref b'/\(TK prog w).is s'.heap k' b':=fun u Ac=>rn u (ax _ Ac);dsimp only;by_cases c:(b == b'||CO (.ref b)&&CO (.ref b'))=true
  ·rw [if_pos c]; exact aq ⟨rfl,rfl,go⟩
  ·rw [if_neg c];refine af (wpAny_eqIsQuiet_tuple hx ?_);rw [if_neg (by intro z; cases z)];refine af (wpAny_eqIsQuiet_tuple hv ?_);rw [if_neg (by intro z; cases z)];refine af (Qm hx ?_);rw [if_neg (by intro z; cases z)];refine af (Qm hv ?_);rw [if_neg (by intro z; cases z)];exact aq ⟨rfl,rfl,go⟩
 ·rintro⟨r1,r2⟩ s' ⟨hr,rfl,_⟩;simp only at hr;subst hr;exact aq h
theorem CU{a:Addr}{o:Obj}{es:En}{ep:Nat}{t:iU}{ks:List (List Key)}{k:List Key}{b:Addr}(hu:(TK prog w).room A)(ho:s.heap.get? a=some o)(hd:o.data=.set es ep t)(O:VH t es){B:Addr->Prop}(M:To B prog w s.heap es ks)(hx:(TK prog w).is s.heap k b)
  {N:Nat} (h1:¬ Full t.place (fq t.mask N (probeStart t ((TK prog w).hash k))).j) (h2:∀ n,n < N->Full t.place (fq t.mask n (probeStart t ((TK prog w).hash k))).j) {Q:SetFound->az->Prop}
  (yes:k∈ks->Q (.there none) s) (no:k∉ks->Q (.free (fq t.mask N (probeStart t ((TK prog w).hash k))).j false) s) :
  ∀ (fuel n:Nat) (st:Option Probe),N - n < fuel->n<=N->st.getD (probeStart t ((TK prog w).hash k))=fq t.mask n (probeStart t ((TK prog w).hash k)) ->
   (∀ n',n' < n->∀ i,i < t.place.size->t.place.getD i 0=(fq t.mask n' (probeStart t ((TK prog w).hash k))).j->ks[i]?≠some k) ->
   wpAny (model prog w) A (setSearchFrom a (.ref b) ((TK prog w).hash k) true fuel st) Q E s
 | 0,n,st,hf,_,_,_=>absurd hf (cF _)
 | fuel+1,n,st,hf,hn,zI,past=>by
  generalize hh:(TK prog w).hash k=h at *;show wpAny _ _ (setState a >>= _) _ _ s;refine af (sG ho hd O ?_);dsimp only;have gw:t.gaveWay=false:=by
   unfold SetTable.gaveWay;rcases O.ms with e | e | e <;> rw [e] <;> rfl
  rw [gw,if_neg (by intro z; cases z),zI];have pb:Pb t.mask (fq t.mask n (probeStart t h)):=Pb.fq n (Pb.start t h);obtain⟨N',hN',hf',_⟩:=BA O _ pb;obtain⟨n1,met,g,ba,fin⟩:=Hx O.up O.dm (S.hk es) h (10 * turns t.mask) _ pb ⟨N',hN',hf'⟩;rw [show fq t.mask n1 (fq t.mask n (probeStart t h))=fq t.mask (n+n1) (probeStart t h) from(ka _ _ _ _).symm,show fq t.mask (n1+1) (fq t.mask n (probeStart t h))=fq t.mask (n+n1+1) (probeStart t h) from(ka _ n (n1+1) _).symm] at fin;generalize hP:t.probe _ h (fq t.mask n (probeStart t h))=P;have eP:P=some met:=hP.symm.trans g;subst eP;dsimp only;have le:n+n1<=N:=by
   apply bZ;intro z;obtain⟨i,hi,e,_⟩:=ba (N - n) (by lia);rw [<-ka,show n+(N - n)=N by lia] at e;exact h1 ⟨i,hi,e⟩
  have Vd:∀ i,i < t.place.size->ks[i]?=some k->S.hk es i=h:=by
   intro i hi e;have B6:i < es.size:=by rw [<-O.sz]; exact hi
   obtain⟨k',b',q1,_,_,q4⟩:=M.2 i _ (bb B6);rw [e] at q1; cases q1;unfold S.hk;rw [bb B6,<-hh]; exact q4.1
  have VR:∀ n',n' < n+n1->∀ i,i < t.place.size->t.place.getD i 0=(fq t.mask n' (probeStart t h)).j->ks[i]?≠some k:=by
   intro n' Li i hi e ek;by_cases c:n' < n
   ·exact past n' c i hi e ek
   ·obtain⟨i',B6,e',ne⟩:=ba (n' - n) (by lia);rw [<-ka,show n+(n' - n)=n' by lia] at e';have:=O.up.inj hi B6 (e.trans e'.symm);subst this;exact ne (Vd i hi ek)
  rcases fin with ⟨nf,rfl⟩ | ⟨i,hi,pi,afx,rfl⟩
  ·have eN:n+n1=N:=by
    by_cases c:n+n1 < N
    ·exact absurd (h2 _ c) nf
    ·lia
   rw [eN];dsimp only;refine aq (no fun hk=>?_);obtain⟨i,hi,e⟩:=c8 hk;have ek:ks[i]?=some k:=by rw [ah hi,e]
   have B6:i < t.place.size:=by rw [O.sz,<-M.1]; exact hi
   obtain⟨n0,w1,w2⟩:=O.way i B6;rw [Vd i B6 ek] at w1 w2;have lt:n0 < N:=by
    apply bZ;intro z;by_cases c:n0=N
    ·subst c; exact h1 ⟨i,B6,w1.symm⟩
    ·exact h1 (w2 N (by lia))
   exact VR n0 (by lia) i B6 w1.symm ek
  ·have B6:i < es.size:=by rw [<-O.sz]; exact hi
   obtain⟨k',b',q1,q2,q3,q4⟩:=M.2 i _ (bb B6);have nN:n+n1≠N:=fun z=>h1 ⟨i,hi,by rw [<-z]; exact pi⟩;have red:∀ (l:List Value) (m:Sem SetFound),(∀ y∈l,∃ k' b',y=.ref b'/\(TK prog w).is s.heap k' b')->wpAny (model prog w) A m Q E s ->
     wpAny (model prog w) A (if (!t.led)=true then (JM (.ref b) l >>= fun r=>if r=true then ((P2 "set:the-search-would-show-the-table" : Sem PUnit) >>= fun _=>m) else m) else m) Q E s:=by
    intro l m hl hm;cases t.led with
    | true=>rw [if_neg (by intro z; cases z)]; exact hm
    | false =>
     rw [if_pos (show (!false)=true from rfl)];refine af (NZ rfl hx hl ?_);rw [if_neg (by intro z; cases z)]; exact hm
   refine red _ _ (fun y hy=>?_) ?_
   ·obtain⟨e,he,rfl⟩:=List.mem_map.mp hy;rw [Uj] at he;have he:=(List.mem_filter.mp he).1;obtain⟨m,hm,em⟩:=c8 he;obtain⟨k2,b2,_,z2,z3,_⟩:=M.2 m e (by rw [<-cL,ah hm,em]);exact⟨k2,b2,z2,z3⟩
   ·rw [bb B6];generalize he0:es[i]=e0 at q2 q4 ⊢;obtain⟨h0,y⟩:=e0;have q2:y=.ref b':=q2;subst q2;dsimp only;refine af (eD ((TK prog w).eqBool hu q3 hx ?_));refine af (sG ho hd O ?_);dsimp only;by_cases c:k'=k
    ·rw [decide_eq_true c,if_pos (show (true&&true)=true from rfl)];subst c;exact aq (yes (dJ q1))
    ·rw [decide_eq_false c,if_neg (by intro z; cases z)];have sm:t.sameMemory t.moves t.mask=some true:=by unfold SetTable.sameMemory; rw [if_pos (beq_self_eq_true _)]
     rw [sm];dsimp only;rw [if_pos (show true=true from rfl),show t.slot (fq t.mask (n+n1) (probeStart t h)).j=.live i from pi ▸ C3 O.up hi];dsimp only;rw [bb B6,he0];dsimp only;refine af ?_;unfold isSame;dsimp only;rw [if_pos (beq_self_eq_true b')];refine aq (af (aq ?_));rw [if_pos (show true=true from rfl)];dsimp only;rw [if_neg (by intro z; cases z)];have Zn:=CU hu ho hd O M hx (N:=N) (Q:=Q) (by rw [hh]; exact h1) (by rw [hh]; exact h2) yes (by rw [hh]; exact no) fuel (n+n1+1) (some (fq t.mask (n+n1+1) (probeStart t h)));rw [hh] at Zn;refine Zn (by lia) (by lia) rfl fun n' Li i2 O1 e2 ek=>?_;by_cases c2:n' < n+n1
     ·exact VR n' c2 i2 O1 e2 ek
     ·have:n'=n+n1:=by lia
      subst this;have:=O.up.inj O1 hi (e2.trans pi.symm);subst this;rw [q1] at ek; cases ek; exact c rfl
end
end K2.S
end
section
namespace K2.S
open PySem PySem.Spec PyProof.Rows L2 PySem.SetTable
section
variable {B:Addr->Prop} {prog:bT} {w:World} {A:eu} {E:Value->az->Prop} {s:az}
theorem To.keep{h h':Heap}{es:En}{ks:List (List Key)}(M:To B prog w h es ks)(e:∀ b o,B b->h.get? b=some o->(∃ W1 n,o.data=.seq W1 n)->h'.get? b=some o):To B prog w h' es ks:=by
 refine⟨M.1,fun i x hx=>?_⟩;obtain⟨k,b,q1,q2,q3,q4⟩:=M.2 i x hx;refine⟨k,b,q1,q2,?_,q4⟩;obtain⟨o,W1,n,ho,hc,hd,r⟩:=q3;exact⟨o,W1,n,e b o q4.2 ho ⟨W1,n,hd⟩,hc,hd,r⟩
theorem To.perm{h:Heap}{es es':En}{ks:List (List Key)}(M:To B prog w h es ks)(p:List.Perm es'.toList es.toList):∃ PT,To B prog w h es' PT/\PT.Perm ks:=by
 classical
 let Kf:Int×Value->List Key:=fun e=>if z:∃ k,∃ b,e.2=.ref b/\(TK prog w).is h k b then Tu z else []
 have at_:∀ e∈es.toList,∃ b,e.2=.ref b/\(TK prog w).is h (Kf e) b/\e.1=(TK prog w).hash (Kf e)/\B b:=by
  intro e he;obtain⟨i,hi,ei⟩:=c8 he;obtain⟨k,b,q1,q2,q3,q4⟩:=M.2 i e (by rw [<-cL,ah hi,ei]);have z:∃ k,∃ b,e.2=.ref b/\(TK prog w).is h k b:=⟨k,b,q2,q3⟩;have ek:Kf e=Tu z:=dif_pos z;obtain⟨b2,e2,i2⟩:=Classical.choose_spec z;rw [q2] at e2;cases e2;have:=Ld q3 i2;rw [ek,<-this];exact⟨b,q2,q3,q4⟩
 have eks:ks=es.toList.map Kf:=by
  refine List.ext_getElem? fun i=>?_;rw [bu];by_cases hi:i < es.size
  ·obtain⟨k,b,q1,q2,q3,q4⟩:=M.2 i _ (bb hi);rw [q1,cL,bb hi];obtain⟨b2,z1,z2,_⟩:=at_ es[i] (Array.getElem_mem_toList hi);rw [q2] at z1; cases z1;rw [Ld q3 z2]; rfl
  ·rw [dW (by rw [M.1]; lia),cL,iq (by lia)]; rfl
 refine⟨es'.toList.map Kf,⟨by rw [ag,bz],fun i e he=>?_⟩,by rw [eks]; exact p.map _⟩;have hm:e∈es'.toList:=dJ (by rw [cL]; exact he);obtain⟨b,z1,z2,z3⟩:=at_ e (p.mem_iff.mp hm);exact⟨Kf e,b,by rw [bu,cL,he]; rfl,z1,z2,z3⟩
theorem To.ins{h:Heap}{es:En}{ks:List (List Key)}(M:To B prog w h es ks){k:List Key}{b:Addr}(hx:(TK prog w).is h k b)(hB:B b){p:Nat}(hp:p<=es.size) :
  To B prog w h (insertAt es p ((TK prog w).hash k,.ref b)) (ks.take p++k :: ks.drop p):=by
 have lk:(ks.take p).length=p:=by rw [eA,M.1]; lia
 refine⟨by rw [aw,aj,lk,c6,iY _ _ _ hp,M.1]; lia,fun i e he=>?_⟩;rw [xa _ _ _ hp] at he;by_cases c:i < p
 ·rw [if_pos c] at he;obtain⟨k',b',q⟩:=M.2 i e he;exact⟨k',b',by rw [dG (by lia),lP c]; exact q.1,q.2⟩
 ·rw [if_neg c] at he;by_cases d:i=p
  ·rw [if_pos d] at he;cases he;exact⟨k,b,by rw [cE (by lia),lk,d,Gh]; rfl,rfl,hx,rfl,hB⟩
  ·rw [if_neg d] at he;obtain⟨k',b',q⟩:=M.2 (i - 1) e he;exact⟨k',b',by rw [cE (by lia),lk,show i - p=(i - p - 1)+1 by lia,ae,B0,show p+(i - p - 1)=i - 1 by lia]; exact q.1,q.2⟩
def L6(k:List Key):Prop:=∀ x∈k,∃ i,x=D0 i
def Tf(B:Addr->Prop)(prog:bT)(w:World)(h:Heap)(a:Addr)(led:Bool)(ks:List (List Key)):Prop :=
 ∃ o es ep t,h.get? a=some o/\o.ExactSet/\o.data=.set es ep t/\VH t es/\t.tooFull=false/\t.led=led/\((∀ k∈ks,L6 k)->t.plain=true)/\To B prog w h es ks
theorem int_at{k:List Key}{vs:List Value}(hi:ItemsAre (cA prog w) k vs)(c:L6 k){v:Value}(hv:v∈vs):∃ t:Int×Tok,v=.int t.1 t.2:=by
 induction hi with
 | nil=>cases hv
 | cons h _ ih =>
  rcases List.mem_cons.mp hv with e | hv
  ·subst e;obtain⟨i,rfl⟩:=c _ aA;rcases fD (k:=.inl i) h with ⟨j,t,e,rfl⟩ | ⟨_,_,e,_⟩
   ·exact⟨(j,t),rfl⟩
   ·cases e
  ·exact ih (fun x hx=>c x (ax _ hx)) hv
theorem Wl{k:List Key}{b:Addr}(hx:(TK prog w).is s.heap k b){Q:Bool->az->Prop}(h:∀ r,(L6 k->r=true)->Q r s):wpAny (model prog w) A (P7 8 (.ref b)) Q E s:=by
 have hT:s.TypeIs (.ref b) "tuple":=yV hx;obtain⟨o,W1,n,ho,_,hd,hi⟩:=hx;unfold P7;refine af (An hT F.slot_tuple_hash.lookup ?_);show wpAny _ _ (seqItems? (.ref b) >>= _) _ _ s;refine af (wpAny_seqItems ho hd ?_);refine af ?_;show wpAny _ _ (forIn W1 _ _) _ _ s;rw [<-Ay];have hb:∀ v∈W1.toList,∃ r,P7 7 v=pure r/\(L6 k->r=true):=by
  intro v hv0;by_cases c:L6 k
  ·obtain⟨t,e⟩:=int_at hi c hv0;subst e;exact⟨true,rfl,fun _=>rfl⟩
  ·have hv:=hi.byValue v hv0;cases v <;> first | exact⟨_,rfl,fun z=>absurd z c⟩ | (exact bB (show false=true from hv))
 refine j9 _ (fun rest r s'=>r.1=none/\s'=s/\∀ v∈rest,∃ r,P7 7 v=pure r/\(L6 k->r=true)) _ ?_ ?_ _ _ ⟨rfl,rfl,hb⟩
 ·rintro v rest r s' ⟨hr,rfl,rn⟩;obtain⟨x,hv,hx1⟩:=rn v aA;rw [hv];refine af (aq ?_);cases x with
  | true =>
   rw [if_neg (by intro z; cases z)];exact aq ⟨rfl,rfl,fun u Ac=>rn u (ax _ Ac)⟩
  | false =>
   rw [if_pos (show (!false)=true from rfl)];exact aq (aq (h _ hx1))
 ·rintro⟨r1,r2⟩ s' ⟨hr,rfl,_⟩;simp only at hr;subst hr;exact aq (h _ fun _=>rfl)
theorem Qt{m n:Nat}(hm:Mk m)(h1:¬ n * 5>=m * 3)(h2:(n+1) * 5>=m * 3)(h3:n < 76):Mk (sizeAbove (grown (n+1)) - 1)/\n+1<=sizeAbove (grown (n+1)) - 1/\¬ (n+1) * 5>=(sizeAbove (grown (n+1)) - 1) * 3/\sizeAbove (grown (n+1))<=128:=by
 rcases hm with rfl | rfl | rfl
 ·have:n=4:=by lia
  subst this;exact⟨.inr (.inl (by decide)),by decide,by decide,by decide⟩
 ·have:n=18:=by lia
  subst this;exact⟨.inr (.inr (by decide)),by decide,by decide,by decide⟩
 ·lia
end
end K2.S
end
section
namespace K2.S
open PySem PySem.Spec PyProof.Rows L2 PySem.SetTable
section
variable {B:Addr->Prop} {prog:bT} {w:World} {A:eu} {E:Value->az->Prop} {s:az}
theorem QI{m i:Nat}(h:i < m+1):i+(runEnd m i - i)<=m:=by
 unfold runEnd; split <;> lia
theorem Za{m:Nat}{p:Probe}(h:p.j+p.more<=m):(mR m p).j+(mR m p).more<=m:=by
 unfold mR;by_cases c:p.more > 0
 ·rw [if_pos c]; dsimp only; lia
 ·rw [if_neg c]; exact QI (kS _ (me m))
theorem Qv{m:Nat}:∀ (n:Nat) {p:Probe},p.j+p.more<=m->(fq m n p).j+(fq m n p).more<=m
 | 0,_,h=>h
 | n+1,_,h=>Qv n (Za h)
theorem MP{h:Heap}{a:Addr}{o:Obj}{es:En}{ep:Nat}{t:iU}(ho:h.get? a=some o)(hd:o.data=.set es ep t)(es':En)(t':iU) :
  (h.update a (ux es' t')).get? a=some { o with data:=.set es' (ep+1) t' }:=by
 have:=fN (ux es' t') ho (by rw [putSet_of es' t' hd]; rfl);rw [putSet_of es' t' hd] at this; exact this
theorem Ht{h:Heap}{a:Addr}{o:Obj}{es:En}{ep:Nat}{t:iU}(ho:h.get? a=some o)(hd:o.data=.set es ep t)(f:Obj->Obj):∀ b o',h.get? b=some o'->(∃ W1 n,o'.data=.seq W1 n)->(h.update a f).get? b=some o':=by
 rintro b o' e ⟨W1,n,q⟩;have nb:a≠b:=fun z=>by subst z; rw [ho] at e; cases e; rw [hd] at q; cases q
 exact(v3 _ _ nb).trans e
theorem Ff(t:iU)(dm:t.dummies=#[]):t.tooFull=decide (t.place.size * 5>=t.mask * 3):=by
 unfold SetTable.tooFull Jr; rw [dm]; rfl
theorem Wm{a:Addr}{led:Bool}{ks:List (List Key)}{k:List Key}{b:Addr}(hu:(TK prog w).room A)(hS:Tf B prog w s.heap a led ks)(hx:(TK prog w).is s.heap k b)(hB:B b)(nE:ks.length < 76){Q:Bool->az->Prop}
  (h:∀ h' PT r,(k∈ks->PT=ks)->(k∉ks->PT.Perm (k :: ks))->g8 a s.heap h'->Tf B prog w h' a led PT->Q r { s with heap:=h' }) :
  wpAny (model prog w) A (setAddHashed a (.ref b) ((TK prog w).hash k)) Q E s:=by
 obtain⟨o,es,ep,t,ho,hex,hd,O,nf,hl,RZ,M⟩:=hS;have hsz:es.size < 76:=by rw [<-M.1]; exact nE
 obtain⟨N,hN,h1,h2⟩:=BA O _ (Pb.start t ((TK prog w).hash k));have hN':N < 100000:=by
  have:t.mask<=127:=by rcases O.ms with e | e | e <;> lia
  unfold turns at hN; lia
 unfold setAddHashed setAddHashedIn;refine eD (af (sG ho hd O ?_));dsimp only;rw [show byScan (.ref b) es=false from rfl,if_neg (by intro z; cases z)];unfold setSearch;refine af (CU hu ho hd O M hx h1 h2 (fun hk=>?_) (fun hk=>?_) 100000 0 none (by lia) (cP _) rfl (fun n' z=>absurd z (cF _)))
 ·dsimp only;refine aq ?_;have e:s={ s with heap:=s.heap }:=by cases s; rfl
  rw [e];exact h s.heap ks false (fun _=>rfl) (fun z=>absurd hk z) (xV a s.heap) ⟨o,es,ep,t,ho,hex,hd,O,nf,hl,RZ,M⟩
 ·dsimp only;refine af (sG ho hd O ?_);dsimp only;rw [Ow t O.dm];dsimp only;obtain⟨j,ej⟩:∃ j,(fq t.mask N (probeStart t ((TK prog w).hash k))).j=j:=⟨_,rfl⟩;rw [ej];have hj:j<=t.mask:=by
   rw [<-ej];exact cw (gS _ _) (Qv N (QI (kS _ (me t.mask))))
  have nf':¬ t.place.size * 5>=t.mask * 3:=by rw [Ff t O.dm] at nf; exact of_decide_eq_false nf
  have room:t.place.size+1<=t.mask:=by rcases O.ms with e | e | e <;> lia
  have S8:below t.place j<=es.size:=by rw [<-O.sz]; exact(rJ O.up j).1
  have rest:∀ t':iU,t'.mask=t.mask->t'.dummies=t.dummies->t'.place=insertAt t.place (below t.place j) j->t'.led=t.led->((∀ x∈k :: ks,L6 x)->t'.plain=true) ->
    wpAny (model prog w) A (do
     storeSet a (insertAt es (below t.place j) ((TK prog w).hash k,.ref b)) t'
     if (!false&&t'.tooFull)=true then do
      setRelay a (grown (es.size+1))
      pure true
     else pure true) Q E s:=by
   intro t' e1 e2 e3 e4 e5;have O':VH t' (insertAt es (below t.place j) ((TK prog w).hash k,.ref b)):=by
    have:=O.add (x:=.ref b) h1 h2 (by rw [ej]; exact hj) room e1 e2 (by rw [ej]; exact e3);rw [ej] at this; exact this
   have M':=M.ins hx hB S8;have Wz:t'.place.size=es.size+1:=by rw [O'.sz,iY _ _ _ S8]
   have pk:(ks.take (below t.place j)++k :: ks.drop (below t.place j)).Perm (k :: ks):=by
    refine List.perm_middle.trans ?_;rw [gJ]
   refine af (wpAny_storeSet_of ho hd ?_ (by rw [iY _ _ _ S8,cC]; lia));have g1:=MP ho hd (insertAt es (below t.place j) ((TK prog w).hash k,.ref b)) t';have M1:=M'.keep (h':=s.heap.update a (ux (insertAt es (below t.place j) ((TK prog w).hash k,.ref b)) t')) (fun c o _=>Ht ho hd _ c o);have sb1:=cO s.heap a (ux (insertAt es (below t.place j) ((TK prog w).hash k,.ref b)) t');cases tf:t'.tooFull with
   | false =>
    rw [if_neg (by intro z; cases z)];exact aq (h _ _ true (fun z=>absurd z hk) (fun _=>pk) sb1 ⟨_,_,_,_,g1,hex,rfl,O',tf,e4.trans hl,fun z=>e5 fun x hx=>z x (pk.mem_iff.mpr hx),M1⟩)
   | true =>
    rw [if_pos (show (!false&&true)=true from rfl)];rw [Ff t' O'.dm,Wz,e1] at tf;obtain⟨m1,m2,m3,m4⟩:=Qt O.ms (n:=es.size) (by rw [<-O.sz]; exact nf') (of_decide_eq_true tf) hsz;refine af ?_;unfold setRelay;refine af (sG (s:={ s with heap:=s.heap.update a (ux (insertAt es (below t.place j) ((TK prog w).hash k,.ref b)) t') }) g1 rfl O' ?_);dsimp only;rw [if_neg (by rw [cC]; lia)];obtain⟨t2,order,el,l1,l2,l3,l4,l5,O2⟩:=U4 m1 (insertAt es (below t.place j) ((TK prog w).hash k,.ref b)) (by rw [iY _ _ _ S8]; exact m2) t'.finger (t'.movedTo (sizeAbove (grown (es.size+1)) - 1)) t'.led t'.plain;have er:t'.relaid ((insertAt es (below t.place j) ((TK prog w).hash k,eQ b)).map (·.1)) (grown (es.size+1))=some (t2,order):=el;rw [er];refine af (DZ (a:=(order.filterMap ((insertAt es (below t.place j) ((TK prog w).hash k,eQ b))[·]?),t2)) ?_ ?_)
    ·show (if (_ != _)=true then _ else _)=_;rw [if_neg (by rw [l4,bne_self_eq_false]; intro z; cases z)]
    obtain⟨ZV,M2,pm⟩:=M1.perm l5;refine wpAny_storeSet_of g1 rfl ?_ (by rw [l4,iY _ _ _ S8,cC]; lia);have g2:=MP g1 rfl (order.filterMap ((insertAt es (below t.place j) ((TK prog w).hash k,eQ b))[·]?)) t2;have M3:=M2.keep (h':=(s.heap.update a (ux (insertAt es (below t.place j) ((TK prog w).hash k,.ref b)) t')).update a (ux (order.filterMap ((insertAt es (below t.place j) ((TK prog w).hash k,eQ b))[·]?)) t2)) (fun c o _=>Ht g1 rfl _ c o);refine aq (h _ ZV true (fun z=>absurd z hk) (fun _=>pm.trans pk) (sb1.trans (cO _ a _)) ⟨_,_,_,_,g2,hex,rfl,O2,?_,by rw [l2,e4]; exact hl,fun z=>l3.trans (e5 fun x hx=>z x ((pm.trans pk).mem_iff.mpr hx)),M3⟩);rw [Ff t2 O2.dm,O2.sz,l4,iY _ _ _ S8,l1];exact decide_eq_false m3
  cases hp:t.plain with
  | true =>
   rw [if_pos (show true=true from rfl)];refine af (Wl hx fun r hr=>?_);cases r with
   | true=>exact rest _ rfl rfl rfl rfl fun _=>rfl
   | false=>exact rest _ rfl rfl rfl rfl fun z=>hr (z k aA)
  | false =>
   rw [if_neg (by intro z; cases z)];exact af (aq (rest _ rfl rfl rfl rfl fun z=>by have:=RZ fun x hx=>z x (ax _ hx); rw [hp] at this; exact this))
end
end K2.S
end
section
namespace K2.S
open PySem PySem.Spec PyProof.Rows L2 PySem.SetTable
section
variable {B:Addr->Prop} {prog:bT} {w:World} {A:eu} {E:Value->az->Prop} {s:az}
def JG (w:World):Bool:=w.params.followText "set-order"
def AL (w:World):Obj:={ cls:=.type "set",dict:=none,data:=.set #[] 0 (.fresh 0 0 (!JG w)) }
theorem Ux{h:Heap}{a:Addr}(e:h.get? a=some (AL w)):Tf B prog w h a (!JG w) []:=by
 refine⟨_,#[],0,.fresh 0 0 (!JG w),e,⟨rfl,rfl,rfl⟩,rfl,⟨.inl rfl,rfl,rfl,fun a b _ z=>absurd z (cF _),fun k z=>absurd z (cF _),cP _,fun k z=>absurd z (cF _)⟩,rfl,rfl,(fun _=>rfl),rfl,fun i e he=>?_⟩;cases he
theorem Zb (x:Value) {Q:Value->az->Prop} (h:Q (.ref s.heap.objs.size) { s with heap:=s.heap.push (AL w) }):xY (model prog w) A (.call (.builtin "set.__new__") ⟨[.type "set",x],[]⟩) (wants Q E) s:=by
 refine codeAny_of_tree (show wpAny _ A.in1 (do checkBuiltinCall "set.__new__" ⟨[.type "set",x],[]⟩; again (.builtin "set.__new__" ⟨[.type "set",x],[]⟩)) _ _ s from ?_);refine af (DZ (F.newCall_set_1 x) (aq ⟨GB F.plain_set_new _,k6 F.entry_set_new ?_⟩));rw [kM F.plain_set_new _];unfold Builtin.«set.__new__» Builtin.Frozenset.newClass;have Ia:=sub_set_self;obtain⟨hp,g,d,tk,os⟩:=s;dsimp only at h ⊢
 wp_walk
 refine NV (aq ?_);dsimp only;simp only [newObj];refine af (wpAny_alloc (aq (aq h)))
variable {R:Result->az->Prop} {I:Addr} {fp wr:List Addr} {G:Array GenState->Array GenState->Prop} {n:Nat} {P:Nat->Value->Prop} {St:Nat->az->Prop}
def Se(WF:List (List Key))(k:List Key):Bool:=WF.any fun x=>decide (x=k)
theorem xh{WF:List (List Key)}{k:List Key}:Se WF k=true↔k∈WF:=by
 unfold Se;rw [List.any_eq_true];exact⟨fun ⟨x,hx,e⟩=>of_decide_eq_true e ▸ hx,fun h=>⟨k,h,decide_eq_true rfl⟩⟩
def qc(WF:List (List Key))(k:List Key):List (List Key):=if Se WF k=true then WF else WF++[k]
def ded(l:List (List Key)):List (List Key):=l.foldl qc []
theorem Og(WF:List (List Key))(k:List Key):(qc WF k).length<=WF.length+1:=by
 unfold qc; split
 ·lia
 ·rw [aw,bg]; exact aK _
theorem Tf.keeps{h h':Heap}{a:Addr}{b:Bool}{ks:List (List Key)}(x:Tf B prog w h a b ks)(k:∀ c o,(c=a\/B c)->h.get? c=some o->h'.get? c=some o):Tf B prog w h' a b ks:=by
 obtain⟨o,es,ep,t,e,r1,r2,r3,r4,r5,r6,M⟩:=x;exact⟨o,es,ep,t,k a o (.inl rfl) e,r1,r2,r3,r4,r5,r6,M.keep fun c o z e _=>k c o (.inr z) e⟩
theorem WA{b:Bool}(W:WalksS prog w A.in1 I fp wr G n P St)(S:Addr)(hSf:S∉fp)(T:Heap->Prop)(key:Nat->List Key)(nE:n<=76)(hu:(TK prog w).room A.in1)
  (hT:∀ h,T h->∀ i v,P i v->∃ c,v=.ref c/\(TK prog w).is h (key i) c/\B c) (hTk:∀ h h',T h->(∀ c o,c∉S :: wr->h.get? c=some o->h'.get? c=some o)->T h')
  (hW:∀ c,B c->c∉wr) :
  ∀ (k i:Nat) (s:az) (WF ks:List (List Key)),n - i=k->i<=n->WF.length<=i->ks.Perm WF->St i s->T s.heap->Tf B prog w s.heap S b ks ->
   (∀ s' PT,Moved (S :: wr) G s s'->PT.Perm (((List.range' i k).map key).foldl qc WF)->T s'.heap->Tf B prog w s'.heap S b PT->R (.ok (.ret .none)) s') ->
   xY (model prog w) A (.builtin "set.update.loop" ⟨[.ref S,.ref I],[]⟩) R s:=by
 have hSw:S∉wr:=fun h=>hSf (W.sub _ h);have Ia:∀ c∈wr,c∈S :: wr:=fun c hc=>ax _ hc;intro k;induction k with
 | zero =>
  intro i s WF ks hk hi ha hp zI ht hS hR;have R7:i=n:=by lia
  subst R7;refine k6 Ui ?_;rw [kM wc _];show wpAny _ A.in1 (sv (.ref I) >>= _) _ _ s;refine af (W.done s _ _ zI fun s' hm=>(show wpAny _ A.in1 (ret eX) _ _ s' from aq (hR s' ks (hm.mono Ia) hp (hTk _ _ ht fun c o hc e=>hm.heap c o (fun z=>hc (Ia c z)) e) (hS.keeps fun c o z e=>hm.heap c o (fun q=>?_) e))));rcases z with rfl | z
  ·exact hSw q
  ·exact hW c z q
 | succ k ih =>
  intro i s WF ks hk hi ha hp zI ht hS hR;have mj:i < n:=by lia
  refine k6 Ui ?_;rw [kM wc _];show wpAny _ A.in1 (sv (.ref I) >>= _) _ _ s;refine af (W.item i s _ _ mj zI fun v s' hP adB hm=>?_);have Z3:T s'.heap:=hTk _ _ ht fun c o hc e=>hm.heap c o (fun z=>hc (Ia c z)) e;obtain⟨c,rfl,hx,hB⟩:=hT _ Z3 i v hP;have hS':Tf B prog w s'.heap S b ks:=hS.keeps fun c o z e=>hm.heap c o (fun q=>by
   rcases z with rfl | z
   ·exact hSw q
   ·exact hW c z q) e
  show wpAny _ A.in1 (JO [eQ c] (setAdd S (.ref c)) >>= _) _ _ s';refine af (eD ?_);unfold setAdd;refine eD (af ((TK prog w).pyHash hu hx ?_));refine Wm (s:={ s' with toks:=s'.toks+(TK prog w).draws (key i) }) hu hS' hx hB (by rw [hp.length_eq]; lia) fun h' PT r R7 R4 Z6 hS2=>?_;have Y6:T h':=hTk _ _ Z3 fun c o hc e=>by rw [Z6.2 c (fun z:c=S=>hc (by rw [z]; exact aA))]; exact e
  have VY:PT.Perm (qc WF (key i)):=by
   unfold qc;by_cases z:Se WF (key i)=true
   ·rw [if_pos z,R7 (hp.mem_iff.mpr (xh.mp z))]; exact hp
   ·rw [if_neg z];exact(R4 fun q=>z (xh.mpr (hp.mem_iff.mp q))).trans ((hp.cons _).trans (List.perm_append_singleton _ _).symm)
  refine aq ⟨GB wc _,ih (i+1) _ (qc WF (key i)) PT (by lia) mj (cw (Og _ _) (by lia)) VY (W.frame _ s' _ _ adB (gS _ _) fun c hc o e=>?_) Y6 hS2 fun s2 ZV XS TM ht2 hS3=>?_⟩
  ·rw [Z6.2 c (fun z:c=S=>hSf (by rw [<-z]; exact hc))]; exact e
  ·refine hR s2 ZV (Moved.trans W.gtrans ((hm.mono Ia).then_heap (gS _ _) fun c o hc e=>?_) XS) TM ht2 hS3;rw [Z6.2 c (fun z:c=S=>hc (by rw [z]; exact aA))]; exact e
end
end K2.S
end
section
namespace K2.S
open PySem PySem.Spec PyProof.Rows L2 PySem.SetTable
section
variable {prog:bT} {w:World} {A:eu} {E:Value->az->Prop} {s:az}
set_option maxRecDepth 100000 in
theorem WB{l:Addr}{W1:Array Value}{Q:Value->az->Prop}(hh:A.handled=none)(hu:A.units+64 < cLine)(hl:s.heap.IsList l W1)(key:Nat->List Key)(nE:W1.size<=76)(ady:∀ (i:Nat) (v:Value),W1[i]?=some v->∃ c,v=.ref c/\(TK prog w).is s.heap (key i) c)
  (h:∀ (h':Heap) (tk:Nat) (ks:List (List Key)),Tf (fun c=>c < s.heap.objs.size/\eQ c∈W1.toList) prog w h' s.heap.objs.size (!JG w) ks->ks.Perm (ded ((aY W1.size).map key))->(∀ c o,c < s.heap.objs.size->s.heap.get? c=some o->h'.get? c=some o)->Q (.ref s.heap.objs.size) { s with heap:=h',toks:=tk }) :
  wpAny (model prog w) A (call (.type "set") [.ref l]) Q E s:=by
 obtain⟨c,tl,ahr⟩:=F.called_set.mro;have afr:=F.called_set.made;have Ia:=F.called_set.sub;refine JK (codeAny_of_tree (show wpAny _ _ (callAny (.type "set") _) _ _ _ from ?_));refine aq ⟨Code.quiet_builtin _ (by decide +kernel),k6 F.entry_type_call ?_⟩;rw [Around.under_plain (weight_type_call_type "set" [.ref l] []) rfl];have h1:=F.called_set.notType;have h2:=F.called_set.canCreate;have hct:=F.typeCall_set_1 (.ref l)
 repeat (any_goals (first | assumption | wp_step))
 refine p9 (Zb (.ref l) (E:=E) (Q:=fun obj gx=>obj=.ref s.heap.objs.size/\gx={ s with heap:=s.heap.push (AL w) }) ⟨rfl,rfl⟩) fun r s1 hr=>?_;cases r with
 | error e=>exact hr
 | ok fl =>
  cases fl with
  | ret obj =>
   obtain⟨rfl,rfl⟩:=hr;have hS:(s.heap.push (AL w)).get? s.heap.objs.size=some (AL w):=br _ rfl;have hT:Shared.TypeIs { s with heap:=s.heap.push (AL w) } (.ref s.heap.objs.size) "set":=⟨_,hS,rfl⟩;have hli:=F.called_set.init.lookup;have hbi:=F.called_set.init.bind (.ref s.heap.objs.size)
   repeat (any_goals (first | assumption | wp_step))
   refine p9 (B8 (R:=wants (fun r vm=>r=.none/\∃ h' tk ks,vm={ s with heap:=h',toks:=tk }/\Tf (fun c=>c < s.heap.objs.size/\eQ c∈W1.toList) prog w h' s.heap.objs.size (!JG w) ks/\ks.Perm (ded ((aY W1.size).map key)) /\
     (∀ c o,c < s.heap.objs.size->s.heap.get? c=some o->h'.get? c=some o)) E) F.called_set.init.plain F.entry_set_init (check_set_init_1 hT ?_)) fun acg vm RU=>?_
   ·obtain⟨⟨agK,ZH,aeZ,W7⟩,hol,O5,nl,hdl⟩:=hl;simp only at O5 hdl;subst O5 hdl;have adG:(s.heap.push (AL w)).get? l=some { cls:=.type "list",dict:=ZH,data:=.seq W1 nl,slots:=W7 }:=aN _ hol;have ahe:=F.sub_list_set;have ahf:=F.sub_list_frozenset;have kX:(Value.type "list" == Value.type "dict")=false:=by decide
    have V0:(s.heap.push (AL w)).IsList l W1:=⟨_,adG,rfl,nl,rfl⟩;unfold AL at *;unfold Builtin.«set.__init__» noKeywords Builtin.Frozenset.updateFrom;generalize hPI:CM=PI
    wp_walk
    subst hPI;refine JJ V0 (af (wpAny_runValue ?_));have hlS:l < s.heap.objs.size:=aR hol;have hh3:A.in1.in1.in1.handled=none:=by simp [hh]
    have hsz:(s.heap.push (AL w)).objs.size=s.heap.objs.size+1:=Heap.size_push _ _;unfold AL at hsz;have hIn:∀ c,c < s.heap.objs.size->c∉[(s.heap.push { cls:=.type "set",dict:=none,data:=.set #[] 0 (.fresh 0 0 (!JG w)) }).objs.size]:=fun c hc=>by
     rw [hsz]; simp only [mP]; lia
    refine WA (B:=(fun c=>c < s.heap.objs.size/\eQ c∈W1.toList)) (b:=!JG w) ((Walks.list hh3 _ l (by rw [hsz]; exact bQ (Nat.lt_succ_of_lt hlS)) W1).toS) s.heap.objs.size (by rw [hsz]; simp only [jj,cZ,or_false,not_or]; exact⟨bQ (GG _),Nat.ne_of_gt hlS⟩)
     (fun h=>∀ c o,c < s.heap.objs.size->s.heap.get? c=some o->h.get? c=some o) key nE (by show A.in1.in1.in1.units < cLine; show A.units+1+1+1 < cLine; lia) (fun h ht i v hP=>?h1) (fun h h' ht k c o hc e=>k c o ?h2 (ht c o hc e)) (fun c hc=>hIn c hc.1) (W1.size - 0) 0 _ [] [] (by lia) (cP _) (aK _) (List.Perm.refl _) ⟨⟨_,br _ rfl,rfl,rfl⟩,V0.push _⟩
     (fun c o hc e=>aN _ (aN _ e)) ?hS0 ?hR
    case h1 =>
     obtain⟨c,e1,e2⟩:=ady i v hP;obtain⟨o,_,_,eo,_⟩:=id e2;exact⟨c,e1,Nb e2 fun o e=>ht c o (aR e) e,aR eo,by rw [<-e1]; exact Array.mem_toList_iff.mpr (Array.mem_of_getElem? hP)⟩
    case h2 =>
     intro z;rcases List.mem_cons.mp z with z | z
     ·exact absurd z (bQ hc)
     ·exact hIn c hc z
    case hS0=>exact Ux (aN _ hS)
    case hR =>
     intro s' ks hm hq ht hS';obtain⟨h',g',d',Y6,Zw⟩:=s';cases (show g'=s.gens from hm.gens);cases (show d'=s.drawn from hm.drawn);cases (show Zw=s.os from hm.os);refine aq (show wpAny _ _ (ret eX) _ _ _ from aq ⟨rfl,h',Y6,ks,rfl,hS',?_,ht⟩);rw [T8,<-List.range_eq_range'] at hq; exact hq
   ·cases acg with
    | error e=>exact RU
    | ok aaB =>
     cases aaB with
     | ret r =>
      obtain⟨rfl,h',tk,ks,rfl,hS',hq,TU⟩:=RU
      repeat (any_goals (first | assumption | wp_step))
      exact h _ _ ks hS' hq TU
     | _=>exact RU.elim
  | _=>exact hr.elim
end
end K2.S
end
section
namespace K2
open PySem PySem.Spec PyProof.Rows L2 PySem.W
section
variable {X:Cx} {a:Expr} {ta:CF} {pos p wW p2:Pos}
theorem VA:fH "set" = some (.type "set"):=by first | rfl | decide +kernel
def tk(k:List Key):D:=.tup (k.map eZ)
end
end K2
end
section
namespace K2
open PySem PySem.Spec PyProof.Rows L2
section
variable {X:Cx} {elts:List Expr} {kk:Nat} {Kv apos jh:Pos} {o:Expr} {to:gN}
theorem mS.item{K:ak}{H:Hp}{kv:List (List Key×V)}{WP:List (D×D)}(h:mS K H kv WP):∀ {i:Nat} {q:D×D},WP[i]?=some q->∃ p,kv[i]?=some p/\q.1=.tup (p.1.map eZ)/\cM K H p.2 q.2:=by
 induction h using mS.ind with
 | nil=>intro i q e; simp at e
 | @cons k v d r t rd rs ih =>
  intro i q e;cases i with
  | zero=>simp at e; subst e; exact⟨_,rfl,rfl,rd⟩
  | succ i =>
   obtain⟨p,h1,h2⟩:=ih (i:=i) (q:=q) (by simpa using e);exact⟨p,by simpa using h1,h2⟩
theorem mS.len{K:ak}{H:Hp}{kv:List (List Key×V)}{WP:List (D×D)}(h:mS K H kv WP):kv.length=WP.length:=by
 have:=congrArg dF h.keys;simpa using this.symm
end
end K2
end
section
namespace K2.S
open PySem PySem.Spec PyProof.Rows L2 PySem.SetTable
namespace F5
theorem slot_next:Slot "set_iterator" "__next__" "set_iterator.__next__" :=
 .of (owner:="set_iterator") (n:="__next__") (by rw [typeLookup_type,builtinLookup_eq_fast]; kernel_rfl) (by decide +kernel) (by decide +kernel) (by decide +kernel) (by first | exact .inl (by decide +kernel) | exact .inr (by decide +kernel)) (by rw [T1]; kernel_rfl)
theorem entry_next:entryFor table "set_iterator.__next__" = some Builtin.«set_iterator.__next__»:=entryFor_of_tree (by kernel_rfl)
theorem C4:Slot "set_iterator" "__iter__" "set_iterator.__iter__" :=
 .of (owner:="set_iterator") (n:="__iter__") (by rw [typeLookup_type,builtinLookup_eq_fast]; kernel_rfl) (by decide +kernel) (by decide +kernel) (by decide +kernel) (by first | exact .inl (by decide +kernel) | exact .inr (by decide +kernel)) (by rw [T1]; kernel_rfl)
theorem Lz:entryFor table "set_iterator.__iter__" = some Builtin.«dict_keyiterator.__iter__»:=CN (id':="dict_keyiterator.__iter__") (by kernel_rfl) rfl (by decide +kernel) (by kernel_rfl)
theorem IF:entryFor table "set.__iter__" = some Builtin.«frozenset.__iter__»:=CN (id':="frozenset.__iter__") (by kernel_rfl) rfl (by decide +kernel) (by kernel_rfl)
theorem own:Manifest.owners.lookup (String.ofList ['r','o','t','a','r','e','t','i','_','t','e','s'].reverse)=some Manifest.sig_set_iterator:=by kernel_rfl
theorem args_next (a:Value):argsOk "set_iterator.__next__" ⟨[a],[]⟩:=by
 unfold argsOk; rw [signature?_of (id:="set_iterator.__next__") (n:=['_','_','t','x','e','n','_','_']) (o:=['r','o','t','a','r','e','t','i','_','t','e','s']) (by kernel_rfl) own]; kernel_rfl
theorem Pt (a:Value):argsOk "set_iterator.__iter__" ⟨[a],[]⟩:=by
 unfold argsOk; rw [signature?_of (id:="set_iterator.__iter__") (n:=['_','_','r','e','t','i','_','_']) (o:=['r','o','t','a','r','e','t','i','_','t','e','s']) (by kernel_rfl) own]; kernel_rfl
end F5
def KA(pl:Array Nat)(i:Nat):Nat:=if i=0 then 0 else pl.getD (i - 1) 0+1
theorem S9{xs:Array Nat}(up:Up xs){i:Nat}(h:i<=xs.size):below xs (KA xs i)=i:=by
 obtain⟨h1,h2,h3⟩:=rJ up (KA xs i);unfold KA at h1 h2 h3 ⊢;by_cases c:i=0
 ·rw [if_pos c] at h1 h2 h3 ⊢;apply bZ;intro z;have:=h2 0 (by lia);lia
 ·rw [if_neg c] at h1 h2 h3 ⊢;apply bZ;intro z;by_cases q:below xs (xs.getD (i - 1) 0+1) < i
  ·have:=h3 (i - 1) (by lia) (by lia); lia
  ·have a1:=h2 i (by lia);have a2:=up (i - 1) i (by lia) (by lia);lia
section
variable {prog:bT} {w:World} {A:eu} {E:Value->az->Prop} {s:az}
abbrev tb(w:World)(mk:Nat)(pl dm:Array Nat)(fg mv:Nat):iU:={ mask:=mk,place:=pl,dummies:=dm,finger:=fg,led:=!JG w,moves:=mv,plain:=true }
structure Wk(w:World)(o:Obj)(es:En)(ep:Nat)(mk:Nat)(pl dm:Array Nat)(fg mv:Nat):Prop where
 ex:o.ExactSet
 dd:o.data=.set es ep (tb w mk pl dm fg mv)
 fit:(tb w mk pl dm fg mv).fits es.size=true
 sz:pl.size=es.size
 up:Up pl
def ord(w:World)(a:Addr)(ep:Nat)(es:En):En:=if JG w=true then pickOrder (w.params.setOrder a ep) es else es
def slt(w:World)(pl:Array Nat)(i:Nat):Nat:=if JG w=true then 0 else KA pl i
abbrev acf (a:Addr) (sl i n ep:Nat):Obj:={ cls:=.type "set_iterator",data:=.fields #[.int sl 0,.int i 0,.ref a,.int n 0,.int ep 0] }
def YM (h:Heap) (it a:Addr) (sl i n ep:Nat):Prop:=∃ o,h.get? it=some o/\o.cls=.type "set_iterator"/\o.data=.fields #[.int sl 0,.int i 0,.ref a,.int n 0,.int ep 0]
theorem YM.ty {it a:Addr} {sl i n ep:Nat} (x:YM s.heap it a sl i n ep):s.TypeIs (.ref it) "set_iterator":=by
 obtain⟨o,h,c,_⟩:=x;exact⟨o,h,c⟩
theorem FP{Q:Bool->az->Prop}(h:Q (JG w) s):wpAny (model prog w) A setsByText Q E s:=by
 unfold setsByText;exact af (NV (aq h))
variable {es:En} {mk fg mv:Nat} {pl dm:Array Nat} {a it:Addr} {o:Obj} {ep:Nat}
theorem Qz{Q:Value->az->Prop}(ho:s.heap.get? a=some o)(W:Wk w o es ep mk pl dm fg mv)
  (hQ:Q (.ref s.heap.objs.size) { s with heap:=s.heap.push (acf a 0 0 es.size ep) }):wpAny (model prog w) A (CM (.ref a)) Q E s:=by
 have ty:s.TypeIs (.ref a) "set":=⟨o,ho,W.ex.1⟩;refine jo ty NW (da NW ty F5.IF ?_ (PySem.F.args_set_iter_1 _));unfold Builtin.«frozenset.__iter__» Builtin.Frozenset.slot0 slotArgs;simp only [vd,bG,aC,↓reduceIte,bind_assoc,ay,bne_self_eq_false];unfold Builtin.Frozenset.addrOf Builtin.Frozenset.sizeOf;refine af (aq ?_)
 try dsimp only
 refine af (aq (af (af (DY ho W.dd W.fit (aq ?_)))));refine af ?_;unfold setDrawn;refine af (pO ho W.dd W.fit ?_);dsimp only;refine af (FP (aq ?_));split
 ·rename_i z;exact absurd z (by cases JG w <;> exact eV)
 ·refine af (aq ?_);unfold setEpoch;refine af (af (pO ho W.dd W.fit (aq ?_)));unfold newFields;refine af (c9 (aq ⟨_,rfl,"set_iterator",_,⟨_,br _ rfl,rfl⟩,F5.slot_next.lookup,?_⟩) (by size_fits));exact hQ
theorem Uu(hb:JG w=true)(ho:s.heap.get? a=some o)(W:Wk w o es ep mk pl dm fg mv):wpAny (model prog w) A (setWalk a) (fun r s'=>r=pickOrder (w.params.setOrder a ep) es/\s'=s) (fun _ _=>False) s:=by
 unfold setWalk;refine af (pO ho W.dd W.fit ?_);dsimp only;refine af (FP ?_);rw [hb,if_pos rfl];exact af (NV (aq ⟨rfl,rfl⟩))
theorem Mu{i:Nat}(hi:i<=es.size)(ho:s.heap.get? a=some o)(W:Wk w o es ep mk pl dm fg mv):wpAny (model prog w) A (setNext a (slt w pl i) i ep) (fun r s'=>r=((ord w a ep es)[i]?).map (fun e=>(e.2,slt w pl (i+1)))/\s'=s) (fun _ _=>False) s:=by
 unfold setNext;refine af (pO ho W.dd W.fit ?_);dsimp only;refine af (FP ?_);cases hb:JG w with
 | true =>
  rw [if_pos rfl,if_neg (by simp)];refine af (jq (Uu hb ho W) (fun r s' z=>?_) fun _ _ z=>z);obtain⟨rfl,rfl⟩:=z;refine aq ⟨?_,rfl⟩;unfold ord slt;rw [hb]; rfl
 | false =>
  rw [if_neg (by simp)];have sl:slt w pl i=KA pl i:=by unfold slt; rw [hb]; rfl
  have sl1:slt w pl (i+1)=pl.getD i 0+1:=by unfold slt; rw [hb]; rfl
  have bl:Gd pl (KA pl i)=i:=S9 W.up (by rw [W.sz]; exact hi);split
  ·rename_i z;exact absurd z eV
  ·refine af (show wpAny (model prog w) A (if (!(!JG w)&&!es.isEmpty)=true then P2 "set:maker-not-led" else pure ()) _ _ s from ?_);rw [if_neg (by rw [hb]; simp)];refine aq (aq ⟨?_,rfl⟩);show (match es[Gd pl (slt w pl i)]?,pl[Gd pl (slt w pl i)]? with
    | some (_,x),some j=>some (x,j+1)
    | _,_=>none)=_
   rw [sl,bl,sl1];unfold ord;rw [hb,if_neg (by simp)];by_cases c:i < es.size
   ·have hp:i < pl.size:=by rw [W.sz]; exact c
    rw [bb c,bb hp];simp [sE,hp]
   ·rw [iq (by lia)]; rfl
theorem Uv{i:Nat}{Q:Option Value->az->Prop}(ki:YM s.heap it a (slt w pl i) i es.size ep)(ho:s.heap.get? a=some o)(W:Wk w o es ep mk pl dm fg mv)(hi:i<=es.size){e:Int×Value}(he:(ord w a ep es)[i]?=some e)
  (hQ:∀ h',YM h' it a (slt w pl (i+1)) (i+1) es.size ep->g8 it s.heap h'->Q (some e.2) { s with heap:=h' }):wpAny (model prog w) A (sv (.ref it)) Q E s:=by
 obtain⟨oi,YF,hci,Vf⟩:=id ki;unfold sv;refine af (lJ (gq (name:=oT "__next__") ki.ty F5.slot_next (da F5.slot_next ki.ty F5.entry_next ?_ (F5.args_next _))));unfold Builtin.«set_iterator.__next__» slotArgs;refine af (aq ?_);refine af (kq YF Vf ?_);show wpAny _ _ (setEntries a >>= _) _ _ s;refine af (DY ho W.dd W.fit ?_);rw [if_neg (by simp)];show wpAny _ _ (setNext a (Ca (slt w pl i:Int)) (Ca (i:Int)) (Ca (ep:Int)) >>= _) _ _ s;rw [aZ,aZ,aZ];refine af (jq (Mu hi ho W) (fun r s' z=>?_) fun _ _ z=>z.elim);obtain⟨rfl,rfl⟩:=z;rw [he];show wpAny _ _ (PG (.ref it) 0 (rM (slt w pl (i+1):Int)) >>= _) _ _ _;refine af (my YF Vf (by simp) ?_);have g1:=fN (mV (·.setIfInBounds 0 (rM (slt w pl (i+1):Int)))) YF (oV (fA Vf _));refine af (my g1 (fA Vf _) (by simp) ?_);have g2:=fN (mV (·.setIfInBounds 1 (rM ((i:Int)+1)))) g1 (oV (fA (fA Vf _) _));refine aq ⟨_,rfl,aq (hQ _ ⟨_,g2,?_,?_⟩ ((cO ..).trans (cO ..)))⟩
 ·rw [uy,uy]; exact hci
 ·rw [fA (fA Vf _)]; simp [rM]
theorem WD{Q:Option Value->az->Prop}(calm:A.handled=none)(ki:YM s.heap it a (slt w pl es.size) es.size es.size ep)(ho:s.heap.get? a=some o)(W:Wk w o es ep mk pl dm fg mv)(hl:(ord w a ep es).size=es.size)
  (hQ:∀ h',Heap.ExtBut it s.heap h'->Q none { s with heap:=h' }):wpAny (model prog w) A (sv (.ref it)) Q E s:=by
 obtain⟨oi,YF,hci,Vf⟩:=id ki;unfold sv;refine af (lJ (gq (name:=oT "__next__") ki.ty F5.slot_next (da F5.slot_next ki.ty F5.entry_next ?_ (F5.args_next _))));unfold Builtin.«set_iterator.__next__» slotArgs;refine af (aq (af (kq YF Vf ?_)));show wpAny _ _ (setEntries a >>= _) _ _ s;refine af (DY ho W.dd W.fit ?_);rw [if_neg (by simp)];show wpAny _ _ (setNext a (Ca (slt w pl es.size:Int)) (Ca (es.size:Int)) (Ca (ep:Int)) >>= _) _ _ s;rw [aZ,aZ,aZ];refine af (jq (Mu (aK _) ho W) (fun r s' z=>?_) fun _ _ z=>z.elim);obtain⟨rfl,rfl⟩:=z;rw [iq (by lia)];show wpAny _ _ (PG (.ref it) 2 .none >>= _) _ _ _;refine af (my YF Vf (by simp) ?_);show wpAny _ _ (newExc (.type "StopIteration") [] >>= _) _ _ _;refine af ?_;simp only [newExc,newTuple];refine af (c9 (af (m:=pX _ _) (DZ (a:=eX) (by first | rfl | (simp only [pX]; rfl)) (c9 ?_ (by size_fits)))) (by size_fits));unfold raiseNew;refine af (wpAny_handled ?_);rw [show A.in1.handled=none from calm];refine af (aq (wpAny_throw ?_));refine af (qG (T:="StopIteration") (b:=true) ⟨_,br _ rfl,rfl⟩ T4 (?_));exact aq (hQ _ (((cO ..).extBut.push _).push _))
theorem Si{α:Type}:∀ (l:List α) (i:Nat) (h:i < l.length),(l[i] :: l.eraseIdx i).Perm l
 | x :: r,0,_=>.refl _
 | x :: r,i+1,h=>by
  rw [Qd,List.eraseIdx_cons_succ];exact(List.Perm.swap _ _ _).trans (.cons _ (Si r i (by simpa using h)))
theorem Dh{α:Type}(next:Nat->Nat):∀ (f k:Nat) (l:List α) (out:Array α),l.length<=f->(pickOrder.go next f k l out).toList.Perm (out.toList++l)
 | 0,k,l,out,h=>by
  have:l=[]:=List.length_eq_zero_iff.mp (by lia);subst this;rw [bL]; exact .refl _
 | f+1,k,l,out,h=>by
  unfold pickOrder.go;cases l with
  | nil=>simp
  | cons x r =>
   have hi:next k % (x :: r).length < (x :: r).length:=kS _ (by simp);rw [ah hi];dsimp only;refine(Dh next f (k+1) _ _ (by rw [List.length_eraseIdx_of_lt hi]; simp at h ⊢; lia)).trans ?_;rw [Array.toList_push,cG];exact .append_left _ (Si _ _ hi)
theorem Hz(w:World)(a:Addr)(ep:Nat)(es:En):(ord w a ep es).toList.Perm es.toList:=by
 unfold ord;split
 ·unfold pickOrder;have:=Dh (w.params.setOrder a ep) es.size 0 es.toList #[] (by simp);simpa using this
 ·exact .refl _
theorem qj(w:World)(a:Addr)(ep:Nat)(es:En):(ord w a ep es).size=es.size:=by have:=(Hz w a ep es).length_eq; simpa using this
theorem Qy(hh:A.handled=none)(kX:a≠it)(W:Wk w o es ep mk pl dm fg mv) :
  T6 prog w A it [it,a] [it] es.size (fun i v=>∃ e,(ord w a ep es)[i]?=some e/\v=e.2) (fun i h=>YM h it a (slt w pl i) i es.size ep/\h.get? a=some o) where
 sub:=fun c hc=>by simp at hc; simp [hc]
 frame:=fun i h h' st hk=>⟨let ⟨o,e,r⟩:=st.1; ⟨o,hk it (by simp) o e,r⟩,hk a (by simp) o st.2⟩
 item:=fun i s Q E hi st hQ=>by
  have B6:i < (ord w a ep es).size:=by rw [qj]; exact hi
  have he:(ord w a ep es)[i]?=some (ord w a ep es)[i]:=bb B6;exact Uv st.1 st.2 W (x9 hi) he fun h' CZ sb=>hQ _ h' s.toks ⟨_,he,rfl⟩ ⟨CZ,(sb.2 a kX).trans st.2⟩ fun c o hc e=>(sb.2 c (by simpa using hc)).trans e
 done:=fun s Q E st hQ=>WD hh st.1 st.2 W (qj ..) fun h' eb=>hQ h' s.toks fun c o hc e=>eb c o (by simpa using hc) e
 self:=fun i s Q E st hQ=>by
  refine jo st.1.ty F5.C4 (da F5.C4 st.1.ty F5.Lz ?_ (F5.Pt _));show wpAny _ _ (ret (.ref it)) _ _ s;exact aq ⟨_,rfl,"set_iterator",_,st.1.ty,F5.slot_next.lookup,hQ⟩
theorem Uw {r:Addr} {Q:Bool->az->Prop} (hT:s.TypeIs (.ref r) "set") (h:Q false s):wpAny (model prog w) A (zT (.ref r)) Q E s:=by
 unfold zT;refine af (An hT PySem.F.slot_set_len.lookup ?_);generalize O0:("set.__len__" : String)=id0
 wp_delta
 rw [show splitId id0=some ("set","__len__") from by subst O0; decide +kernel];subst O0;refine af (qG (T:="set") (b:=true) hT (by rw [T1]; kernel_rfl) (wpAny_ite_split (fun hab=>absurd hab (by decide)) fun _=>?_));exact wpAny_ite_split (fun _=>af (Mb hT (aq h))) fun hab=>absurd (by decide +kernel) hab
theorem WC(W:Wk w o es ep mk pl dm fg mv) :
  xO prog w "set" a a es.size (fun i v=>∃ e,(ord w a ep es)[i]?=some e/\v=e.2) (fun h=>h.get? a=some o) where
 type:=fun s cB=>⟨o,cB,W.ex.1⟩
 there:=fun h cB=>⟨aR cB,aR cB⟩
 keep:=fun h h' cB hk=>hk a (.inl rfl) o cB
 notList:=by decide
 notTuple:=by decide
 hint:=fun A E s Q cB hq=>Uw ⟨o,cB,W.ex.1⟩ hq
 iter:=fun A s hh cB=>⟨_,_,(fun E Q hq=>Qz cB W hq),Qy hh (bQ (aR cB)) W,⟨⟨_,br _ rfl,rfl,by unfold slt KA; simp⟩,aN _ cB⟩⟩
end
end K2.S
end
section
namespace K2
open PySem PySem.Spec PyProof.Rows L2 PySem.W
section
variable {X:Cx} {a:Expr} {ta:CF} {pos p wW p2:Pos}
def Et(t:T2):List Key:=[.inl t.a,.inl t.b]
theorem Es{x y:T2}(h:Et x=Et y):x=y:=by
 cases x; cases y;unfold Et at h;injection h with h1 h2
 injection h2 with h2 _
 cases h1; cases h2; rfl
theorem Xp(l:List T2):l.map (Enc.enc:T2->D)=(l.map Et).map tk:=by rw [bU]; rfl
theorem SJ:∀ (l WF:List (List Key)),WF.Nodup->(l.foldl S.qc WF).Nodup/\∀ k,k∈l.foldl S.qc WF↔k∈WF\/k∈l
 | [],WF,h=>⟨h,fun k=>⟨.inl,fun z=>z.elim id fun q=>by cases q⟩⟩
 | x :: l,WF,h=>by
  rw [dO];have hs:(S.qc WF x).Nodup/\∀ k,k∈S.qc WF x↔k∈WF\/k=x:=by
   unfold S.qc;by_cases c:S.Se WF x=true
   ·rw [if_pos c];exact⟨h,fun k=>⟨.inl,fun z=>z.elim id fun e=>e ▸ S.xh.mp c⟩⟩
   ·rw [if_neg c];refine⟨?_,fun k=>by rw [Jy,mP]⟩;rw [cb];refine⟨h,by simp,fun u hu v hv e=>?_⟩;rw [List.mem_singleton.mp hv] at e;subst e;exact c (S.xh.mpr hu)
  obtain⟨h1,h2⟩:=SJ l _ hs.1;refine⟨h1,fun k=>(h2 k).trans ?_⟩;rw [hs.2,jj,or_assoc]
theorem VW:∀ (ks:List (List Key)),(∀ k∈ks,∃ t,k=Et t)->∃ m:List T2,ks=m.map Et
 | [],_=>⟨[],rfl⟩
 | k :: ks,h=>by
  obtain⟨t,rfl⟩:=h k aA;obtain⟨m,rfl⟩:=VW ks fun x hx=>h x (ax _ hx);exact⟨t :: m,rfl⟩
theorem EH{K:ak}{H:Hp}:∀ (vs:List V) (zs:List D),vs.length=zs.length->(∀ (i:Nat) (v:V) (z:D),vs[i]?=some v->zs[i]?=some z->cM K H v z)->bp K H vs zs
 | [],[],_,_=>.nil
 | [],_ :: _,h,_=>by cases h
 | _ :: _,[],h,_=>by cases h
 | v :: vs,z :: zs,h,hr=>.cons (hr 0 v z rfl rfl) (EH vs zs (by simpa using h) fun i u y h1 h2=>hr (i+1) u y h1 h2)
def vOf(v:Value):V:=match v with
 | .ref b=>.ref b
 | _=>.dh
theorem tm (hc:X.calm=true) (hu:X.A.units+64 < cLine) (hg:Gl X "sorted") (hm:X.mg "sorted" = none) (hg2:Gl X "set") (XS:X.mg "set" = none) (ha:Gy X [a] ta) (hs:bJ [a] X.env=(false,eval a X.env) :: bJ [] X.env:=by rfl)
  (Ad:bJ [.Call (.Name "set" p2) [a] [] wW] X.env=(false,eval (.Call (.Name "set" p2) [a] [] wW) X.env) :: bJ [] X.env:=by rfl) (Bt:(iT pos (bJ [] X.env)).any (·.1)=false:=by rfl) (adD:(iT wW (bJ [] X.env)).any (·.1)=false:=by rfl) :
  ia X (.Call (.Name "sorted" p) [.Call (.Name "set" p2) [a] [] wW] [] pos) (og uv ta):=by
 intro E ZB s σ H τ G Q hE I h;refine dZ (lY I.inv hg hm DQ (iD ?_ Ad Bt));rw [Ad];show wpAny _ _ (xX ((false,eval (.Call (.Name "set" p2) [a] [] wW) X.env) :: iT pos (bJ [] X.env))) _ _ s;refine fV (dZ (lY I.inv hg2 XS VA (dE (zF ha wW hE I h fun vs H1 ds G1 us s1 I1 m1 r1 j6 q1=>?_) hs adD)));unfold uv at q1;split at q1
 ·rename_i x;obtain⟨tl,hlo,⟨Vc,hlen⟩,q⟩:=q1;obtain⟨w1,rfl,KL⟩:=j6.one;obtain⟨u,rfl,ru⟩:=r1.one;obtain⟨l,vs,bH,rfl,rv,rs,hL,hz⟩:=oP I1.inv I1.ab ru KL hlo;rw [Xp] at rs;have kll:(tl.map Et).length=tl.length:=ag _;have klt:∀ k∈tl.map Et,∃ t∈tl,k=Et t:=fun k hk=>by obtain⟨t,ht,e⟩:=List.mem_map.mp hk; exact⟨t,ht,e.symm⟩
  have RC:∀ t,Et t∈tl.map Et↔t∈tl:=fun t=>⟨fun h=>by obtain⟨t',h1,e⟩:=List.mem_map.mp h; rw [<-Es e]; exact h1,aW⟩;generalize tl.map Et=kl at rs kll klt RC;have li:bH.length=kl.length:=by rw [<-rv.length,rs.length,ag]
  have at_:∀ (i:Nat) (v:Value),bH.toArray[i]?=some v->∃ c,v=.ref c/\(S.TK X.prog X.w).is s1.heap (kl.getD i []) c:=fun i v hv=>by
   have hv:bH[i]?=some v:=by rw [Tq] at hv; exact hv
   have hi:i < kl.length:=by have:=(List.getElem?_eq_some_iff.mp hv).1; lia
   have hd:(kl.map tk)[i]?=some (tk (kl.getD i [])):=by rw [bu,aF,ah hi]; rfl
   obtain⟨vv,h1,h2⟩:=rs.get hd;obtain⟨uu,h3,h4⟩:=rv.get h1;rw [hv] at h3;cases h3;obtain⟨c,rfl,hb⟩:=wH h2;cases h4;exact⟨c,rfl,vD I1.inv.cB hb⟩
  refine S.WB (I1.inv.ok.hd hc) hu hL (fun i=>kl.getD i []) (by rw [a8,li]; lia) at_ fun h' Y6 ks S' hp kp=>?_;rw [(show iT pos (bJ [] X.env)=[] from rfl)];refine aq ?_;obtain⟨o,es,ep,t,ho,hex,hd,O,tf,hld,RZ,M⟩:=S';have hp:ks.Perm (kl.foldl S.qc []):=by
   rw [a8,li,oF] at hp; exact hp
  obtain⟨dn,dm⟩:=SJ kl [] df;have XB:∀ k,k∈ks↔k∈kl:=fun k=>(hp.mem_iff.trans (dm k)).trans ⟨fun z=>z.elim (fun q=>by cases q) id,.inr⟩;have pn:t.plain=true:=RZ fun k hk=>by
   obtain⟨y,_,rfl⟩:=klt k ((XB k).mp hk);intro x hx;rcases List.mem_cons.mp hx with e | hx
   ·exact⟨_,e⟩
   ·exact⟨_,List.mem_singleton.mp hx⟩
  have aal:t.fits es.size=true:=by unfold SetTable.fits Jr; rw [O.sz,O.dm]; have:=O.nE; have:=O.sz; simp; lia
  obtain⟨mk,pl,dmm,fg,ld,mv,pln⟩:=t;have e1:ld=!S.JG X.w:=hld;have e2:pln=true:=pn;subst e1 e2;have W:S.Wk X.w o es ep mk pl dmm fg mv:=⟨hex,hd,aal,O.sz,O.up⟩;obtain⟨ZV,M2,pk2⟩:=M.perm (es':=S.ord X.w s1.heap.objs.size ep es) (S.Hz ..);obtain⟨m,rfl⟩:=VW ZV fun k hk=>by
   obtain⟨y,_,e⟩:=klt k ((XB k).mp (pk2.mem_iff.mp hk));exact⟨y,e⟩
  have nd2:(m.map Et).Nodup:=pk2.nodup_iff.mpr (hp.nodup_iff.mpr dn);have nd:m.Nodup:=by
   rw [kT,hV] at nd2;exact List.nodup_iff_pairwise_ne.mpr (nd2.imp fun {x y} h e=>h (by rw [e]))
  have mm:∀ y,y∈m↔y∈tl:=fun y=>by
   rw [<-RC y,<-XB,<-pk2.mem_iff];exact⟨aW,fun h=>by obtain⟨z,hz,e⟩:=List.mem_map.mp h; rw [<-Es e]; exact hz⟩
  have ZW:∀ b u,s1.heap.get? b=some u->h'.get? b=some u:=fun b u e=>kp b u (aR e) e;have I3:=I1.inv.kept (t':=Y6) ZW;have I4:=I1.mv I3 (.refl I1.ab);have ml:m.length=es.size:=by have:=M2.1; rw [ag,S.qj] at this; exact this
  have at2:∀ (i:Nat) (e:Int×Value) (y:T2),(S.ord X.w s1.heap.objs.size ep es)[i]?=some e->m[i]?=some y->∃ b,e.2=.ref b/\cM X.K H1 (.ref b) (Enc.enc y):=fun i e y he hy=>by
   obtain⟨k,b,q1,q2,q3,_,_,q5⟩:=M2.2 i e he;have ek:k=Et y:=by
    rw [bu,hy] at q1;exact(bN q1).symm
   subst ek;refine⟨b,q2,?_⟩;obtain⟨j,hj,ej⟩:=c8 q5;have hj:j < bH.length:=hj;have hj1:bH[j]?=some (.ref b):=by rw [ah hj]; exact congrArg some ej
   have XT:j < kl.length:=by lia
   have hdj:(kl.map tk)[j]?=some (tk (kl.getD j [])):=by rw [bu,aF,ah XT]; rfl
   obtain⟨vv,h1,h2⟩:=rs.get hdj;obtain⟨uu,h3,h4⟩:=rv.get h1;rw [hj1] at h3;cases h3;obtain⟨c,rfl,hb⟩:=wH h2;cases h4;have i1:=S.Nb (vD I1.inv.cB hb) fun o e=>ZW _ o e;rw [S.Ld i1 q3] at h2;exact h2
  refine jq (KG hc hu I4.inv I4.ab (S.WC W) ho (vs:=(S.ord X.w s1.heap.objs.size ep es).toList.map fun e=>vOf e.2) (zs:=m.map Enc.enc) (by rw [ag,bz,S.qj]) (fun i u hi hP=>?_) (EH _ _ ?_ fun i v z hv YD=>?_) (cg.yj T2) (fun z YD=>?_) (by decide) ?_ ?_) (fun r s' ⟨v,H2,d,G2,I2,m2,r2,zV,q2⟩=>⟨v,H2,d,G2,I2,m1.trans m2,r2,zV,q2⟩) fun _ _ z=>z
  ·obtain⟨e,he,rfl⟩:=hP;have O1:i < m.length:=by rw [ag,bz,S.qj] at hi; lia
   obtain⟨b,e1,_⟩:=at2 i e m[i] he (ah O1);have:(S.ord X.w s1.heap.objs.size ep es).toList[i]'(by rw [ag] at hi; exact hi)=e:=by
    rw [<-cL] at he;exact(List.getElem?_eq_some_iff.mp he).2
   rw [dq,this,e1];rfl
  ·rw [ag,ag,bz,S.qj,ml]
  ·rw [bu] at hv YD;obtain⟨e,he,rfl⟩:=Option.map_eq_some_iff.mp hv;obtain⟨y,hy,rfl⟩:=Option.map_eq_some_iff.mp YD;rw [cL] at he;obtain⟨b,e1,e2⟩:=at2 i e y he hy;rw [e1];exact e2
  ·obtain⟨y,_,rfl⟩:=List.mem_map.mp YD;exact cg.Fd y
  ·rw [ag];exact sg (List.Nodup.length_le_of_subset nd fun y hy=>(mm y).mp hy) hlen
  ·rw [C1];exact q m nd mm
 ·exact q1.elim
end
end K2
end
section
namespace L2
open PySem PySem.Spec PyProof.Rows
section
variable {prog:bT} {w:World} {A:eu} {E:Value->az->Prop} {s:az}
theorem Cj (d:Addr) (ns:(d == fv)=false):MeetsIn prog w (Builtin.«dict.values» ⟨[.ref d],[]⟩) (fun _ R s=>s.TypeIs (.ref d) "dict"/\R (.ok (.ret (.ref s.heap.objs.size))) { s with heap:=s.heap.push { cls:=.type "dict_values",data:=.fields #[.ref d] } }):=by
 refine .of_wp ?_;rintro A R s ⟨ty,h⟩;refine af (m:=JD _ _) ?_;unfold JD;refine af (Ap ty (show wpAny _ _ (pure d) _ _ s from aq ?_));show wpAny _ _ (jn d >>= _) _ _ s;unfold jn;rw [if_neg (fun z=>by rw [ns] at z; cases z)];exact af (aq (af (c9 (aq ⟨_,rfl,h⟩))))
variable {v d it:Addr} {od:Obj} {es:Array iV} {ep i:Nat}
theorem Kr{Q:Value->az->Prop}(hv:s.heap.IsValuesView v d)(zk:s.heap.get? d=some od)(dd:od.data=.dict es ep)
  (hQ:Q (.ref s.heap.objs.size) { s with heap:=s.heap.push { cls:=.type "dict_valueiterator",data:=.fields #[.ref d,.int 0 0,.int es.size 0,.int ep 0] } }):wpAny (model prog w) A (CM (.ref v)) Q E s:=by
 obtain⟨ov,hov,hcv,hdv⟩:=id hv;refine jo hv.typeIs Uh (da Uh hv.typeIs F.entry_dict_values_iter ?_ (F.args_dict_values_iter_1 _));unfold Builtin.«dict_values.__iter__» Builtin.Dict_items.dictOf;refine af (aq (af (af (P0 hov hdv (x:=.ref d) rfl (aq (af ?_))))));unfold Builtin.Dict_items.newIterator;refine af (fu zk dd (af (jt zk dd ?_)));have Rf:gu "dict_valueiterator" = false:=by decide
 simp only [Rf,aC,if_false];exact c9 (aq ⟨_,rfl,"dict_valueiterator",_,⟨_,br _ rfl,rfl⟩,F.slot_dict_valueiterator_next.lookup,by simpa [rM] using hQ⟩)
theorem N0{Q:Option Value->az->Prop}(hit:s.heap.IsValIter it d i es.size ep)(zk:s.heap.get? d=some od)(dd:od.data=.dict es ep)(hi:i < es.size)
  (hQ:∀ h',h'.IsValIter it d (i+1) es.size ep->g8 it s.heap h'->Q (some es[i].val) { s with heap:=h' }):wpAny (model prog w) A (sv (.ref it)) Q E s:=by
 obtain⟨o,ho,hc,hd⟩:=id hit;have ty:=hit.typeIs;unfold sv;refine af (lJ (gq (name:=oT "__next__") ty jL (da jL ty GH ?_ (Gq _))));refine af (aq (af (af ?_)))
 first | refine af (j7 ty (aq (af (kq ho hd ?_)))) | refine af (nv ty (aq (af (kq ho hd ?_))))
 have Rf:gu "dict_valueiterator" = false:=by decide
 rw [Rf];show wpAny _ _ (if (eQ d == eX)=true then _ else _) _ _ s;rw [if_neg (fun z=>by cases z)];refine af (aq (af (fu zk dd ?_)));rw [if_neg (by simp)];refine af (aq (af (jt zk dd ?_)));rw [if_neg (by simp)];refine aq ?_;dsimp only;rw [if_neg (show ¬ ((i:Int) < 0) from Int.not_lt.mpr (j4 i)),aZ,bb hi];dsimp only;refine af ?_
 first | refine af (j7 ty (aq (af (p8 ty ?_)))) | refine af (nv ty (aq (af (p8 ty ?_))))
 show wpAny _ _ (PG (.ref it) 1 (rM ((i:Int)+1)) >>= _) _ _ s;refine af (my ho hd (by simp) ?_);have st:(s.heap.update it (mV (·.setIfInBounds 1 (rM ((i:Int)+1))))).IsValIter it d (i+1) es.size ep:=⟨_,fN _ ho (oV (fA hd _)),(uy ..).trans hc,by rw [fA hd]; simp [rM]⟩;have sb:g8 it s.heap (s.heap.update it (mV (·.setIfInBounds 1 (rM ((i:Int)+1))))):=cO ..;generalize s.heap.update it (mV (·.setIfInBounds 1 (rM ((i:Int)+1))))=h1 at st sb;have ty1:Shared.TypeIs { s with heap:=h1 } (.ref it) "dict_valueiterator":=st.typeIs (s:={ s with heap:=h1 });refine af (eD (af (p8 ty1 (af (p8 ty1 ?_)))));show wpAny _ _ (pure es[i].val) _ _ _;exact aq (aq ⟨_,rfl,aq (hQ _ st sb)⟩)
theorem Qn{Q:Option Value->az->Prop}(calm:A.handled=none)(hit:s.heap.IsValIter it d i es.size ep)(zk:s.heap.get? d=some od)(dd:od.data=.dict es ep)(hi:es.size<=i)
  (hQ:∀ h',Heap.ExtBut it s.heap h'->Q none { s with heap:=h' }):wpAny (model prog w) A (sv (.ref it)) Q E s:=by
 obtain⟨o,ho,hc,hd⟩:=id hit;have ty:=hit.typeIs;unfold sv;refine af (lJ (gq (name:=oT "__next__") ty jL (da jL ty GH ?_ (Gq _))));refine af (aq (af (af ?_)))
 first | refine af (j7 ty (aq (af (kq ho hd ?_)))) | refine af (nv ty (aq (af (kq ho hd ?_))))
 have Rf:gu "dict_valueiterator" = false:=by decide
 rw [Rf];show wpAny _ _ (if (eQ d == eX)=true then _ else _) _ _ s;rw [if_neg (fun z=>by cases z)];refine af (aq (af (fu zk dd ?_)));rw [if_neg (by simp)];refine af (aq (af (jt zk dd ?_)));rw [if_neg (by simp)];refine aq ?_;dsimp only;rw [if_neg (show ¬ ((i:Int) < 0) from Int.not_lt.mpr (j4 i)),aZ,iq hi];dsimp only;refine af ?_
 first | refine af (j7 ty (aq (?_))) | refine af (nv ty (aq (?_)))
 show wpAny _ _ (PG (.ref it) 0 .none >>= _) _ _ s;refine af (my ho hd (by simp) (show wpAny _ _ (newExc (.type "StopIteration") [] >>= _) _ _ _ from af ?_));simp only [newExc,newTuple];refine af (c9 (af (m:=pX _ _) (DZ (a:=eX) (by first | rfl | (simp only [pX]; rfl)) (c9 ?_ (by size_fits)))) (by size_fits));simp only [raiseNew];refine af (wpAny_handled ?_);rw [show A.in1.handled=none from calm];refine af (aq (wpAny_throw ?_));refine af (qG (T:="StopIteration") (b:=true) ⟨_,br _ rfl,rfl⟩ T4 (?_));exact aq (hQ _ (((cO ..).extBut.push _).push _))
theorem Pg:entryFor table "dict_valueiterator.__iter__" = some Builtin.«dict_keyiterator.__iter__»:=CN (id':="dict_keyiterator.__iter__") (by kernel_rfl) rfl (by decide +kernel) (by kernel_rfl)
theorem Km(hh:A.handled=none)(kX:d≠it)(dd:od.data=.dict es ep) :
  T6 prog w A it [it,d] [it] es.size (fun i v=>∃ h:i < es.size,v=es[i].val) (fun i h=>h.IsValIter it d i es.size ep/\h.get? d=some od) where
 sub:=fun b hb=>by simp at hb; simp [hb]
 frame:=fun i h h' st hk=>⟨let ⟨o,e,r⟩:=st.1; ⟨o,hk it (by simp) o e,r⟩,hk d (by simp) od st.2⟩
 item:=fun i s Q E hi st hQ=>N0 st.1 st.2 dd hi fun h' CZ sb=>hQ _ h' s.toks ⟨hi,rfl⟩ ⟨CZ,(sb.2 d kX).trans st.2⟩ fun b o hb e=>(sb.2 b (by simpa using hb)).trans e
 done:=fun s Q E st hQ=>Qn hh st.1 st.2 dd (aK _) fun h' eb=>hQ h' s.toks fun b o hb e=>eb b o (by simpa using hb) e
 self:=fun i s Q E st hQ=>by
  refine jo st.1.typeIs JA (da JA st.1.typeIs Pg ?_ (F.args_dict_valueiterator_iter_1 _));show wpAny _ _ (ret (.ref it)) _ _ s;exact aq ⟨_,rfl,"dict_valueiterator",_,st.1.typeIs,F.slot_dict_valueiterator_next.lookup,hQ⟩
theorem QA (dd:od.data=.dict es ep):xO prog w "dict_values" v d es.size (fun i v=>∃ h:i < es.size,v=es[i].val) (fun h=>h.IsValuesView v d/\h.get? d=some od) where
 type:=fun s cB=>cB.1.typeIs
 there:=fun h cB=>⟨let ⟨_,ho,_⟩:=cB.1; aR ho,aR cB.2⟩
 keep:=fun h h' cB hk=>⟨let ⟨o,ho,x⟩:=cB.1; ⟨o,hk v (.inl rfl) o ho,x⟩,hk d (.inr rfl) od cB.2⟩
 notList:=by decide
 notTuple:=by decide
 hint:=fun A E s Q cB hq=>PySem.W.kdl_hint_values cB.1.typeIs hq
 iter:=fun A s hh cB=>⟨_,_,(fun E Q hq=>Kr cB.1 cB.2 dd hq),Km hh (bQ (aR cB.2)) dd,⟨⟨_,br _ rfl,rfl,rfl⟩,aN _ cB.2⟩⟩
end
end L2
namespace K2
open PySem PySem.Spec PyProof.Rows L2 PySem.W
section
variable {X:Cx} {o:Expr} {to:gN} {apos jh pos p:Pos}
theorem Zl{ZB:List (Addr×Obj)}{σ:L2.St}{H:Hp}{s:az}{x:V}{l:List (T2×T2)}(I:Inv X ZB σ H s)(r:cM X.K H x (.lI (bI l))) :
  ∃ (a:Addr) (od:Obj) (es:Array iV) (ep:Nat) (ks vs:List V),x=.ref a/\(a == fv)=false/\s.heap.get? a=some od/\od.ExactDict/\od.data=.dict es ep/\l.length=es.size /\
   bp X.K H ks (l.map fun q=>Enc.enc q.1)/\bp X.K H vs (l.map fun q=>Enc.enc q.2)/\∀ i (h:i < es.size),∃ k v,ks[i]?=some k/\vs[i]?=some v/\RelV k es[i].key/\RelV v es[i].val:=by
 have k1:(bI l).map (·.1)=l.map fun q=>Enc.enc q.1:=by unfold bI; rw [bU]; rfl
 have k2:(bI l).map (·.2)=l.map fun q=>Enc.enc q.2:=by unfold bI; rw [bU]; rfl
 have k3:(bI l).length=l.length:=by unfold bI; rw [ag]
 have k4:∀ q∈bI l,mY q.1=true:=fun q hq=>by unfold bI at hq; obtain⟨y,_,rfl⟩:=List.mem_map.mp hq; rfl
 rw [<-k1,<-k2,<-k3];generalize bI l=WP at r k4;cases r with
 | pS hq rs =>
  rename_i a o kv;cases rs with
  | nil =>
   obtain⟨z,ns,vs,rel,ob,es,ep,ho,ex,dd,hko,hp,nd⟩:=(I.cB a _ hq).2;have l1:es.size=vs.length:=by simpa using hp.length
   have l2:([]:List (Key×V)).length=vs.length:=gX rel;have l3:es.size=0:=by rw [l1,<-l2]; rfl
   exact⟨a,ob,es,ep,[],[],rfl,ns,ho,ex,dd,by rw [l3]; rfl,.nil,.nil,fun i h=>by lia⟩
  | @cons j _ _ _ _ _ _ =>
   have:=k4 _ aA;cases j <;> simp [eZ,mY] at this
 | pR hq rs =>
  rename_i a o kv;obtain⟨z,ns,xs,rel,ob,es,ep,ho,ex,dd,hl,nd⟩:=(I.cB a _ hq).2;have l1:=congrArg dF hl;rw [ag,bz] at l1;have l2:kv.length=xs.length:=gX rel;have l3:=rs.len;refine⟨a,ob,es,ep,xs.map fun q=>V.ref q.2.1,kv.map (·.2),rfl,ns,ho,ex,dd,by lia,?_,?_,fun i hi=>?_⟩
  ·rw [rs.keys];have:∀ (kv:List (List Key×V)) (xs:List (List Key×Addr×Value)),KT H kv xs->bp X.K H (xs.map fun q=>V.ref q.2.1) (kv.map fun p=>D.tup (p.1.map eZ)):=by
    intro kv xs r;induction r with
    | nil=>exact .nil
    | cons h _ ih=>exact .cons (.tup h.2.1 (ua _)) ih
   exact this kv xs rel
  ·refine EH _ _ (by rw [ag,ag,l3]) fun i v z hv hz=>?_;rw [bu] at hv hz;obtain⟨q,TN,rfl⟩:=Option.map_eq_some_iff.mp hz;obtain⟨p,hp1,_,rp⟩:=rs.item TN;rw [hp1] at hv;cases hv;exact rp
  ·have i2:i < xs.length:=by lia
   have i3:i < kv.length:=by lia
   have ee:es[i]=BW (eM (cA X.prog X.w)) xs[i]:=by
    have:=congrArg (fun l=>l[i]?) hl;simp only [bu,ah i2] at this;simpa [hi] using this
   refine⟨_,_,by rw [bu,ah i2]; rfl,by rw [bu,ah i3]; rfl,?_⟩;rw [ee];exact⟨rfl,(yn rel i i3 i2).2.2⟩
theorem S3:fH "list" = some (.type "list"):=by first | rfl | decide +kernel
theorem OC (hc:X.calm=true) (hg:Gl X "list") (hm:X.mg "list" = none) (ho:ia X o to) (Bu:x8 o "values" X.env (eval o X.env)=eval o X.env:=by rfl) (Ie:(apos.endLine == jh.line)=true:=by rfl)
  (hs:bJ [.Call (.Attribute o "values" apos) [] [] jh] X.env=(false,eval (.Call (.Attribute o "values" apos) [] [] jh) X.env) :: bJ [] X.env:=by rfl) (Bt:(iT pos (bJ [] X.env)).any (·.1)=false:=by rfl) :
  ia X (.Call (.Name "list" p) [.Call (.Attribute o "values" apos) [] [] jh] [] pos) (LK to):=by
 intro E ZB s σ H τ G Q hE I h;refine dZ (lY I.inv hg hm S3 (dE ?_ hs Bt));rw [hs];show wpAny _ _ (xX ((false,eval (.Call (.Attribute o "values" apos) [] [] jh) X.env) :: iT pos (bJ [] X.env))) _ _ s;refine fV ?_;refine wpAny_Call_method0_late Bu Ie (kU ho hE I h fun x H1 d G1 v s1 I1 m1 r1 j6 q1=>?_);obtain⟨l,rfl,hn,q⟩:=q1;obtain⟨t1,t2⟩:=AD ZB s1 σ H1 G1 x _ v I1.inv I1.ab r1 j6 trivial;obtain⟨a,od,es,ep,ks,vs,rfl,ns,zk,ex,dd,hl,rk,rv,Vh⟩:=Zl I1.inv j6;cases r1;refine⟨"dict","dict.values",sC,Ju,PySem.F.type_dict_values,t1,t2,vg rfl (T5 ?_)⟩;refine call_meetsIn Ju t1 PySem.F.entry_dict_values (PySem.F.args_dict_values_1 _) (Cj a ns) ⟨t1,?_⟩;have I2:Inv X ZB σ H1 { s1 with heap:=s1.heap.push { cls:=.type "dict_values",data:=.fields #[.ref a] } }:=I1.inv.kept (t':=s1.toks) fun b o e=>aN _ e;rw [(show iT pos (bJ [] X.env)=[] from rfl)];refine aq ?_;have vl:=rv.length;rw [ag] at vl;refine jq (Bg (T:="dict_values") hc I2 I1.ab (QA dd) ⟨⟨_,br _ rfl,rfl,rfl⟩,aN _ zk⟩ (vs:=vs) (zs:=l.map fun q=>Enc.enc q.2) (by lia) (fun i u hi hP=>?_) rv (by lia) q) (fun r s' ⟨v,H2,d,G2,I2,m2,r2,zV,q2⟩=>⟨v,H2,d,G2,I2,m1.trans m2,r2,zV,q2⟩) fun _ _ z=>z;obtain⟨O1,rfl⟩:=hP;obtain⟨k,v,_,h2,_,h4⟩:=Vh i O1;rw [ah hi] at h2;cases h2;exact h4
end
end K2
end
section
namespace L2
open PySem PySem.Spec PyProof.Rows
section
variable {prog:bT} {w:World} {A:eu} {E:Value->az->Prop} {s:az}
abbrev Ve(prog:bT)(w:World)(k:List Key):Int:=(eM (cA prog w)).hash k
theorem QE{d a:Addr}{xs:List (List Key×Addr×Value)}{k:List Key}{v:Value}{Q:Unit->az->Prop}(hu:A.units < cLine)(aaf:(eM (cA prog w)).is s.heap k a)(hm:s.heap.DictOfH (eM (cA prog w)) d xs)(new:k∉xs.map (·.1))(hz:xs.length<=bx)
  (hQ:∀ h',h'.DictOfH (eM (cA prog w)) d (xs++[(k,a,v)])->g8 d s.heap h'->Q () { s with heap:=h' }):wpAny (model prog w) A (GC d (.ref a) (Ve prog w k) v) Q E s:=by
 obtain⟨o,es,ep,ho,hc,hd,he,his,hn⟩:=hm;have e0:=P4 he;unfold GC
 try with_reducible refine eD ?_
 refine af (wpAny_dictFind_heap hu aaf ho hd he his hn (fun R4=>?_) fun j p hj=>absurd (aW (dJ hj)) new);refine af (wpAny_rule (wpAny_updateDictKeys (hz:=by lia) ho hd (hQ _ ⟨_,_,ep+1,fN _ ho (Obj.isFreed_of_dict (pY hd _)),hc.mapDictKeys _,pY hd _,by simp [he,BW,Ve],fun x hx=>?_,?_⟩ (cO ..))))
 ·rcases List.mem_append.mp hx with hx | hx
  ·exact(eM (cA prog w)).keeps (his x hx) ho hd (cO ..)
  ·rw [List.mem_singleton.mp hx];exact(eM (cA prog w)).keeps aaf ho hd (cO ..)
 ·rw [aH,cb];refine⟨hn,by simp,fun x hx y hy e=>?_⟩;rw [av,aX,mP] at hy;have hy:y=k:=hy;exact new (by rw [<-hy,<-e]; exact hx)
theorem Ov {a:Addr} {Q:Bool->az->Prop} (ty:s.TypeIs (.ref a) "tuple") (h:Q false s):wpAny (model prog w) A (GJ (.ref a)) Q E s:=by
 unfold GJ;refine af (An ty F.slot_tuple_eq.lookup (aq ?_));exact h
theorem Su{es:List iV}(nd:(es.map (·.hash)).Nodup)(e:iV):(es.filter fun x=>x.hash == e.hash).length<=1:=by
 induction es with
 | nil=>exact cP _
 | cons x es ih =>
  rw [av,cN] at nd;by_cases c:x.hash=e.hash
  ·rw [fW (by simp [c])];have:es.filter (fun y=>y.hash == e.hash)=[]:=by
    rw [Qf];intro y hy z;have z:y.hash=e.hash:=by simpa using z
    exact nd.1 (by rw [c,<-z]; exact aW hy)
   rw [this]; exact aK _
  ·rw [g4 (by simp [c])]; exact ih nd.2
theorem Cw {id:String} {o:Addr} {oo:Obj} {es:Array iV} {ep:Nat} {Q:Array iV->az->Prop} (ho:s.heap.get? o=some oo) (hd:oo.data=.dict es ep) (ht:∀ e∈es.toList,∃ a,e.key=.ref a/\s.TypeIs (.ref a) "tuple") (nd:(es.toList.map (·.hash)).Nodup) (h:Q es s) :
  wpAny (model prog w) A (zD id o) Q E s:=by
 unfold zD;refine af (fu ho hd ?_);refine af ?_;rw [<-Ay];refine j9 _ (fun rest _ s'=>s'=s/\∀ e∈rest,∃ a,e.key=.ref a/\s.TypeIs (.ref a) "tuple") _ ?_ ?_ _ _ ⟨rfl,ht⟩
 ·rintro e rest r s' ⟨rfl,rn⟩;obtain⟨a,ek,ty⟩:=rn e aA;have one:¬ (es.filter fun x=>x.hash == e.hash).size > 1:=by
   have:=Su nd e;rw [<-bz,Uj]; lia
  rw [ek];refine af (Ov ty ?_);rw [if_pos (show (!false)=true from rfl),if_neg one];exact aq ⟨rfl,fun x hx=>rn x (ax _ hx)⟩
 ·rintro r s' ⟨rfl,_⟩;exact aq h
theorem U2{nm:String}{d o:Addr}{xs ys:List (List Key×Addr×Value)}{Q:Unit->az->Prop}(hu:A.units < cLine)(hdo:d≠o)(ns:(o == fv)=false)(hd:s.heap.DictOfH (eM (cA prog w)) d xs)(ho:s.heap.DictOfH (eM (cA prog w)) o ys)
  (nd:((xs++ys).map (·.1)).Nodup) (hh:xs=[]->(ys.map fun y=>Ve prog w y.1).Nodup) (hz:xs.length+ys.length<=1000)
  (hQ:∀ h',h'.DictOfH (eM (cA prog w)) d (xs++ys)->g8 d s.heap h'->Q () { s with heap:=h' }):wpAny (model prog w) A (D6 nm d o) Q E s:=by
 obtain⟨od,esd,epd,zk,Gs,YH,hed,O0,hnd⟩:=id hd;obtain⟨oo,PW,epo,hoo,hco,O4,PU,hio,R4⟩:=id ho;have zd:=P4 hed;have zo:=P4 PU;have B4:=cC;unfold D6 jn;rw [if_neg (by simpa using hdo),if_neg (by rw [ns]; exact eV)];refine af (aq (af (fu hoo O4 ?_)));have loop:wpAny (model prog w) A (do
   let aaF ← dictEpoch o
   for i in [0:(← dictEntries o).size] do
    let some e:=(← dictEntries o)[i]? | P2 "internal:dict-merge"
    JO [e.key,e.val] (GC d e.key e.hash e.val)
    if (← dictEpoch o) != aaF then P2 s!"{nm}:source-changed-during-callback") Q E s:=by
  refine af (jt hoo O4 (af (fu hoo O4 ?_)));rw [Std.Legacy.Range.forIn_eq_forIn_range'];simp only [Std.Legacy.Range.size,T8,si,Nat.div_one];refine af (j9 _ (fun rest _ s'=>∃ h' i,s'={ s with heap:=h' }/\rest=List.range' i (PW.size - i)/\i<=PW.size/\h'.DictOfH (eM (cA prog w)) d (xs++ys.take i)/\g8 d s.heap h') _ ?_ ?_ _ _ ⟨s.heap,0,rfl,by simp,cP _,by rw [Mh,bL]; exact hd,xV _ _⟩)
  ·rintro x rest b s' ⟨h',i,rfl,hr,hi,Ag,Bs⟩;have lt:i < PW.size:=by
    apply bZ;intro z;rw [Nat.sub_eq_zero_of_le (by lia)] at hr;cases hr
   rw [show PW.size - i=(PW.size - (i+1))+1 by lia,List.range'_succ] at hr;injection hr with h1 hr2
   subst h1;have lx:x < ys.length:=by lia
   have aaa:h'.get? o=some oo:=(Bs.2 o (fB hdo)).trans hoo;have ex:PW[x]?=some (BW (eM (cA prog w)) ys[x]):=by rw [entry_at PU x,ah lx]; rfl
   refine af (fu (s:={ s with heap:=h' }) aaa O4 ?_);rw [ex];show wpAny _ _ (JO [eQ ys[x].2.1,ys[x].2.2] (GC d (.ref ys[x].2.1) (Ve prog w ys[x].1) ys[x].2.2) >>= _) _ _ _;have adh:(eM (cA prog w)).is h' ys[x].1 ys[x].2.1:=(eM (cA prog w)).keeps (hio _ (cu lx)) zk YH Bs;have new:ys[x].1∉(xs++ys.take x).map (·.1):=fun z=>by
    have e:xs++ys=(xs++ys.take x)++ys[x] :: ys.drop (x+1):=by rw [cG,List.getElem_cons_drop,gJ]
    rw [e,aH,cb] at nd;exact nd.2.2 _ z _ aA rfl
   refine af (eD (QE (s:={ s with heap:=h' }) hu adh Ag new (by rw [aw,eA]; lia) fun h2 hd2 Ad=>?_));have adF:h2.get? o=some oo:=(Ad.2 o (fB hdo)).trans aaa;refine af (jt (s:={ s with heap:=h2 }) adF O4 ?_);rw [if_neg (by simp)];refine aq ⟨h2,x+1,rfl,?_,lt,?_,Bs.trans Ad⟩
   ·exact hr2
   ·rw [List.take_add_one,ah lx,<-cG]; exact hd2
  ·rintro b s' ⟨h',i,rfl,hr,hi,Ag,Bs⟩;have R7:i=PW.size:=by
    apply bZ;intro z;rw [show PW.size - i=(PW.size - (i+1))+1 by lia,List.range'_succ] at hr;cases hr
   refine aq (hQ h' ?_ Bs);rw [R7,zo,List.take_length] at Ag; exact Ag
 dsimp only;split
 ·refine af (fu zk YH ?_);split
  ·rename_i ad2;have xe:xs=[]:=by
    have h0:esd=#[]:=Array.isEmpty_iff.mp ad2;rw [h0] at zd;exact List.length_eq_zero_iff.mp zd.symm
   have Z2:∀ e∈PW.toList,∃ a,e.key=.ref a/\s.TypeIs (.ref a) "tuple":=fun e he=>by
    rw [PU] at he;obtain⟨y,hy,rfl⟩:=List.mem_map.mp he;exact⟨_,rfl,yV (hio y hy)⟩
   have hhs:(PW.toList.map (·.hash)).Nodup:=by
    rw [PU,bU]; exact hh xe
   refine af (Cw hoo O4 Z2 hhs ?_);split
   ·refine af (wpAny_updateDictKeysTo zk YH (aq (hQ _ ⟨_,_,epd+1,fN _ zk (Obj.isFreed_of_dict (pY YH _)),Gs.mapDictKeys _,pY YH _,?_,fun y hy=>?_,nd⟩ (cO ..))) (by lia))
    ·rw [xe,aU]; exact PU
    ·rw [xe,aU] at hy;exact(eM (cA prog w)).keeps (hio y hy) zk YH (cO ..)
   ·rename_i kX;have h0:PW=#[]:=Array.isEmpty_iff.mp (by simpa using kX);have y0:ys=[]:=by
     rw [h0] at zo;exact List.length_eq_zero_iff.mp zo.symm
    refine aq (hQ s.heap ?_ (xV _ _));rw [y0,bL]; exact hd
  ·exact loop
 ·exact loop
theorem K5(d o:Addr)(hdo:d≠o)(ns:(o == fv)=false):MeetsIn prog w (Builtin.«dict.update» ⟨[.ref d,.ref o],[]⟩) (fun A R s=>∃ xs ys,A.in1.units < cLine/\s.heap.DictOfH (eM (cA prog w)) d xs/\s.heap.DictOfH (eM (cA prog w)) o ys /\
  (((xs++ys).map (·.1)).Nodup/\(xs=[]->(ys.map fun y=>Ve prog w y.1).Nodup)/\xs.length+ys.length<=1000)/\∀ h',h'.DictOfH (eM (cA prog w)) d (xs++ys)->g8 d s.heap h'->R (.ok (.ret .none)) { s with heap:=h' }):=by
 refine .of_wp ?_;rintro A R s ⟨xs,ys,hu,hd,ho,⟨h1,h2,h3⟩,h⟩;unfold Builtin.«dict.update» Builtin.Dict.selfAndRest;refine af (af (Ap hd.typeIs (show wpAny _ _ (pure (d,[eQ o])) _ _ s from aq ?_)));show wpAny _ _ (CT "dict.update" d (.ref o) [] .none) _ _ s;unfold CT;refine af (Mb ho.typeIs ?_);rw [if_neg (by decide)];refine af ?_;unfold Builtin.Dict.merge Builtin.Dict.readDirectly;refine af (af (qG ho.typeIs PySem.F.sub_dict_dict ?_));simp only [bG,aC,if_false];refine af (An ho.typeIs F.slot_dict_iter.lookup (aq ?_));simp only [beq_self_eq_true,if_true];refine af (aq (U2 hu hdo ns hd ho h1 h2 h3 fun h' Ag Bs=>?_));show wpAny _ _ (Builtin.Dict.addKeywords d [] >>= _) _ _ _;exact af (aq (aq ⟨.none,rfl,h h' Ag Bs⟩))
end
end L2
namespace K2
open PySem PySem.Spec PyProof.Rows L2 PySem.W
section
variable {X:Cx} {ZB:List (Addr×Obj)} {σ:L2.St} {H:Hp} {s:az} {G:Gp}
theorem Ww{x y:List Key}(h:tk x=tk y):x=y:=by
 have e:=qu x y;have e2:=qu y y;rw [show D.tup (x.map eZ)=D.tup (y.map eZ) from h,e2] at e;exact of_decide_eq_true (e.symm.trans (decide_eq_true rfl))
theorem Bc:∀ {a b:List (List Key)},a.map tk=b.map tk->a=b
 | [],[],_=>rfl
 | [],_ :: _,h=>by cases h
 | _ :: _,[],h=>by cases h
 | x :: a,y :: b,h=>by
  rw [av,av] at h;injection h with h1 h2
  rw [Ww h1,Bc h2]
theorem HS{K:ak}{l:List (T2×T2)}{kv:List (List Key×V)}(rs:mS K H kv (bI l)):kv.map (·.1)=l.map fun p=>Et p.1:=by
 have h:=rs.keys;have e1:(bI l).map (·.1)=(l.map fun p=>Et p.1).map tk:=by unfold bI; rw [bU,bU]; rfl
 have e2:(kv.map fun p=>D.tup (p.1.map eZ))=(kv.map (·.1)).map tk:=by rw [bU]; rfl
 rw [e1,e2] at h;exact(Bc h).symm
theorem w9{kv:List (List Key×V)}{xs:List (List Key×Addr×Value)}(r:KT H kv xs):xs.map (·.1)=kv.map (·.1):=by
 induction r with
 | nil=>rfl
 | cons h _ ih=>rw [av,av,ih,h.1]
theorem Xz{kv kw:List (List Key×V)}{xs ys:List (List Key×Addr×Value)}(r:KT H kv xs)(q:KT H kw ys):KT H (kv++kw) (xs++ys):=by
 induction r with
 | nil=>exact q
 | cons h _ ih=>exact .cons h ih
theorem Yb{K:ak}{kv kw:List (List Key×V)}{k1 k2:List (D×D)}(r:mS K H kv k1)(q:mS K H kw k2):mS K H (kv++kw) (k1++k2):=by
 induction r using mS.ind with
 | nil=>exact q
 | cons h _ ih=>exact .cons h ih
theorem MX(l:List (T2×T2)):∀ q∈bI l,mY q.1=true:=fun q hq=>by unfold bI at hq; obtain⟨y,_,rfl⟩:=List.mem_map.mp hq; rfl
theorem Yd{a:Addr}{l:List (T2×T2)}(I:Inv X ZB σ H s)(ab:mx X.K H G)(hg:G a=some (.jg (bI l))) :
  ∃ H' kv,Inv X ZB σ H' s/\Mv X.K H G H' G/\H' a=some (.dT kv)/\mS X.K H' kv (bI l):=by
 have ok:=MX l;generalize bI l=WP at hg ok;rcases ab a _ hg with ⟨kv,hv,rs⟩ | ⟨kv,hv,rs⟩
 ·cases rs with
  | nil=>exact⟨_,[],toT I hv,E3 ab hg (.putD hv (.inl ⟨_,rfl⟩)) (.inr ⟨[],cV,.nil⟩),cV,.nil⟩
  | @cons j _ _ _ _ _ _ =>
   have:=ok _ aA;cases j <;> simp [eZ,mY] at this
 ·exact⟨H,kv,I,.refl ab,hv,rs⟩
theorem Zf{x:V}{m:List (T2×T2)}(I:Inv X ZB σ H s)(r:cM X.K H x (.lI (bI m))) :
  ∃ b kw ys,x=.ref b/\(b == fv)=false/\(∃ o u,H b=some (.lB o u))/\mS X.K H kw (bI m)/\KT H kw ys/\s.heap.DictOfH (eM (cA X.prog X.w)) b ys:=by
 have ok:=MX m;generalize bI m=WP at r ok;cases r with
 | pS hq rs =>
  rename_i b o kv;cases rs with
  | nil =>
   obtain⟨z,ns,vs,rel,ob,es,ep,ho,ex,dd,hko,hp,nd⟩:=(I.cB b _ hq).2;cases rel;have he:es.toList=[]:=List.length_eq_zero_iff.mp hp.length;exact⟨b,[],[],rfl,ns,⟨_,_,hq⟩,.nil,.nil,ob,es,ep,ho,ex,dd,he,(fun _ z=>by cases z),df⟩
  | @cons j _ _ _ _ _ _ =>
   have:=ok _ aA;cases j <;> simp [eZ,mY] at this
 | pR hq rs =>
  rename_i b o kv;obtain⟨z,ns,ys,rel,dd⟩:=zt I.cB (.inr ⟨_,hq⟩);exact⟨b,kv,ys,rfl,ns,⟨_,_,hq⟩,rs,rel,dd⟩
theorem Ro (hu:X.A.units+64 < cLine):Py X "dict.update" Rq:=by
 intro ZB s σ H G x d xs ds v us Q I ab rx rd Uz AV q;unfold Rq at q;split at q
 ·rename_i a y;obtain⟨l,m,hg,rfl,⟨hz,nd,hh⟩,q⟩:=q;cases rd;obtain⟨w1,rfl,KL⟩:=AV.one;obtain⟨u,rfl,ru⟩:=Uz.one;cases rx;obtain⟨H',kv,I',mv,hv,rs⟩:=Yd I ab hg;obtain⟨b,kw,ys,rfl,nb,⟨ob,ub,hb⟩,rsb,QQ,ddb⟩:=Zf I' (KL.mono (mv.kp ab));cases ru;obtain⟨z,na,zs,rel,dda⟩:=SD I'.cB hv;have ne:a≠b:=fun e=>by rw [<-e,hv] at hb; cases hb
  have k1:(zs++ys).map (·.1)=(l++m).map fun p=>Et p.1:=by rw [aH,aH,w9 rel,w9 QQ,HS rs,HS rsb]
  have nd':((zs++ys).map (·.1)).Nodup:=by
   rw [k1];have:((l++m).map fun p=>Et p.1)=((l++m).map (·.1)).map Et:=by rw [bU]; rfl
   rw [this,kT,hV];exact(List.nodup_iff_pairwise_ne.mp nd).imp fun h e=>h (Es e)
  have l1:zs.length=l.length:=by have:=congrArg dF ((w9 rel).trans (HS rs)); simpa using this
  have l2:ys.length=m.length:=by have:=congrArg dF ((w9 QQ).trans (HS rsb)); simpa using this
  have hh':zs=[]->(ys.map fun y=>Ve X.prog X.w y.1).Nodup:=fun e=>by
   have le:l=[]:=List.length_eq_zero_iff.mp (by rw [<-l1,e]; rfl);have:(ys.map fun y=>Ve X.prog X.w y.1)=m.map fun p=>h2 p.1:=by
    have e1:(ys.map fun y=>Ve X.prog X.w y.1)=(ys.map (·.1)).map (Ve X.prog X.w):=by rw [bU]; rfl
    rw [e1,w9 QQ,HS rsb,bU]; rfl
   rw [this]; exact hh le
  have sz:bx=16777216:=cC;refine call_meetsIn Jv dda.typeIs PySem.F.entry_dict_update (PySem.F.args_dict_update_2 _ _) (K5 a b ne nb) ⟨zs,ys,(by show X.A.units+1 < cLine; lia),dda,ddb,⟨nd',hh',by lia⟩,fun h' Ag hs=>?_⟩;have kp:Kp H' (upd H' a (.dT (kv++kw))):=.putD hv (.inr ⟨_,rfl⟩);obtain⟨o',es',ep',p1,p2,p3,p4,_,p6⟩:=Ag;have kl:(kv++kw).length<=bx:=by
   have e1:=gX rel;have e2:=gX QQ;rw [aw,sz]; lia
  have e5:bI (l++m)=bI l++bI m:=by unfold bI; rw [aH]
  refine⟨.dh,_,.dh,_,FD (t':=s.toks) I' (by rw [hv]; exact i4) hs ⟨_,p1⟩ (ob:=.dT (kv++kw)) ⟨kl,na,zs++ys,(Xz rel QQ).keeps kp.tup,o',es',ep',p1,p2,p3,p4,p6⟩,mv.trans (.put mv.ab hg kp (.dt cV ?_)),rfl,.dh,q⟩;rw [e5];exact(Yb rs rsb).mono kp
 ·exact q.elim
end
end K2
end
section
namespace K2
open PySem PySem.Spec PyProof.Rows L2
def U7:List Value->List Int->Bool
 | [],[]=>true
 | v :: vs,n :: ns=>GD n v&&U7 vs ns
 | _,_=>false
def AF(K:ak)(a:Addr)(ns:List Int):Bool:=match K.lookup a with
 | some o=>o.cls == .type "tuple" && (match o.data with | .seq bH _=>U7 bH.toList ns | _=>false)
 | none=>false
theorem Dw:∀ (vs:List Value) (ns:List Int),U7 vs ns=true->Vals (ns.map V.int) vs
 | [],[],_=>.nil
 | [],_ :: _,h=>bB (show false=true from h)
 | _ :: _,[],h=>bB (show false=true from h)
 | v :: vs,n :: ns,h=>by
  have h:(GD n v&&U7 vs ns)=true:=h;rw [aQ] at h;rcases fD (k:=.inl n) h.1 with ⟨j,t,e,rfl⟩ | ⟨_,_,e,_⟩
  ·cases e;exact .cons ⟨t,rfl⟩ (Dw vs ns h.2)
  ·cases e
theorem Wu{K:ak}{a:Addr}{ns:List Int}{h:Heap}(Y:K.In h)(e:AF K a ns=true):∃ bH,Vals (ns.map V.int) bH/\h.IsTuple a bH.toArray:=by
 unfold AF at e;cases hl:K.lookup a with
 | none=>rw [hl] at e; exact bB (show false=true from e)
 | some o =>
  rw [hl] at e;dsimp only at e;rw [aQ] at e;obtain⟨e1,e2⟩:=e;obtain⟨c,dd,dt,sl⟩:=o;have f1:c=.type "tuple":=beq_iff_eq.mp e1;subst f1;cases dt with
  | seq bH m=>exact⟨bH.toList,Dw _ _ e2,_,Y _ _ hl,rfl,m,by simp⟩
  | _=>exact bB (show false=true from e2)
theorem any_ints(i:Int):∀ ns:List Int,(ns.map D.int).any (jf · (.int i))=ns.contains i
 | []=>rfl
 | n :: ns=>by
  rw [av,kL,any_ints i ns,rZ];congr 1;show decide (n=i)=(i == n);rw [show (i == n)=decide (i=n) from rfl];by_cases z:n=i
  ·rw [z]
  ·rw [decide_eq_false z,decide_eq_false fun y=>z y.symm]
section
variable {X:Cx} {x:Str} {a:Addr} {ns:List Int} {e:Expr} {te:gN} {px pos:Pos}
theorem QX (neg:Bool) (hu:X.A.units+64 < cLine) (hg:Gl X x) (hm:X.mg x=some (.ref a)) (hT:AF X.K a ns=true) (ha:ia X e te) (hmk:xZ (if neg then .NotIn else .In) (.Name x px)=false) (Co:(x == ("__debug__" : Str))=false):Gw X (.Compare e [if neg then .NotIn else .In] [.Name x px] pos) (gL (Po neg ns te)):=by
 intro E ZB s σ H τ G Q hE I h;refine wpAny_isTrue_Compare1 (kU ha hE I h fun z H1 dx G1 v s1 I1 m1 r1 j6 q1=>pE I1.inv hg hm ?_ Co) hmk;obtain⟨i,rfl,q1⟩:=q1;obtain⟨bH,rv,hl⟩:=Wu I1.inv.B5 hT;refine g6 (Aa (y:=z) hu neg (ds:=ns.map D.int) (ss:=ns.map D.int) (t:=.int i) (Q:=fun w G2=>w=.bl (if neg then !ns.contains i else ns.contains i)/\G2=G1) I1.inv I1.ab r1 j6 ⟨a,_,bH,rfl,rv,bp.EY ns,.inr hl⟩ (.int _) (yh (α:=Int) _ 7 (by decide) ns) ⟨by rw [any_ints],rfl⟩) ?_;rintro c s3 ⟨w,H3,dz,G3,I3,m3,r3,WU,q3⟩;obtain⟨rfl,rfl⟩:=q3;exact Ob ZB s3 σ H3 G3 w _ c _ _ I3 m3.ab r3 WU rfl fun s' I'=>⟨H3,G3,I',m1.trans m3,q1⟩
theorem Hu (hu:X.A.units+64 < cLine) (hg:Gl X x) (hm:X.mg x=some (.ref a)) (hT:AF X.K a ns=true) (ha:ia X e te) (hmk:autoParam (xZ .NotIn (.Name x px)=false) Aw._auto_1) (Co:(x == ("__debug__" : Str))=false:=by decide):Gw X (.Compare e [.NotIn] [.Name x px] pos) (gL (Po true ns te)):=QX true hu hg hm hT ha hmk Co
end
end K2
end
section
namespace K2
open PySem PySem.Spec PyProof.Rows L2
section
variable {X:Cx} {ZB:List (Addr×Obj)} {σ:L2.St} {H1 H':Hp} {s1 s':az} {p:Addr} {u0:HO} {ob:Obj}
theorem Inv.Y7{Yu : L2.St}(I1 : Inv X ZB Yu H1 s1)(I' : Inv X ZB σ H' s')(e1 : H1 p = some u0)(hu : LO u0 = true)(e' : H' p = some (.lB ob u0)) : Inv X ZB σ (upd H' p u0) s' where
  ok := I'.ok
  os := I'.os
  bare := I'.bare
  base := { keep := I'.base.keep, slot := I'.base.slot, there := I'.base.there
            free := fun b o q n hx => by
              have hb : b ≠ p := fun z => by have := I1.base.free b o q n hx; rw [z, e1] at this; cases this
              rw [bR hb]; exact I'.base.free b o q n hx
            sd := fun b xs q => by
              have hb : b ≠ p := fun z => by have := I1.base.sd b xs q; rw [z, e1] at this; cases this; cases hu
              rw [bR hb]; exact I'.base.sd b xs q
            rq := fun b o u q => by
              have hb : b ≠ p := fun z => by have := I1.base.rq b o u q; rw [z, e1] at this; cases this; cases hu
              rw [bR hb]; exact I'.base.rq b o u q
            uB := fun b ps q => by
              have hb : b ≠ p := fun z => by obtain⟨more, e⟩ := I1.base.uB b ps q; rw [z, e1] at e; cases e; cases hu
              obtain⟨more, e⟩ := I'.base.uB b ps q;exact⟨more, by rw [bR hb]; exact e⟩ }
  loc := I'.loc
  cell := I'.cell
  free := by
    have hb : X.env.locals ≠ p := fun z => by have := I'.free; rw [z, e'] at this; cases this
    rw [bR hb]; exact I'.free
  jG := fun x c e => by
    have hb : c ≠ p := fun z => by have := I'.jG x c e; rw [z, e'] at this; cases this
    rw [bR hb]; exact I'.jG x c e
  pin := fun q hq => by
    obtain⟨h1, h2, h3⟩ := I'.pin q hq;have hb : q.1 ≠ p := fun z => by rw [z, e'] at h2; cases h2
    exact⟨h1, by rw [bR hb]; exact h2, h3⟩
  cB := fun a o q => by
    have st : ∀ u, ij X.prog X.w H' s'.heap a u -> ij X.prog X.w (upd H' p u0) s'.heap a u := fun u x =>
      x.kb (fun b v _ r => r) (fun b r => by
        have hb : b ≠ p := fun z => by rw [z, e'] at r; cases r
        rw [bR hb]; exact r) (fun b xs r => by
        have hb : b ≠ p := fun z => by rw [z, e'] at r; cases r
        rw [bR hb]; exact r)
    by_cases ha : a = p
    · subst ha
      rw [cV] at q;cases q;exact st _ (I'.cB a _ e').2
    · rw [bR ha] at q
      exact st _ (I'.cB a _ q)
  len := I'.len
end
theorem Om{K:ak}{H H2:Hp}{v:V}{d:D}(r:cM K H v d)(h:vp d=true):cM K H2 v d:=by
 cases r with
 | dh=>exact .dh
 | bl b=>exact .bl _
 | int i=>exact .int _
 | _=>exact absurd h (by simp [vp])
theorem AR{K:ak}{H H2:Hp}:∀ {vs:List V} {ds:List D},bp K H vs ds->(ds.all vp)=true->bp K H2 vs ds
 | _,_,.nil,_=>.nil
 | _,_,.cons r rs,h=>by
  rw [p7,aQ] at h;exact .cons (Om r h.1) (AR rs h.2)
theorem QP{K:ak}{H:Hp}{p:Addr}{o:Obj}{u u0:HO}{v:V}{d:D}(ep:H p=some (.lB o u))(nl:∀ xs,u≠.lst xs)(r:cM K H v d)(h:Iz d=true):cM K (upd H p u0) v d:=by
 cases r with
 | fx sq rs =>
  refine .fx ?_ (AR rs h);rcases sq with ⟨o2,e⟩ | e
  ·refine .inl ⟨o2,?_⟩;rename_i a vs ds;have:a≠p:=fun z=>by rw [z,ep] at e; cases e; exact nl _ rfl
   rw [bR this]; exact e
  ·exact .inr e
 | dh=>exact .dh
 | bl b=>exact .bl _
 | int i=>exact .int _
 | _=>exact absurd h (by simp [Iz,vp])
section
variable {X:Cx} {e:Expr} {te:gN} {pos p0 p1 p2 p3:Pos} {x z y:Str} {i j k:Nat}
theorem QZ(hp:PassesOwn (model X.prog X.w) X.A X.env X.xe)(hc:X.calm=true)(hN:X.N.Nodup)(hx:ia X (.Name x p0) (au i))(hz:X.N[j]?=some z)(hy:X.N[k]?=some y)(he:ia X e te)
  (JF:i≠j/\i≠k/\j≠k:=by decide)
  (lz:autoParam (Loc X.env.scope z) Ao._auto_1) (ly:autoParam (Loc X.env.scope y) Ao._auto_1)
  (Z4:Aq e (some (.Name y p2)) p3.line X.env=pure false:=by rfl)
  (fz:autoParam (X.fn z=true\/X.env.scope.names.lookup z=some .local) Ao._auto_1) (fy:autoParam (X.fn y=true\/X.env.scope.names.lookup y=some .local) Ao._auto_1)
  (hs:∀ v,lK (.Name x p0) X.env v=pure v:=by intro _; rfl) :
  Gx X (.For (.Name z p1) (.Name x p0) [.Assign [.Name y p2] e p3] [] pos) (V9 i j k te):=by
 intro E ZB s σ H τ G Dn hE I h;obtain⟨p,WP,hi,hg1,h⟩:=h;generalize hks:WP.map (·.1)=ks at h;obtain⟨ni,nk,njk⟩:=JF;have iv:i < τ.length:=(List.getElem?_eq_some_iff.mp hi).1;obtain⟨vi,YE,rvi⟩:=I.st.at' i _ hi;have evi:vi=.ref p:=by cases rvi; rfl
 subst evi;have rep:cM X.K (nh s.heap (jW (fun a=>a == p) G) H) (.ref p) (.lI WP):=Lj I.inv I.ab (Fz.jg hg1 (by simp) (.same _)) (.ref p);have I1':=Inv.freeze I.inv (jW (fun a=>a == p) G);have kp0:Kp H (nh s.heap (jW (fun a=>a == p) G) H):=uj;have hS:∀ a,a≠p->jW (fun a=>a == p) G a=false:=fun a h=>by simp [jW,h]
 have out:∀ a,a≠p->nh s.heap (jW (fun a=>a == p) G) H a=H a:=fun a h=>xl (hS a h);obtain⟨u0,ob,e0,hc0,ef,nl⟩:∃ u0 ob,H p=some u0/\LO u0=true/\nh s.heap (jW (fun a=>a == p) G) H p=some (.lB ob u0)/\∀ xs,u0≠.lst xs:=by
  rcases I.ab p _ hg1 with ⟨kv,hv,rs⟩ | ⟨kv,hv,rs⟩
  ·obtain⟨ob,ho⟩:=K2.lV (I.inv.cB p _ hv);exact⟨_,ob,hv,rfl,uk (by simp [jW,hg1]) hv rfl ho,fun xs=>by nofun⟩
  ·obtain⟨ob,ho⟩:=K2.lV (I.inv.cB p _ hv);exact⟨_,ob,hv,rfl,uk (by simp [jW,hg1]) hv rfl ho,fun xs=>by nofun⟩
 generalize nh s.heap (jW (fun a=>a == p) G) H=H2 at rep I1' ef out kp0;have PR:Ma X.K H2 σ (τ.set i (some (.lI WP))):=by
  have:=(I.st.mono kp0).set i rep;have es:σ.set i (some (V.ref p))=σ:=by
   apply List.ext_getElem?;intro m;rw [List.getElem?_set];split
   ·rename_i h; subst h;split
    ·exact YE.symm
    ·rename_i h2; exact absurd (List.getElem?_eq_some_iff.mp YE).1 h2
   ·rfl
  rw [es] at this; exact this
 have J2:I2 X ZB σ H2 (τ.set i (some (.lI WP))) (fun _=>none) s:=⟨I1',PR,fun a g e=>by cases e⟩;have hI:=A2 (tg:=.Name z p1) hx E ZB s σ H2 (τ.set i (some (.lI WP))) (fun _=>none) (fun ds ok G1=>ds=ks/\(∀ g,ok g)/\G1=fun _=>none) hE J2 (by
  show au i E _ _ _;unfold au;rw [dI iv];exact⟨hks,fun _=>i4,rfl⟩)
 refine wpAny_For (g6 hI fun v s1 h1=>g6 h1 fun U5 s2 h2=>?_) hs;obtain⟨it,fp,tn,J,H3,G3,ds,ok,eit,Iv,m2,T,t0,f2,wk,eds,okk,eG⟩:=h2;subst eit; subst eG; subst eds;have Kz:∀ {H':Hp},(∀ b∈fp,H' b=none)->∀ b∈fp,o4 X ZB H' b:=fun hn b hb=>⟨hn b hb,(f2 b hb).2⟩;refine codeAny_forLoop_any (fun n s'=>∃ c j5 H' nI G',I2 X ZB j5 H' nI G' s'/\Mv X.K H2 (fun _=>none) H' G'/\Kp H3 H'/\tn c s'.heap/\(∀ b∈fp,H' b=none)/\n=ds.length - c/\c<=ds.length/\(∀ m,m≠j->m≠k->j5[m]?=σ[m]?) /\
   goP j k te (ds.drop c) E nI G' fun nI=>∃ d,nI[k]?=some (some d)/\Iz d=true/\Dn.nx ((τ.set j none).set k (some d)) G) ?_ ds.length
  ⟨0,σ,H3,_,_,J2.mv Iv m2,m2,.refl _,t0,fun b hb=>(f2 b hb).1,rfl,cP _,fun _ _ _=>rfl,h⟩
 rintro n s3 ⟨c,GK,H4,Qj,G4,I3,m3,k3,t3,fr3,rfl,hle,sm,w3⟩;by_cases mj:c < ds.length
 ·rw [gC mj] at w3;obtain⟨go,yl⟩:=(wk c H4 G4 k3 I3.ab (okk _)).1 ds[c] (by simp [mj]);refine fI hp (g6 (T.item X rfl rfl rfl hc c ZB s3 GK H4 X.xe I3.inv (Kz fr3) t3 go) ?_);rintro r s4 ⟨u,hr,h4⟩;subst hr;refine fI hp (g6 h4 ?_);rintro _ s5 ⟨xv,H5,I5,r5,y5,WE,fr5⟩;obtain⟨rd5,m5⟩:=yl xv H5 y5;have I5':=I5.pinned (Kz fr5) (T.obj _ _ WE);have J5:I2 X (ZB++oD fp s5.heap) GK H5 Qj G4 s5:=⟨I5',I3.st.mono (m5.kp I3.ab),m5.ab⟩;refine fI hp (JL (wt J5.inv hN hz lz r5 (fun s6 I6'=>?_) fz));have I6:I2 X (ZB++oD fp s5.heap) (GK.set j (some xv)) H5 (Qj.set j (some ds[c])) G4 s6:=⟨I6',J5.st.set j rd5,J5.ab⟩;refine fI hp (yU (wpAny_Assign_Name (kU he hE I6 w3 fun v7 H7 d7 G7 u7 s7 I7 m7 r7 rd7 q7=>?_) Z4));refine wt I7.inv hN hy ly r7 (fun s8 I8'=>?_) fy;refine jr ?_;have I8:I2 X (ZB++oD fp s5.heap) ((GK.set j (some xv)).set k (some v7)) H7 ((Qj.set j (some ds[c])).set k (some d7)) G7 s8:=⟨I8',I7.st.set k rd7,I7.ab⟩;have mm:=m5.trans m7;refine⟨ds.length - (c+1),by lia,c+1,_,H7,_,G7,⟨I8.inv.sJ,I8.st,I8.ab⟩,m3.trans mm,k3.trans (mm.kp I3.ab),T.keep _ _ _ WE fun b hb o e=>(I8.inv.pin (b,o) (bA _ (bA _ (lX hb e)))).1,fun b hb=>?_,rfl,mj,fun m h1 h2=>?_,q7⟩
  ·obtain⟨o,e,d⟩:=T.obj _ _ WE b hb;exact(I8.inv.pin (b,o) (bA _ (bA _ (lX hb e)))).2.1
  ·rw [dg (fB h2),dg (fB h1)]; exact sm m h1 h2
 ·have hn:ds.length<=c:=by lia
  rw [jV hn] at w3;obtain⟨d,hd,hfl,q⟩:=w3;have stop:=(wk c H4 G4 k3 I3.ab (okk _)).2 hn;refine fI hp (g6 (T.done X rfl rfl rfl hc c ZB s3 GK H4 X.xe I3.inv (Kz fr3) t3 stop) ?_);rintro r s4 ⟨hr,I4⟩;subst hr;have ZW:∀ a o,H2 a=some o->H4 a=some o/\G4 a=none:=fun a o e=>m3.keep a o e rfl;have ep:=(ZW p _ ef).1;have I9:=Inv.Y7 I.inv I4 e0 hc0 ep;have same:∀ a o,H a=some o->upd H4 p u0 a=some o:=fun a o e=>by
   by_cases h:a=p
   ·subst h; rw [cV,<-e0,e]
   ·rw [bR h]; exact(ZW a o (by rw [out a h]; exact e)).1
  have kp:Kp H (upd H4 p u0):=⟨fun a xs e=>same a _ e,fun a o u e=>same a _ e⟩;have PY:mx X.K (upd H4 p u0) G:=fun a g eg=>by
   have ab1:=I.ab a g eg;cases eh:H a with
   | none=>exact absurd eh ab1.tracked
   | some o=>exact ab1.mono kp (by rw [same a o eh,eh])
  have mv:Mv X.K H G (upd H4 p u0) G:=⟨fun a o e n=>⟨same a o e,n⟩,fun a n=>by
   cases eg:G a with
   | none=>exact absurd eg n
   | some g=>exact(PY a g eg).tracked,PY⟩
  have st9:Ma X.K (upd H4 p u0) GK ((τ.set j none).set k (some d)):=by
   refine⟨by rw [bO,bO,<-I.st.len,I4.len,<-I.inv.len],fun m d' hm=>?_⟩;by_cases h1:m=k
   ·subst h1;obtain⟨v,hv,rv⟩:=I3.st.at' m d hd;have lk:m < τ.length:=by
     have:=(List.getElem?_eq_some_iff.mp hm).1;rw [bO,bO] at this; exact this
    rw [dI (by rw [bO]; exact lk)] at hm;cases hm;exact⟨v,hv,QP ep nl rv hfl⟩
   ·rw [dg (fB h1)] at hm;by_cases h2:m=j
    ·subst h2;have lk:m < τ.length:=by
      have:=(List.getElem?_eq_some_iff.mp hm).1;rw [bO] at this; exact this
     rw [dI lk] at hm;cases hm
    ·rw [dg (fB h2)] at hm;obtain⟨v,hv,rv⟩:=I.st.at' m d' hm;exact⟨v,(sm m h2 h1).trans hv,rv.mono kp⟩
  exact jr ⟨GK,_,_,G,⟨I9,st9,PY⟩,mv,q⟩
end
end K2
end
section
namespace K2
open PySem PySem.Spec PyProof.Rows L2
section
variable {X:Cx}
theorem LA{ZB:List (Addr×Obj)}{s:az}{σ:L2.St}{H:Hp}{y:V}(I:Inv X ZB σ H s)(r:cM X.K H y (.lI [])):∃ a,y=.ref a/\s.heap.DictOf (cA X.prog X.w) a []/\(a == fv)=false:=by
 cases r with
 | pS hq rs =>
  rename_i a o kv;cases rs;obtain⟨z,ns,vs,rel,dd⟩:=(I.cB a _ hq).2;cases rel;exact⟨a,rfl,dd,ns⟩
 | pR hq rs =>
  rename_i a o kv;cases rs;obtain⟨z,ns,xs,rel,ob,es,ep,ho,ex,dd,he,nd⟩:=(I.cB a _ hq).2;cases rel;refine⟨a,rfl,⟨ob,es,ep,ho,ex,dd,?_,?_,?_⟩,ns⟩
  all_goals first | exact df | (rw [he]; first | exact .nil | (intro e h; cases h)) | (intro e h; rw [Array.mem_def,he] at h; cases h) | skip
theorem UY(hu:X.A.units+64 < cLine)(neg:Bool):o3 X (eO (if neg then .NotIn else .In)) (Ou neg):=by
 intro ZB s σ H G x y dx dy v u Q I ab rx ry dX dY q;by_cases h:dy=.lI []
 ·subst h;obtain⟨⟨n,rfl⟩,q⟩:=q;obtain⟨a,rfl,dd,ns⟩:=LA I dY;cases ry;cases dX;cases neg with
  | false=>exact wpAny_in_of (Bp (k:=.inl n) rx) ns dd.mapOf ⟨.bl _,H,.bl _,G,I.tok _,.refl ab,rfl,.bl _,q⟩
  | true=>exact wpAny_notIn_of (Bp (k:=.inl n) rx) ns dd.mapOf ⟨.bl _,H,.bl _,G,I.tok _,.refl ab,rfl,.bl _,q⟩
 ·rw [ML h] at q;exact EV hu neg ZB s σ H G x y dx dy v u Q I ab rx ry dX dY q
theorem Ox{a:Expr}{ta:gN}{p pos:Pos}{j}(ha:ia X a ta):Gw X (.Compare a [.IsNot] [.Constant .none j p] pos) (gL (NG (Ot true) ta)) :=
 show Gw X _ (gL (a9 (WX true) ta (dC .dh))) from ff OG ha ES (gy _)
theorem KY(hu:X.A.units+64 < cLine):o3 X (eO .NotIn) (Ou true):=UY hu true
end
end K2
end
section
namespace K2
open PySem PySem.Spec PyProof.Rows L2
section
variable {X:Cx}
theorem UX(hu:X.A.units+64 < cLine):o3 X (eO .Lt) WW:=by
 intro ZB s σ H G x y dx dy v u Q I ab rx ry dX dY q;obtain⟨sh,a,b,⟨sa,sb⟩,⟨h1,h2⟩,q⟩:=q;obtain⟨as,ra⟩:=(h8 I ab sa).1 x v dX rx;obtain⟨bs,rb⟩:=(h8 I ab sb).1 y u dY ry;have d1:=yK sa;exact vA _ sh a b _ s _ _ as bs (aK _) h1 h2 sa.nr sb.nr ra rb (by unfold SN at d1; lia) _ _ _ _ ⟨.bl _,H,.bl _,G,I,.refl ab,rfl,.bl _,q⟩
end
end K2
end
section
namespace K2
open PySem PySem.W PySem.Spec PyProof.Rows PySem.Calls
theorem OO{p q:bT}{loose:List Str}{Xt:az->Bool}{α:Type}{Yf:az->α}{Ya:World->α}{N:Nat}(e:opening p=plainProg p.main.scope.names)(hN:Nat.ble 600 N=true)(f:∀ s,fenceModules? p s=some s)
  (h:∀ (w:World) (os:OsState),(topFrom treeTable p w N ⟨boot_heap w.params,Array.mk [],boot_drawn,boot_toks,os⟩).map (fun s=>(openSeen q loose (P6 p.main.body) Xt true s,Yf s))=some (openGood q loose,Ya w)):LeftO p q loose Xt Yf Ya N:=fun w=>by
 obtain⟨⟨h',gs,d,k,os⟩,e1,e2⟩:=Option.map_eq_some_iff.mp (boot_open e hN f w);obtain⟨rfl,rfl,rfl,rfl⟩:h'=boot_heap w.params/\gs=Array.mk []/\d=boot_drawn/\k=boot_toks:=by simpa using e2
 unfold openEnds;rw [e1];exact h w os
abbrev Mr(l:OpenLaw)(q:bT):Bool:=chainsOk q&&opensWell l.row.prog&&(frees l.row.toRowW&&l.row.within.isEmpty)
abbrev Y1(l:OpenLaw)(q:bT)(s:az):Bool:=xlAt q [] s&&recOk l.row.records s
theorem O3{l:OpenLaw}{q:bT}{loose:List Str}{K:Params->Frag}{as:List Addr}{d:DefRec}{N:Nat}(ok:l.wellSaid=true)(e:opening l.row.prog=plainProg l.row.prog.main.scope.names)(hN:Nat.ble 600 N=true)(f:∀ s,fenceModules? l.row.prog s=some s)(hK:∀ P,as=(K P).map (·.1))
  (h:∀ (w:World) (os:OsState),(topFrom treeTable l.row.prog w N ⟨boot_heap w.params,Array.mk [],boot_drawn,boot_toks,os⟩).map (fun s=>(openSeen q loose (P6 l.row.prog.main.body) (Y1 l q) true s,as.map s.heap.get?))=some (openGood q loose,(K w.params).map fun p=>some p.2))
  (hd:defOf q l.row.name=some (d,[])) (hp:l.row.prog.theDef l.row.name=some (d.params,d.body,d.scope)) (hk:kwWritten? d.params.kwonlyargs d.params.kw_defaults=some []) (hr:(!l.row.writes||l.row.records.isEmpty)=true) (ht:Mr l q=true) (hb:l.row.prog.bare) (hw:l.row.toRowW.promised)
  (c:WalkO q loose (XL q []) (InK K) l.row.toRowW d [] fun f vs=>Md f vs):l.Holds :=
 holds_law ok fun k1=>holds_open (OO (Yf:=Hook.obs (kHook K as hK)) (Ya:=Hook.val (kHook K as hK)) e hN f h) (Hook.of (kHook K as hK)) (Hook.keeps (kHook K as hK)) (fun s x=>xl_of s (Bool.and_eq_true_iff.mp x).1) XL.keeps hd hp hk (fun s x=>recFacts_of (Bool.and_eq_true_iff.mp x).2) hr k1 ht hb hw c
structure At(K:Frag)(x:Str)(st:Stmt)(f:Addr)(fd:aG):Prop where
 a:nsIn K bP x=some (some (.ref f))
 F:L2.oj K x x st f fd
theorem At.mg{K:Frag}{h:Heap}{mg:Str->Option Value}{x:Str}{st:Stmt}{f:Addr}{fd:aG}(z:At K x st f fd)(X:K.In h)(G:h.Ns bP mg):mg x=some (.ref f):=mg_of X G z.a
theorem fS{K:Frag}{x:Str}{st:Stmt}{f:Addr}{oc:Value}{od an:Option Addr}{PS:Array (Option Value)}{kV doc pm oh ct:Value}(a:nsIn K bP x=some (some (.ref f)):=by k_is)(l:K.lookup f=some ⟨oc,od,.func (fnOf x x (L2.pH st) (L2.jQ st) (L2.aT st) .none kV doc pm an oh ct),PS⟩:=by k_is)
  (c:codeIn K oh x=true:=by k_is) (k:keepIn K (.ref f)=true:=by k_is):At K x st f (fnOf x x (L2.pH st) (L2.jQ st) (L2.aT st) .none kV doc pm an oh ct):=⟨a,L2.X6 l c k⟩
structure mT(P:bT)(w:World)(K:Frag)(mg:Str->Option Value)(base:Heap)(CX:L2.PC)(k:Nat)(f:Addr)(fd:aG)(x:Str)(ps:List Str)(sp:L2.Sp):Prop where
 ok:L2.gf P w K mg base CX k f fd ps sp
 mg:mg x=some (.ref f)
 kp:keepIn K (.ref f)=true
 bi:L2.Binds K fd ps []
end K2
end
section
namespace K2
open PySem (Str)
open Enc (enc)
theorem jF{α:Type} [DecidableEq α] [Enc α]{G G1:Gp}{p:Nat}{xs:List α}{Q:DK}(l:iH G G1)(hp:G p=none)(h1:G1 p=some (.lst (xs.map enc)))(q:Q (enc xs) G):TZ G1 (.ref p) Q :=
 tP l hp h1 (GA.same _) q
theorem gK{α:Type}{f:α->D}{g:CD}{body:iC}{ok:Gp->Prop}{xs:List α}{E:md}{K:nF}{τ:iS}{G:Gp}(I:List α->iS->Gp->Prop)
  (h0:I [] τ G) (cB:∀ Wp τ G,I Wp τ G->ok G)
  (step:∀ (Wp:List α) (x:α) (Uf:List α) τ G (N:iS->Gp->Prop),xs=Wp++x :: Uf->I Wp τ G->(∀ ye G2,I (Wp++[x]) ye G2->N ye G2) ->
   g E (f x) τ G fun qJ G1=>body E { K with nx:=N,ct:=N,bk:=K.nx } qJ G1)
  (fin:∀ τ G,I xs τ G->K.nx τ G):va g body ok (xs.map f) E K τ G:=by
 have main:∀ (Uf Wp:List α) τ G,xs=Wp++Uf->I Wp τ G->va g body ok (Uf.map f) E K τ G:=by
  intro Uf;induction Uf with
  | nil =>
   intro Wp τ G e h;rw [bL] at e;subst e;exact⟨cB _ _ _ h,fin _ _ h⟩
  | cons d Uf ih =>
   intro Wp τ G e h;refine⟨cB _ _ _ h,?_⟩;exact step Wp d Uf τ G _ e h fun ye G2 h2=>ih (Wp++[d]) ye G2 (by rw [e,cG]; rfl) h2
 exact main xs [] τ G rfl h0
theorem gI{α:Type}{f:α->D}{g:CD}{c:Option zM}{e:gN}{ok:Gp->Prop}{xs:List α}{E:md}{τ:iS}{G:Gp}{Q:List D->Gp->Prop}(I:List α->List D->iS->Gp->Prop)
  (h0:I [] [] τ G) (cB:∀ Wp WF τ G,I Wp WF τ G->ok G)
  (step:∀ (Wp:List α) (x:α) (Uf:List α) (WF:List D) τ G (N:iS->List D->Gp->Prop),xs=Wp++x :: Uf->I Wp WF τ G->(∀ ye yS G2,I (Wp++[x]) yS ye G2->N ye yS G2) ->
   g E (f x) τ G fun qJ G1=>match c with
    | none=>e E qJ G1 fun x G2=>N qJ (WF++[x]) G2
    | some c=>c E qJ G1 fun k G2=>if k=true then e E qJ G2 fun x G3=>N qJ (WF++[x]) G3 else N qJ WF G2)
  (fin:∀ WF τ G,I xs WF τ G->Q WF G):j0 g c e ok (xs.map f) E τ G [] Q:=by
 have main:∀ (Uf Wp:List α) (WF:List D) τ G,xs=Wp++Uf->I Wp WF τ G->j0 g c e ok (Uf.map f) E τ G WF Q:=by
  intro Uf;induction Uf with
  | nil =>
   intro Wp WF τ G e h;rw [bL] at e;subst e;exact⟨cB _ _ _ _ h,fin _ _ _ h⟩
  | cons d Uf ih =>
   intro Wp WF τ G e' h;refine⟨cB _ _ _ _ h,?_⟩;have:=step Wp d Uf WF τ G (fun ye yS G2=>j0 g c e ok (Uf.map f) E ye G2 yS Q) e' h fun ye yS G2 h2=>ih (Wp++[d]) yS ye G2 (by rw [e',cG]; rfl) h2;cases c with
   | none=>exact this
   | some c=>exact this
 exact main xs [] [] τ G rfl h0
theorem iO{α:Type} [DecidableEq α] [Enc α]{xs:List α}{G:Gp}{R:List D->(Gp->Prop)->Gp->Prop}(h:R (xs.map enc) (fun _=>True) G):TJ (enc xs) G R:=h
theorem mC{α:Type} [DecidableEq α] [Enc α]{xs:List α}{G:Gp}{R:List D->(Gp->Prop)->Gp->Prop}(h:R (lC 0 (xs.map enc)) (fun _=>True) G):xb (enc xs) G R:=h
theorem B4{n:Nat}(h:n<=1000):n<=SZ:=by unfold SZ; lia
theorem Kx{n:Nat}(h:n<=1000):n < SZ:=by unfold SZ; lia
abbrev Rows:=List (List T3)
def T3.s(p:T3):T2:=⟨p.a,p.b⟩
structure Dr(XV:Rows):Prop where
 nd:(XV.flatten.map T3.s).Nodup
 way:∀ p∈XV.flatten,p.b=0\/p.b=1
 hand:∀ p∈XV.flatten,p.c=1\/p.c=-1
 K6:∀ p∈XV.flatten,(⟨p.a,1 - p.b,p.c⟩:T3)∈XV.flatten
 nE:XV.flatten.length<=24
 str:XV.length<=3
namespace P
def k7:mw:=Zh (fun XV:Rows=>XV.flatten.length<=1000) fun XV=>XV.flatten
def sU:iC :=
 (cD (bM (nq bc) (aJ 1))
 (cD (gB (lZ (au 0)) (aJ 2) (i0 (BI Ce wX (au 1) (aB (au 2) bc))))
 (cT (fQ (au 1)))))
theorem BO(ds:List D)(G:Gp)(Q:DK)(h:k7 ds G Q fun _ _=>False):sU (fun _ _=>False) (ends Q) (bC 3 ds) G:=by
 obtain⟨XV,rfl,hl,q⟩:=h;unfold sU;simp only [ends,bC,av,aX,aj,ay,aI,aO,aU,cU,bM,nq,bc,aJ,ar,ai];refine⟨by decide,fun p hp=>?_⟩;refine fX (fun τ G'=>(∃ b,τ=[some (enc XV),some (.ref p),b])/\iH G G'/\G' p=some (.lst (XV.flatten.map enc))) ?_ ?_
 ·intro N hN;simp only [gB,fh,au,aa];refine iO ?_;refine gK (xs:=XV) (fun Wp τ G'=>(∃ b,τ=[some (enc XV),some (.ref p),b])/\iH G G'/\G' p=some (.lst (Wp.flatten.map enc))) ⟨⟨_,rfl⟩,.new hp,aM⟩ (fun _ _ _ _=>trivial) ?_ ?_
  ·rintro Wp r Uf τ G' N2 e ⟨⟨b,rfl⟩,l,gp⟩ oI;have hlen:Wp.flatten.length+r.length<=XV.flatten.length:=by
    rw [e]; simp only [jl,bS,aw]; lia
   simp only [aJ,i0,BI,au,ar,ai,ae,aa,o7,gp,aB,bc,pC,Bf (IsL.enc r),true_and];refine⟨B4 (by simp only [ag]; lia),?_⟩;refine oI _ _ ⟨⟨_,rfl⟩,l.put hp,?_⟩;rw [aM]; simp
  ·rintro τ G' ⟨⟨b,rfl⟩,l,gp⟩;exact hN _ _ ⟨⟨_,rfl⟩,l,gp⟩
 ·rintro _ G' ⟨⟨b,rfl⟩,l,gp⟩;simp only [cT,fQ,au,ae,aa];exact jF l hp gp q
theorem nj(p:T3):(enc p:D)=.tup [.int p.a,.int p.b,.int p.c]:=rfl
theorem BD(p:T2):(enc p:D)=.tup [.int p.a,.int p.b]:=rfl
theorem Vo(i:Int):(enc i:D)=.int i:=rfl
theorem at0{a:D}{r:List D}:pL (a :: r) 0=some a:=by
 rw [lG _ (by lia) (by simp)]; rfl
theorem Gv{a b:D}{r:List D}:pL (a :: b :: r) 1=some b:=by
 rw [lG _ (by lia) (by simp; lia)]; rfl
theorem at2{a b c:D}{r:List D}:pL (a :: b :: c :: r) 2=some c:=by
 rw [lG _ (by lia) (by simp; lia)]; rfl
def names(XV:Rows):List Int:=Mz ((XV.flatten.filter fun p=>p.b == 0).map (·.a))
def pf:mw:=Zh (fun XV:Rows=>XV.flatten.length < 64) names
def za:iC :=
 (cT (fQ (og Ak (aB (eF 1 [] (lZ (bW k7 (aB (au 0) bc))) (aJ 0) (some (gL (a9 (A1 false) (a9 ky (au 0) (dC (.int 1))) (dC (.int 0))))) (a9 ky (au 0) (dC (.int 0)))) bc))))
theorem Jl(ds:List D)(G:Gp)(Q:DK)(h:pf ds G Q fun _ _=>False):za (fun _ _=>False) (ends Q) (bC 1 ds) G:=by
 obtain⟨XV,rfl,hl,q⟩:=h;unfold za;simp only [cT,fQ,og,aB,eF,bC,av,aX,aj,ay,aO,aU,bc,ends,fh,bW,au,aa];refine⟨XV,rfl,(show XV.flatten.length<=1000 by lia),iO ⟨B4 (by rw [ag]; show XV.flatten.length<=1000; lia),?_⟩⟩;refine gI (xs:=XV.flatten) (fun Wp WF τ G'=>G=G'/\(∃ a,τ=[a])/\WF=((Wp.filter fun p=>p.b == 0).map (·.a)).map enc) ⟨rfl,⟨_,rfl⟩,rfl⟩ (fun _ _ _ _ _=>trivial) ?_ ?_
 ·rintro Wp x Uf WF τ G' N e ⟨rfl,⟨a,rfl⟩,rfl⟩ hN;simp only [aJ,nj,ai,a9,au,aa,dC,iz,at0,di,Gv];refine⟨_,_,.int _,.int _,?_⟩;simp only [aC,vK,if_false,bF];split
  ·rename_i h;refine hN _ _ _ ⟨rfl,⟨_,rfl⟩,?_⟩;simp [cS,jK,h,Vo]
  ·rename_i h;refine hN _ _ _ ⟨rfl,⟨_,rfl⟩,?_⟩;simp [cS,jK,h]
 ·rintro WF τ G' ⟨rfl,⟨a,rfl⟩,rfl⟩ p hp;refine LQ (IsL.ref aM) (by rw [ag]; exact sg (dU _ _) hl) fun p2 hp2=>?_;exact jF ((iH.new hp).trans (.new hp2)) ((iH.new hp).free hp2) aM q
def bV(row:List T3)(i:Int):List T2:=if row=[] then [⟨i,2⟩] else row.map T3.s
def o9:mw:=ace (fun (row:List T3) (_:Int)=>row.length<=1000) bV
def y8:iC :=
 (cD (mI (vO (gL (au 0))) (cT (fQ (nq (aB (iZ (aB (au 1) (aB (dC (.int 2)) bc))) bc)))) eE)
 (cT (fQ (eF 1 [] (lZ (au 0)) (aJ 0) none (CB (au 0) gM (qw (dC (.int 2))))))))
theorem Wa(p:T3):cut [D.int p.a,D.int p.b,D.int p.c] none (some 2)=[D.int p.a,D.int p.b]:=rfl
theorem Jk(ds:List D)(G:Gp)(Q:DK)(h:o9 ds G Q fun _ _=>False):y8 (fun _ _=>False) (ends Q) (bC 2 ds) G:=by
 obtain⟨row,i,rfl,hl,q⟩:=h;unfold y8;refine fX (fun τ G'=>G=G'/\τ=[some (enc row),some (enc i)]/\row≠[]) ?_ ?_
 ·intro N hN;simp only [mI,vO,bC,av,aX,aj,ay,aO,aU,cT,fQ,nq,aB,iZ,au,ae,aa,dC,bc,ends,eE,di];refine AG (IsL.enc row) ?_;cases row with
  | nil =>
   simp only [aX,vd,bG,cW,if_true];refine⟨by decide,by decide,fun p hp=>jF (xs:=[(⟨i,2⟩:T2)]) (.new hp) hp aM ?_⟩;exact q
  | cons a r =>
   simp only [av,List.isEmpty_cons,cW,bG,aC,if_false];exact hN _ _ ⟨rfl,rfl,by simp⟩
 rintro _ _ ⟨rfl,rfl,kX⟩;simp only [cT,fQ,eF,ends,fh,au,aa];refine iO ⟨B4 (by rw [ag]; exact hl),?_⟩;refine gI (xs:=row) (fun Wp WF τ G'=>G=G'/\(∃ a,τ=[a])/\WF=(Wp.map T3.s).map enc) ⟨rfl,⟨_,rfl⟩,rfl⟩ (fun _ _ _ _ _=>trivial) ?_ ?_
 ·rintro Wp x Uf WF τ G' N e ⟨rfl,⟨a,rfl⟩,rfl⟩ hN;simp only [aJ,CB,au,nj,ai,aa,gM,qS,aj,ay,ko,dC,gU];refine⟨by decide,hN _ _ _ ⟨rfl,⟨_,rfl⟩,?_⟩⟩;rw [aH,aH]; rfl
 ·rintro WF τ G' ⟨rfl,⟨a,rfl⟩,rfl⟩ p hp;refine jF (.new hp) hp aM ?_;have:bV row i=row.map T3.s:=by unfold bV; rw [if_neg kX]
  rw [<-this]; exact q
def jw:Rows->Nat->List T2
 | [],_=>[]
 | r :: rs,k=>bV r (k:Int)++jw rs (k+1)
def Zg(XV:Rows):List T2:=Mz (jw XV 0)
theorem BC(xs:List (List T3)):lC 0 (xs.map enc)=(xs.zipIdx 0).map fun p=>D.tup [.int (p.2:Int),enc p.1]:=by
 have:∀ (xs:List (List T3)) (k:Nat),lC k (xs.map enc)=(xs.zipIdx k).map fun p=>D.tup [.int (p.2:Int),enc p.1]:=by
  intro xs;induction xs with
  | nil=>intro k; rfl
  | cons x xs ih=>intro k; rw [av,lC,ih,o6,av]
 exact this xs 0
theorem qK{α:Type}{xs:List α}{Wp Uf:List (α×Nat)}{x:α×Nat}(h:xs.zipIdx 0=Wp++x :: Uf):∃ l r,xs=l++x.1 :: r/\x.2=l.length/\Wp=l.zipIdx 0:=by
 have e1:xs=(Wp.map (·.1))++x.1 :: Uf.map (·.1):=by
  have:=congrArg (List.map (·.1)) h;rw [ik] at this;rw [this]; simp
 have hl:Wp.length < (xs.zipIdx 0).length:=by rw [h]; simp
 have hx:(xs.zipIdx 0)[Wp.length]?=some x:=by rw [h]; simp
 refine⟨Wp.map (·.1),Uf.map (·.1),e1,?_,?_⟩
 ·rw [List.getElem?_zipIdx] at hx;rw [ag];cases q:xs[Wp.length]? with
  | none=>rw [q] at hx; cases hx
  | some y=>rw [q] at hx; simp at hx; rw [<-hx]
 ·have:(Wp.map (·.1)).zipIdx 0=(xs.zipIdx 0).take Wp.length:=by
   conv=>rhs; rw [e1,List.zipIdx_append]
   rw [List.take_append_of_le_length (by simp)];rw [iu (by simp)]
  rw [this,h]; simp
theorem aep{a b c:D}:cut [a,b,c] none (some 2)=[a,b]:=rfl
theorem ON{α:Type} [DecidableEq α] [Enc α](xs:List α)(G:Gp):wZ (enc xs) G=some (xs.map enc,fun _=>True):=rfl
theorem OM{a:Nat}{ds:List D}{G:Gp}(h:G a=some (.lst ds)):wZ (.ref a) G=some (ds,fun G2=>G2 a=some (.lst ds)):=by unfold wZ; simp only [h]
theorem GP{α β:Type} [DecidableEq α] [Enc α] [DecidableEq β] [Enc β]:∀ (xs:List α) (ys:List β),qL (xs.map enc) (ys.map enc)=(xs.zip ys).map fun p=>D.tup [enc p.1,enc p.2]
 | [],ys=>by simp [qL]
 | x :: xs,[]=>by simp [qL]
 | x :: xs,y :: ys=>by simp [qL,GP xs ys]
theorem kO{κ α:Type} [DecidableEq κ] [Enc κ] [vV κ] [DecidableEq α] [Enc α]{a:Nat}{l:List (κ×α)}{k:κ}{v:α}{G:Gp}{Q:Gp->Prop}(h:G a=some (.jg (bI l)))(hl:l.length<=1000)(q:Q (fG G a (.jg (bI (oZ l k v))))):wy (.ref a) (enc k) (enc v) G Q:=by
 unfold wy;simp only [h];refine⟨gz l k,?_,by rw [MQ]; exact q⟩;unfold bI; rw [ag]; exact Kx hl
def iI(r:List T3):List T3:=r.drop 1++r.take 1
def pairsOf(XV:Rows):List (T3×T3):=XV.flatMap fun r=>r.zip (iI r)
def kh(ps:List (T3×T3)):List (T2×T2):=ps.foldl (fun l p=>oZ l p.1.s p.2.s) []
theorem Dl(ps:List (T3×T3)):(kh ps).length<=ps.length:=by
 have:∀ (ps:List (T3×T3)) (l:List (T2×T2)),(ps.foldl (fun l p=>oZ l p.1.s p.2.s) l).length<=l.length+ps.length:=by
  intro ps;induction ps with
  | nil=>intro l; simp
  | cons p ps ih =>
   intro l;rw [dO,aj];have h1:=ih (oZ l p.1.s p.2.s);have h2:=Ji l p.1.s p.2.s;lia
 simpa [kh] using this ps []
theorem K3(ps:List (T3×T3))(p:T3×T3):kh (ps++[p])=oZ (kh ps) p.1.s p.2.s:=by unfold kh; rw [kK]; rfl
def qQ:mw:=fun ds G Q _=>∃ XV:Rows,ds=[enc XV]/\XV.flatten.length<=500/\Q (.lI (bI (kh (pairsOf XV)))) G
theorem pairs_len(XV:Rows):(pairsOf XV).length<=XV.flatten.length:=by
 unfold pairsOf;induction XV with
 | nil=>simp
 | cons r rs ih=>simp only [hX,bS,aw,qB]; lia
def AW:iC :=
 (cD (bM vP (aJ 1))
 (cD (gB (lZ (au 0)) (aJ 2) (gB (Lf (au 2) (a9 se (CB (au 2) (qw (dC (.int 1))) gM) (CB (au 2) gM (qw (dC (.int 1)))))) (nO (fK (aJ 3) (fK (aJ 4) ng))) (bM (CB (au 4) gM (qw (dC (.int 2)))) (oJ (au 1) (CB (au 3) gM (qw (dC (.int 2))))))))
 (cT (fQ (au 1)))))
theorem LV(ds:List D)(G:Gp)(Q:DK)(h:qQ ds G Q fun _ _=>False):AW (fun _ _=>False) (ends Q) (bC 5 ds) G:=by
 obtain⟨XV,rfl,hl,q⟩:=h;unfold AW;simp only [ends,bC,av,aX,aj,ay,aI,aO,aU,cU,bM,vP,jH,aJ,ar,ai];intro d hd;refine fX (fun τ G'=>(∃ a b c,τ=[some (enc XV),some (.ref d),a,b,c])/\iH G G'/\G' d=some (.jg (bI (kh (pairsOf XV))))) ?_ ?_
 ·intro N hN;simp only [gB,fh,au,aa];refine iO ?_;refine gK (xs:=XV) (fun Wp τ G'=>(∃ a b c,τ=[some (enc XV),some (.ref d),a,b,c])/\iH G G'/\G' d=some (.jg (bI (kh (pairsOf Wp))))) ⟨⟨_,_,_,rfl⟩,.new hd,aM⟩ (fun _ _ _ _=>trivial) ?_ ?_
  ·rintro Wp r Uf τ G' N2 e ⟨⟨a,b,c,rfl⟩,l,gd⟩ oI;have hr:Wp.flatten.length+r.length<=XV.flatten.length:=by
    rw [e]; simp only [jl,bS,aw]; lia
   simp only [aJ,gB,Lf,au,ar,ai,ae,aa,a9,CB,gM,ko,dC,gU];refine QV (IsL.enc r) fun p1 h1=>?_;refine QV (IsL.enc r) fun p2 h2=>?_;have d1:d≠p1:=by rintro rfl; rw [gd] at h1; cases h1
   have l1:=l.trans (iH.new (o:=.lst (cut (r.map enc) (some 1) none)) h1);have d2:d≠p2:=by rintro rfl; rw [fe d1,gd] at h2; cases h2
   have h12:p1≠p2:=by rintro rfl; rw [aM] at h2; cases h2
   refine UJ (IsL.ref (by rw [fe h12,aM])) (IsL.ref aM) ?_ fun p3 h3=>?_
   ·rw [uo,uo,ag,ag];have e1:(cut r (some 1) none).length<=r.length:=by unfold cut; rw [eA,c6]; lia
    have e2:(cut r none (some 1)).length<=r.length:=by unfold cut; rw [eA,c6]; lia
    exact B4 (by lia)
   have d3:d≠p3:=by rintro rfl; rw [fe d2,fe d1,gd] at h3; cases h3
   have et:cut (r.map enc) (some 1) none++cut (r.map enc) none (some 1)=(iI r).map enc:=by
    rw [uo,uo,<-aH];congr 1;cases r with
    | nil=>rfl
    | cons x r=>rw [show (1:Int)=((1:Nat):Int) from rfl,SS _ _ (by simp),Yg _ _ (by simp)]; rfl
   rw [et];generalize hG3:fG (fG (fG G' p1 (.lst (cut (r.map enc) (some 1) none))) p2 (.lst (cut (r.map enc) none (some 1)))) p3 (.lst ((iI r).map enc))=G3;have g3:G3 p3=some (.lst ((iI r).map enc)):=by rw [<-hG3,aM]
   have gd3:G3 d=some (.jg (bI (kh (pairsOf Wp)))):=by rw [<-hG3,fe d3,fe d2,fe d1]; exact gd
   have l3:iH G G3:=by rw [<-hG3]; exact(l1.trans (.new h2)).trans (.new h3)
   unfold vE;rw [ON,OM g3];dsimp only;rw [GP];refine gK (xs:=r.zip (iI r)) (fun pp τ G'=>(∃ a b c,τ=[some (enc XV),some (.ref d),a,b,c])/\iH G G'/\G' d=some (.jg (bI (kh (pairsOf Wp++pp))))/\G' p3=some (.lst ((iI r).map enc)))
    ⟨⟨_,_,_,rfl⟩,l3,by rw [bL]; exact gd3,g3⟩ (fun _ _ _ h=>⟨trivial,h.2.2.2⟩) ?_ ?_
   ·rintro pp x Uf τ G4 N3 e4 ⟨⟨a,b,c,rfl⟩,l4,gd4,gp4⟩ xi;have hz:(pairsOf Wp++pp).length<=1000:=by
     have:=pairs_len Wp;have h5:pp.length < (r.zip (iI r)).length:=by rw [e4]; simp
     rw [qB] at h5;rw [aw]; lia
    simp only [nO,fK,aJ,ng,bM,CB,au,nj,ar,ai,ae,aa,gM,oJ,qS,aj,ay,ko,dC,gU,aep];refine⟨by decide,by decide,?_⟩;refine kO (k:=x.1.s) (v:=x.2.s) gd4 (cw (Dl _) hz) ?_;refine xi _ _ ⟨⟨_,_,_,rfl⟩,l4.put hd,?_,by rw [fe (fB d3)]; exact gp4⟩;rw [aM,<-cG,K3]
   ·rintro τ G4 ⟨⟨a,b,c,rfl⟩,l4,gd4,gp4⟩;refine oI _ _ ⟨⟨_,_,_,rfl⟩,l4,?_⟩;have:pairsOf (Wp++[r])=pairsOf Wp++r.zip (iI r):=by unfold pairsOf; simp
    rw [this]; exact gd4
  ·rintro τ G' ⟨⟨a,b,c,rfl⟩,l,gd⟩;exact hN _ _ ⟨⟨_,_,_,rfl⟩,l,gd⟩
 ·rintro _ G' ⟨⟨a,b,c,rfl⟩,l,gd⟩;simp only [cT,fQ,au,ae,aa];exact yA l hd gd q
def km(s:T2):T3:=⟨s.a,s.b,0⟩
def QO(s:T2):T3:=⟨s.a,s.b,1⟩
def WL(ss:List T2):List T3:=ss.flatMap fun s=>[km s,QO s]
def nP(l:List (T2×T2)):List (T2×T2):=l.foldl (fun c p=>oZ c ((rL l p.1).getD p.2) p.1) []
def xB(l ps:List (T2×T2)):List (T2×T2):=ps.foldl (fun c p=>oZ c ((rL l p.1).getD p.2) p.1) []
theorem Tb{κ α:Type} [DecidableEq κ] [Enc κ] [DecidableEq α] [Enc α]{l:List (κ×α)}{p:κ×α}(h:p∈l):∃ v,rL l p.1=some v:=by
 unfold rL;cases q:l.find? (fun x=>decide (x.1=p.1)) with
 | none=>rw [List.find?_eq_none] at q; exact absurd (by simp) (q p h)
 | some x=>exact⟨_,rfl⟩
def nK:mw:=fun ds G Q _=>∃ XV:Rows,ds=[enc XV]/\XV.flatten.length<=500/\Q (.lI (bI (nP (kh (pairsOf XV))))) G
def wO:iC :=
 (cD (bM (bW qQ (aB (au 0) bc)) (aJ 1))
 (cD (bM vP (aJ 2))
 (cD (gB (H0 (au 1)) (aJ 3) (bM (au 3) (oJ (au 2) (a9 ky (au 1) (au 3)))))
 (cT (fQ (au 2))))))
theorem IW(l ps:List (T2×T2)):(xB l ps).length<=ps.length:=by
 have:∀ (ps c:List (T2×T2)),(ps.foldl (fun c p=>oZ c ((rL l p.1).getD p.2) p.1) c).length<=c.length+ps.length:=by
  intro ps;induction ps with
  | nil=>intro c; simp
  | cons p ps ih =>
   intro c;rw [dO,aj];have h1:=ih (oZ c ((rL l p.1).getD p.2) p.1);have h2:=Ji c ((rL l p.1).getD p.2) p.1;lia
 simpa [xB] using this ps []
theorem Gb(ds:List D)(G:Gp)(Q:DK)(h:nK ds G Q fun _ _=>False):wO (fun _ _=>False) (ends Q) (bC 4 ds) G:=by
 obtain⟨XV,rfl,hl,q⟩:=h;unfold wO;simp only [ends,bC,av,aX,aj,ay,aI,aO,aU,cU,bM,bW,aB,au,aa,bc,aJ,ar,ai,vP];refine⟨XV,rfl,hl,?_⟩;simp only [jH];intro c hc;have hn:(kh (pairsOf XV)).length<=500:=cw (Dl _) (cw (pairs_len XV) hl);generalize hL:kh (pairsOf XV)=L at *;refine fX (fun τ G'=>(∃ b,τ=[some (enc XV),some (.lI (bI L)),some (.ref c),b])/\iH G G'/\G' c=some (.jg (bI (xB L L)))) ?_ ?_
 ·intro N hN;simp only [gB,H0,au,ae,aa,Ab];have ek:(bI L).map (·.1)=L.map fun p=>enc p.1:=by unfold bI; rw [bU]; rfl
  rw [ek];refine gK (xs:=L) (fun Wp τ G'=>(∃ b,τ=[some (enc XV),some (.lI (bI L)),some (.ref c),b])/\iH G G'/\G' c=some (.jg (bI (xB L Wp)))) ⟨⟨_,rfl⟩,.new hc,aM⟩ (fun _ _ _ _=>trivial) ?_ ?_
  ·rintro Wp x Uf τ G' N2 e ⟨⟨b,rfl⟩,l,gc⟩ oI;have hx:x∈L:=by rw [e]; simp
   obtain⟨v,hv⟩:=Tb hx;have OW:Wp.length<=500:=by have:=congrArg dF e; simp at this; lia
   simp only [aJ,bM,au,ar,ai,ae,aa,oJ,a9,qT,kj,hv,Gf];refine⟨gz _ _,?_⟩;refine kO (k:=v) (v:=x.1) gc (cw (IW _ _) (by lia)) ?_;refine oI _ _ ⟨⟨_,rfl⟩,l.put hc,?_⟩;rw [aM];unfold xB;rw [kK,dO,Mj,hv];rfl
  ·rintro τ G' ⟨⟨b,rfl⟩,l,gc⟩;exact hN _ _ ⟨⟨_,rfl⟩,l,gc⟩
 ·rintro _ G' ⟨⟨b,rfl⟩,l,gc⟩;simp only [cT,fQ,au,ae,aa];exact yA l hc gc q
end P
end K2
end
section
namespace K2
open PySem (Str)
open Enc (enc)
class inductive Cn {α:Type} (ps:List (α×α)):α->α->Prop
 | refl (x:α):Cn ps x x
 | pair {x y:α}:(x,y)∈ps->Cn ps x y
 | symm {x y:α}:Cn ps x y->Cn ps y x
 | trans {x y z:α}:Cn ps x y->Cn ps y z->Cn ps x z
theorem UH{α:Type} [DecidableEq α] [Enc α]{neg:Bool}{x:α}{xs:List α}{G:Gp}{Q:DK}(hd:Enc.dep α<=7)(q:Q (.bl (if neg then !decide (x∈xs) else decide (x∈xs))) G):KO neg (enc x) (enc xs) G Q:=by
 refine⟨enc x,xs.map enc,Enc.sn _ _ _ (by unfold SN; lia),yh G 7 hd xs,?_⟩;rw [NQ]; exact q
theorem MN{α:Type} [DecidableEq α] [Enc α]{neg:Bool}{x y:α}{G:Gp}{Q:DK}(hd:Enc.dep α<=8)(q:Q (.bl (if neg then !decide (x=y) else decide (x=y))) G):A1 neg (enc x) (enc y) G Q:=by
 refine⟨enc x,enc y,Enc.sn _ _ _ hd,Enc.sn _ _ _ hd,?_⟩;rw [Enc.eqv]; exact q
class L8 (α:Type) [DecidableEq α] [Enc α] [cg α] where
 mn:∀ {x:D} {G:Gp} {xs:List α} {Q:DK},itemsOf x G=some (xs.map enc)->xs≠[]->(∀ m∈xs,(∀ y∈xs,Cm m y=true)->Q (enc m) G)->aeq [x] G Q
theorem rz{α:Type} [DecidableEq α] [Enc α] [cg α]:∀ (r:List α) (a:α),r.foldl (fun m x=>if cg.lt x m=true then x else m) a∈a :: r/\∀ y∈a :: r,Cm (r.foldl (fun m x=>if cg.lt x m=true then x else m) a) y=true
 | [],a=>⟨by simp,fun y hy=>by rw [List.mem_singleton.mp hy]; unfold Cm; rw [Mj,cg.TH]; rfl⟩
 | b :: r,a=>by
  rw [dO];by_cases c:cg.lt b a=true
  ·rw [if_pos c];obtain⟨h1,h2⟩:=rz r b;refine⟨ax _ h1,fun y hy=>?_⟩;rcases List.mem_cons.mp hy with rfl | hy
   ·refine yw _ _ _ (h2 b (by simp)) ?_;unfold Cm;cases q:cg.lt y b with
    | false=>rfl
    | true=>have:=cg.trans _ _ _ q c; rw [cg.TH] at this; cases this
   ·exact h2 y hy
  ·rw [if_neg c];obtain⟨h1,h2⟩:=rz r a;refine⟨?_,fun y hy=>?_⟩
   ·rcases List.mem_cons.mp h1 with h | h
    ·rw [h]; simp
    ·exact ax _ (ax _ h)
   ·rcases List.mem_cons.mp hy with rfl | hy
    ·exact h2 y (by simp)
    ·rcases List.mem_cons.mp hy with rfl | hy
     ·refine yw _ _ _ (h2 a (by simp)) ?_;unfold Cm; simpa using c
     ·exact h2 y (ax _ hy)
instance:L8 Int where
 mn:=by
  intro x G xs Q hi kX k;cases xs with
  | nil=>exact absurd rfl kX
  | cons a r =>
   obtain⟨h1,h2⟩:=rz r a;refine .inl ⟨a :: r,_,hi,rfl,?_⟩;have:(fun (m x:Int)=>if x < m then x else m)=fun m x=>if cg.lt x m=true then x else m:=by
    funext m x;show (if x < m then x else m)=if decide (x < m)=true then x else m
    simp
   show Q (enc (r.foldl (fun m x=>if x < m then x else m) a)) G;rw [this];exact k _ h1 h2
theorem Bi:∀ (x y:List Int),w7 (fun a b=>decide (a < b)) x y=lexLt x y
 | [],[]=>rfl
 | [],_ :: _=>rfl
 | _ :: _,[]=>rfl
 | a :: x,b :: y=>by simp only [Bj,lexLt,Bi x y]
instance:L8 T3 where
 mn:=by
  intro x G xs Q hi kX k;cases xs with
  | nil=>exact absurd rfl kX
  | cons a r =>
   obtain⟨h1,h2⟩:=rz r a;have ei:itemsOf x G=some (((a :: r).map T3.l).map tI):=by rw [hi,bU]; rfl
   refine .inr ⟨(a :: r).map T3.l,_,ei,rfl,?_⟩;have:∀ (r:List T3) (a:T3),(r.map T3.l).foldl (fun m x=>if lexLt x m=true then x else m) a.l=(r.foldl (fun m x=>if cg.lt x m=true then x else m) a).l:=by
    intro r;induction r with
    | nil=>intro a; rfl
    | cons b r ih =>
     intro a;rw [av,dO,dO];have e:(if lexLt b.l a.l=true then b.l else a.l)=(if cg.lt b a=true then b else a).l:=by
      have:cg.lt b a=lexLt b.l a.l:=Bi _ _;rw [this];split <;> rfl
     rw [e]; exact ih _
   rw [this r a];exact k _ h1 h2
namespace P
section
variable {α:Type} [DecidableEq α] [Enc α] [cg α] [vV α] [L8 α]
structure GI(ms:List α)(ps:List (α×α))(l:List (α×List α)):Prop where
 len:l.length<=64
 at':∀ m∈ms,∃ g,rL l m=some g/\g.Nodup/\∀ x,x∈g↔Cn ps m x
end
end P
end K2
end
section
namespace K2
open PySem (Str)
open Enc (enc)
namespace P
theorem tW{κ β:Type} [DecidableEq κ]{l:List (κ×β)}{k:κ}{v:β}(h:k∉l.map (·.1)):oZ l k v=l++[(k,v)]:=by
 unfold oZ;rw [if_neg];intro q;obtain⟨p,h1,h2⟩:=List.any_eq_true.mp q;exact h (List.mem_map.mpr ⟨p,h1,by simpa using h2⟩)
theorem Bv{κ β γ:Type} [DecidableEq κ](kf:γ->κ)(vf:γ->β):∀ (ps:List γ) (l:List (κ×β)),(l.map (·.1)++ps.map kf).Nodup->ps.foldl (fun l p=>oZ l (kf p) (vf p)) l=l++ps.map fun p=>(kf p,vf p)
 | [],l,_=>by simp
 | p :: ps,l,h=>by
  rw [dO,tW (fun z=>by
   rw [av,cb] at h;exact h.2.2 _ z _ (by simp) rfl),Bv kf vf ps _ (by simpa using h)]
  simp
theorem iG{κ β:Type} [DecidableEq κ]:∀ {l:List (κ×β)} {p:κ×β},(l.map (·.1)).Nodup->p∈l->rL l p.1=some p.2
 | q :: l,p,hn,h=>by
  unfold rL;rw [ip];rcases List.mem_cons.mp h with rfl | h
  ·simp
  ·rw [av,cN] at hn;have:q.1≠p.1:=fun z=>hn.1 (by rw [z]; exact aW h);simp only [this,decide_false];exact iG hn.2 h
theorem yW(r:List T3):(iI r).length=r.length:=by unfold iI; rw [aw,c6,eA]; lia
theorem Ep(r:List T3):(iI r).Perm r:=by
 unfold iI;exact List.perm_append_comm.trans (by rw [gJ])
theorem Dj(XV:Rows):(pairsOf XV).map (·.1)=XV.flatten:=by
 unfold pairsOf;induction XV with
 | nil=>rfl
 | cons r rs ih =>
  rw [hX,aH,ih,bS];congr 1;rw [List.map_fst_zip]; rw [yW]; exact aK _
theorem Di(XV:Rows):((pairsOf XV).map (·.2)).Perm XV.flatten:=by
 unfold pairsOf;induction XV with
 | nil=>exact .refl _
 | cons r rs ih =>
  rw [hX,aH,bS];refine List.Perm.append ?_ ih;rw [List.map_snd_zip]
  ·exact Ep r
  ·rw [yW]; exact aK _
variable {XV:Rows}
theorem Sl(d:Dr XV):((pairsOf XV).map fun p=>p.1.s).Nodup:=by
 have:((pairsOf XV).map fun p=>p.1.s)=XV.flatten.map T3.s:=by rw [<-Dj,bU]; rfl
 rw [this]; exact d.nd
theorem QC(d:Dr XV):((pairsOf XV).map fun p=>p.2.s).Nodup:=by
 have:((pairsOf XV).map fun p=>p.2.s)=((pairsOf XV).map (·.2)).map T3.s:=by rw [bU]; rfl
 rw [this,((Di XV).map T3.s).nodup_iff]; exact d.nd
theorem Rl(d:Dr XV):kh (pairsOf XV)=(pairsOf XV).map fun p=>(p.1.s,p.2.s):=by
 unfold kh;rw [Bv (fun p:T3×T3=>p.1.s) (fun p=>p.2.s) _ _ (by simpa using Sl d)]; rfl
theorem LN(d:Dr XV):nP (kh (pairsOf XV))=(pairsOf XV).map fun p=>(p.2.s,p.1.s):=by
 rw [Rl d];generalize hL:((pairsOf XV).map fun p=>(p.1.s,p.2.s))=L;have hk:(L.map (·.1)).Nodup:=by rw [<-hL,bU]; exact Sl d
 have hv:(L.map (·.2)).Nodup:=by rw [<-hL,bU]; exact QC d
 have e:nP L=L.foldl (fun c p=>oZ c p.2 p.1) []:=by
  unfold nP;have:∀ (ps:List (T2×T2)) (c:List (T2×T2)),(∀ p∈ps,p∈L)->ps.foldl (fun c p=>oZ c ((rL L p.1).getD p.2) p.1) c=ps.foldl (fun c p=>oZ c p.2 p.1) c:=by
   intro ps;induction ps with
   | nil=>intro c _; rfl
   | cons p ps ih =>
    intro c h;rw [dO,dO,iG hk (h p (by simp))];exact ih _ fun q hq=>h q (ax _ hq)
  exact this L [] fun p h=>h
 rw [e,Bv (fun p:T2×T2=>p.2) (fun p=>p.1) _ _ (by simpa using hv),<-hL];simp [bU,Tt]
def TY(XV:Rows)(s:T2):T2:=(rL ((pairsOf XV).map fun p=>(p.2.s,p.1.s)) s).getD s
theorem SW(d:Dr XV){p q:T3}(h:(p,q)∈pairsOf XV):rL ((pairsOf XV).map fun p=>(p.2.s,p.1.s)) q.s=some p.s/\TY XV q.s=p.s:=by
 have:=iG (l:=(pairsOf XV).map fun p=>(p.2.s,p.1.s)) (p:=(q.s,p.s)) (by rw [bU]; exact QC d) (List.mem_map.mpr ⟨_,h,rfl⟩);refine⟨this,?_⟩;unfold TY; rw [this]; rfl
theorem Sd{q:T3}(h:q∈XV.flatten):∃ p,(p,q)∈pairsOf XV/\p∈XV.flatten:=by
 rw [<-(Di XV).mem_iff] at h;obtain⟨x,hx,rfl⟩:=List.mem_map.mp h;exact⟨x.1,hx,by rw [<-Dj]; exact aW hx⟩
theorem no2(d:Dr XV){p:T3}(h:p∈XV.flatten):p.s.b≠2:=by
 have:=d.way p h;show p.b≠2;lia
theorem Dm{n:Int}:n∈names XV↔∃ p∈XV.flatten,p.b=0/\p.a=n:=by
 unfold names;rw [Mw,List.mem_map];constructor
 ·rintro⟨p,h,rfl⟩;obtain⟨h1,h2⟩:=List.mem_filter.mp h;exact⟨p,h1,by simpa using h2,rfl⟩
 ·rintro⟨p,h1,h2,rfl⟩;exact⟨p,List.mem_filter.mpr ⟨h1,by simpa using h2⟩,rfl⟩
end P
end K2
end
section
namespace K2
open PySem (Str)
open Enc (enc)
namespace P
variable {XV:Rows}
theorem KD(XV:Rows):(jw XV 0).length<=XV.flatten.length+XV.length:=by
 have:∀ (rs:Rows) (k:Nat),(jw rs k).length<=rs.flatten.length+rs.length:=by
  intro rs;induction rs with
  | nil=>intro k; simp [jw]
  | cons r rs ih =>
   intro k;have:=ih (k+1);rw [jw,aw,bS,aw,aj];have:(bV r (k:Int)).length<=r.length+1:=by
    unfold bV; split <;> simp
   lia
 exact this XV 0
theorem yg(d:Dr XV):(jw XV 0).Nodup:=by
 have:∀ (rs:Rows) (k:Nat),(rs.flatten.map T3.s).Nodup->(∀ p∈rs.flatten,p.s.b≠2)->(jw rs k).Nodup/\∀ s∈jw rs k,(s.b=2/\(k:Int)<=s.a)\/(s.b≠2/\s∈rs.flatten.map T3.s):=by
  intro rs;induction rs with
  | nil=>intro k _ _; exact⟨df,fun s h=>by cases h⟩
  | cons r rs ih =>
   intro k hn hb;rw [bS,aH,cb] at hn;obtain⟨n1,n2,n3⟩:=hn;obtain⟨i1,i2⟩:=ih (k+1) n2 fun p hp=>hb p (by rw [bS]; exact bA _ hp);have on:(bV r (k:Int)).Nodup/\∀ s∈bV r (k:Int),(s=⟨(k:Int),2⟩)\/(s.b≠2/\s∈r.map T3.s):=by
    unfold bV;split
    ·exact⟨by simp,fun s h=>.inl (List.mem_singleton.mp h)⟩
    ·refine⟨n1,fun s h=>.inr ⟨?_,h⟩⟩;obtain⟨p,hp,rfl⟩:=List.mem_map.mp h;exact hb p (by rw [bS]; exact eK _ hp)
   rw [jw];refine⟨?_,?_⟩
   ·rw [cb];refine⟨on.1,i1,fun a ha b Ii e=>?_⟩;subst e;rcases on.2 a ha with rfl | ⟨h1,h2⟩ <;> rcases i2 _ Ii with ⟨h3,h4⟩ | ⟨h3,h4⟩
    ·dsimp only at h4; lia
    ·exact h3 rfl
    ·exact h1 h3
    ·exact n3 _ h2 _ h4 rfl
   ·intro s hs;rcases List.mem_append.mp hs with h | h
    ·rcases on.2 s h with rfl | ⟨h1,h2⟩
     ·exact .inl ⟨rfl,JW _⟩
     ·exact .inr ⟨h1,by rw [bS,aH]; exact eK _ h2⟩
    ·rcases i2 s h with ⟨h1,h2⟩ | ⟨h1,h2⟩
     ·exact .inl ⟨h1,by lia⟩
     ·exact .inr ⟨h1,by rw [bS,aH]; exact bA _ h2⟩
 exact(this XV 0 d.nd fun p hp=>no2 d hp).1
def aeQ(XV:Rows):List T3:=WL (Zg XV)
end P
end K2
end
section
namespace K2
open PySem (Str)
open Enc (enc)
namespace Gz
open K2.P
def zf:iC :=
 (cD (mI (gL (a9 Zq (au 1) (og nu (aB (au 0) bc)))) (cT (fQ (a9 ky (au 0) (au 1)))) eE)
 (cT (fQ (dC (.int 0)))))
def tV(ns:List Int)(k:Int):Int:=ns.getD k.toNat 0
def ic:mw:=fun ds G Q _=>∃ (ns:List Int) (k:Int),ds=[.fx (ns.map D.int),.int k]/\0<=k/\Q (.int (tV ns k)) G
theorem Jo(ds:List D)(G:Gp)(Q:DK)(h:ic ds G Q fun _ _=>False):zf (fun _ _=>False) (ends Q) (bC 2 ds) G:=by
 obtain⟨ns,k,rfl,h0,q⟩:=h;unfold zf;simp only [cD,mI,bC,av,aX,aj,ay,aO,aU,cT,fQ,a9,au,aa,ae,ends,wR,eE,dC,di,og,aB,bc,xE,zW,bF];split
 ·rename_i h;have h1:k < (ns.map D.int).length:=by simpa using h
  rw [lG _ h0 h1];simp only [dq];rw [ag] at h1;have e:tV ns k=ns[k.toNat]:=by unfold tV; rw [aF,ah (by lia)]; rfl
  rw [<-e]; exact lA q
 ·rename_i h;have h1:¬ k < (ns.map D.int).length:=by simpa using h
  rw [ag] at h1;have e:tV ns k=0:=by unfold tV; rw [aF,dW (by lia)]; rfl
  rw [<-e]; exact lA q
def wK:iC :=
 (cT (fQ (IT (Pn "int" (au 0)) (SR (Pn "bool" (au 0))))))
def iJ:mw:=fun ds G Q _=>∃ i:Int,ds=[.int i]/\Q (.bl true) G
theorem FW(ds:List D)(G:Gp)(Q:DK)(h:iJ ds G Q fun _ _=>False):wK (fun _ _=>False) (ends Q) (bC 1 ds) G:=by
 obtain⟨i,rfl,q⟩:=h;unfold wK;simp only [cT,fQ,bC,av,aX,aj,ay,aO,aU,ends,xy,BH,xw,au,aa,Br,bF];simpa using lA q
structure HR(G G':Gp)(p0:Nat)(as:List Nat)(rs:Rows):Prop where
 le:iH G G'
 fp:G p0=none
 gp:G' p0=some (.lst (as.map D.ref))
 np:p0∉as
 nd:as.Nodup
 fr:∀ a∈as,G a=none
 len:as.length=rs.length
 at':∀ (i a:Nat) (r:List T3),as[i]?=some a->rs[i]?=some r->G' a=some (.lst (r.map enc))
theorem HR.put{G G':Gp}{p0:Nat}{as:List Nat}{rs:Rows}(h:HR G G' p0 as rs){j a:Nat}{r':List T3}(ha:as[j]?=some a):HR G (fG G' a (.lst (r'.map enc))) p0 as (rs.set j r'):=by
 have hm:a∈as:=dJ ha;have hj:j < as.length:=(List.getElem?_eq_some_iff.mp ha).1;refine⟨h.le.put (h.fr a hm),h.fp,?_,h.np,h.nd,h.fr,by rw [bO]; exact h.len,fun i b r hb hr=>?_⟩
 ·rw [fe (by rintro rfl; exact h.np hm)]; exact h.gp
 ·by_cases e:i=j
  ·subst e;rw [ha] at hb; cases hb;rw [dI (by have:=h.len; lia)] at hr;cases hr;exact aM
  ·have:b≠a:=by
    rintro rfl;have h1:=List.getElem?_eq_some_iff.mp hb;have h2:=List.getElem?_eq_some_iff.mp ha;have pw:=List.pairwise_iff_getElem.mp h.nd;rcases Nat.lt_trichotomy i j with lt | eq | gt
    ·exact pw i j h1.1 h2.1 lt (h1.2.trans h2.2.symm)
    ·exact e eq
    ·exact pw j i h2.1 h1.1 gt (h2.2.trans h1.2.symm)
   rw [fe this];rw [dg (fun z=>e z.symm)] at hr;exact h.at' i b r hb hr
theorem HR.fz{G G':Gp}{p0:Nat}{as:List Nat}{rs:Rows}(h:HR G G' p0 as rs){Q:DK}(q:Q (enc rs) G):TZ G' (.ref p0) Q:=by
 refine tP h.le h.fp h.gp (ss:=rs.map enc) ?_ q;have:∀ (as:List Nat) (rs:Rows),as.length=rs.length->(∀ a∈as,G a=none)->(∀ (i a:Nat) (r:List T3),as[i]?=some a->rs[i]?=some r->G' a=some (.lst (r.map enc)))->GA G' (fun a=>(G a).isNone) (as.map D.ref) (rs.map enc):=by
  intro as;induction as with
  | nil=>intro rs hl _ _; cases rs with
   | nil=>exact .nil
   | cons _ _=>cases hl
  | cons a as ih =>
   intro rs hl hf Vh;cases rs with
   | nil=>cases hl
   | cons r rs =>
    refine .cons (.ref (Vh 0 a r rfl rfl) (by simp [hf a (by simp)]) (GA.same _)) ?_;exact ih rs (by simpa using hl) (fun b hb=>hf b (ax _ hb)) fun i b s h1 h2=>Vh (i+1) b s h1 h2
 exact this as rs h.len h.fr h.at'
theorem Hd{x:T3}{r r':List T3}(hr:r'.Perm (x :: r)):∀ (rs:Rows) (j:Nat),rs[j]?=some r->(rs.set j r').flatten.Perm (x :: rs.flatten)
 | [],j,h=>by cases h
 | s :: rs,0,h=>by
  cases h;rw [ai,bS,bS];exact hr.append_right _
 | s :: rs,j+1,h=>by
  rw [ar,bS,bS];exact((Hd hr rs j h).append_left s).trans List.perm_middle
structure MI(st:Int)(n:Nat)(name:Int)(L:List T3):Prop where
 off:∃ off:Int,0<=off/\off<=83 * n/\name=(st+off) % 999/\∀ p∈L,∃ o:Int,0 < o/\o<=off/\p.a=(st+o) % 999+1
 nd:(L.map T3.s).Nodup
 way:∀ p∈L,p.b=0\/p.b=1
 hand:∀ p∈L,p.c=1\/p.c=-1
 K6:∀ p∈L,(⟨p.a,1 - p.b,p.c⟩:T3)∈L
 len:L.length=2 * n
theorem U9{G G2:Gp}{d:D}{ds:List D}{R:List D->(Gp->Prop)->Gp->Prop}(h:IsL G d ds)(l:iH G G2)(k:∀ ok:Gp->Prop,(∀ G',iH G G'->ok G')->R ds ok G2):TJ d G2 R:=by
 rcases h with rfl | ⟨a,rfl,e⟩
 ·exact k _ fun _ _=>trivial
 ·rw [Nh (l a _ e)]; exact k _ fun G' l=>l a _ e
theorem HK{r:List T3}:∀ {rs:Rows},r∈rs->r.length<=rs.flatten.length
 | a :: rs,h=>by
  rw [bS,aw];rcases List.mem_cons.mp h with rfl | h
  ·lia
  ·have:=HK h; lia
theorem Qr(x:T3)(r:List T3)(i:Nat):(r.take i++x :: r.drop i).Perm (x :: r):=by
 refine List.perm_middle.trans (.cons _ ?_);rw [gJ]
end Gz
end K2
end
section
namespace K2
open PySem (Str)
open Enc (enc)
namespace Gz
open K2.P
variable {XV:Rows}
end Gz
end K2
end
section
namespace K2
open PySem (Str)
open Enc (enc)
namespace Gz
open K2.P
variable {XV:Rows}
def z3:T3:=⟨0,0,0⟩
def UM(r:List T3)(k:Nat):T3:=if k=0 then r.getD (r.length - 1) z3 else r.getD (k - 1) z3
def UN(r:List T3)(ks:List Nat):List (T3×T3):=ks.map fun k=>(UM r k,r.getD k z3)
def prs(XV:Rows):List (T3×T3):=XV.flatMap fun r=>UN r (aY r.length)
theorem Q5(r:List T3):(UN r (aY r.length)).Perm (r.zip (iI r)):=by
 cases r with
 | nil=>exact .refl _
 | cons x t =>
  have kX:(x :: t)≠[]:=by simp
  have e1:UN (x :: t) (aY (x :: t).length)=((x :: t).getLast kX,x) :: (x :: t).dropLast.zip t:=by
   refine List.ext_getElem ?_ ?_
   ·simp [UN]
   ·intro i h1 h2;have eg:(UN (x :: t) (aY (x :: t).length))[i]=(UM (x :: t) i,(x :: t).getD i z3):=by simp [UN]
    rw [eg];have hi:i < (x :: t).length:=by simpa [UN] using h1
    cases i with
    | zero =>
     simp only [List.getElem_cons_zero,Prod.mk.injEq];refine⟨?_,rfl⟩;unfold UM;rw [if_pos rfl,aF,ah (by simp),List.getLast_eq_getElem];rfl
    | succ i =>
     rw [Qd,List.getElem_zip];refine Prod.ext ?_ ?_
     ·show UM (x :: t) (i+1)=_;unfold UM;rw [if_neg (by lia),aF,ah (by lia),List.getElem_dropLast];rfl
     ·show (x :: t).getD (i+1) z3=t[i]'(by simpa using hi);rw [aF,ae,ah (by simpa using hi)];rfl
  have e2:(x :: t).zip (iI (x :: t))=(x :: t).dropLast.zip t++[((x :: t).getLast kX,x)]:=by
   have:iI (x :: t)=t++[x]:=rfl;rw [this]
   conv=>lhs; arg 1; rw [<-List.dropLast_concat_getLast kX]
   rw [List.zip_append (by simp)];rfl
  rw [e1,e2];exact List.perm_append_comm (l₁:=[((x :: t).getLast kX,x)])
theorem Hw(XV:Rows):(prs XV).Perm (pairsOf XV):=by
 unfold prs pairsOf;induction XV with
 | nil=>exact .refl _
 | cons r rs ih =>
  rw [hX,hX];exact(Q5 r).append ih
end Gz
end K2
end
section
namespace K2
open PySem (Str)
open Enc (enc)
namespace K17
open K2.P
section
variable {α β:Type} [DecidableEq α] [DecidableEq β]
structure Tr(V:List α)(R:α->α->Prop)(A:List α):Prop where
 pw:A.Pairwise fun a b=>¬ R a b
 cov:∀ v∈V,∃ a∈A,R v a
 in':∀ a∈A,a∈V
structure Eqv(R:α->α->Prop):Prop where
 rf:∀ x,R x x
 sy:∀ {x y},R x y->R y x
 tr:∀ {x y z},R x y->R y z->R x z
variable {V:List α} {R:α->α->Prop}
def it(f:α->α):Nat->α->α
 | 0,a=>a
 | n+1,a=>f (it f n a)
structure Pm(V:List α)(f:α->α):Prop where
 cl:∀ a∈V,f a∈V
 inj:∀ a∈V,∀ b∈V,f a=f b->a=b
variable {f:α->α}
theorem VT:∀ (xs ys:List α),xs.Nodup->(∀ x∈xs,x∈ys)->xs.length<=ys.length
 | [],_,_,_=>cP _
 | x :: xs,ys,hn,h=>by
  rw [cN] at hn;have:=VT xs (ys.erase x) hn.2 fun y hy=>(List.mem_erase_of_ne (show y≠x from fun z=>hn.1 (by rw [<-z]; exact hy))).mpr (h y (ax _ hy));have hx:=h x (by simp);rw [List.length_erase_of_mem hx] at this;have:=List.length_pos_of_mem hx;rw [aj]; lia
end
end K17
end K2
end
section
namespace K2
namespace Am
def bt(d x:Nat):Bool:=Nat.beq (Nat.land (Nat.shiftRight x d) 1) 1
def YA:Nat->List Nat->Bool
 | _,[]=>true
 | _,[_]=>true
 | 0,_=>false
 | d+1,l=>YA d (l.filter (bt d))&&YA d (l.filter fun x=>!bt d x)
theorem Rm{l:List Nat}(p:Nat->Bool)(h1:(l.filter p).Nodup)(h2:(l.filter fun x=>!p x).Nodup):l.Nodup:=by
 induction l with
 | nil=>exact df
 | cons x l ih =>
  rw [cN];cases hp:p x with
  | true =>
   rw [fW hp,cN] at h1;rw [g4 (by rw [hp]; decide)] at h2;exact⟨fun z=>h1.1 (List.mem_filter.mpr ⟨z,hp⟩),ih h1.2 h2⟩
  | false =>
   rw [g4 (by rw [hp]; decide)] at h1;rw [fW (by rw [hp]; decide),cN] at h2;exact⟨fun z=>h2.1 (List.mem_filter.mpr ⟨z,by rw [hp]; decide⟩),ih h1 h2.2⟩
theorem Rn:∀ (d:Nat) (l:List Nat),YA d l=true->l.Nodup
 | _,[],_=>df
 | _,[x],_=>List.nodup_cons.mpr ⟨cZ,df⟩
 | 0,_ :: _ :: _,h=>bB (show false=true from h)
 | d+1,x :: y :: l,h=>by
  have h:(YA d ((x :: y :: l).filter (bt d))&&YA d ((x :: y :: l).filter fun x=>!bt d x))=true:=h;rw [aQ] at h;exact Rm (bt d) (Rn d _ h.1) (Rn d _ h.2)
def hN(t:T2):Nat:=(h2 t+9223372036854775808).toNat
def pts:Nat->List T2
 | 0=>[]
 | n+1=>⟨((n+1:Nat):Int),0⟩ :: ⟨((n+1:Nat):Int),1⟩ :: pts n
set_option maxRecDepth 100000 in
theorem WZ:YA 64 ((pts 999).map hN)=true:=by decide +kernel
theorem KP:∀ (n:Nat) (t:T2),1<=t.a->t.a<=n->t.b=0\/t.b=1->t∈pts n
 | 0,t,h1,h2,_=>by lia
 | n+1,⟨a,b⟩,h1,h2,h3=>by
  by_cases c:a=((n+1:Nat):Int)
  ·subst c;rcases h3 with h3 | h3
   ·have h3:b=0:=h3;subst h3;exact aA
   ·have h3:b=1:=h3;subst h3;exact ax _ aA
  ·exact ax _ (ax _ (KP n _ h1 (by have:a<=((n+1:Nat):Int):=h2; show a<=(n:Int); lia) h3))
theorem RK{α β:Type}{f:α->β}:∀ {l:List α},(l.map f).Nodup->∀ x∈l,∀ y∈l,f x=f y->x=y
 | [],_,x,hx,_,_,_=>by cases hx
 | a :: l,nd,x,hx,y,hy,e=>by
  rw [av,cN] at nd;rcases List.mem_cons.mp hx with q | q
  ·rcases List.mem_cons.mp hy with r | r
   ·rw [q,r]
   ·exact absurd (by rw [<-q,e]; exact aW r) nd.1
  ·rcases List.mem_cons.mp hy with r | r
   ·exact absurd (by rw [<-r,<-e]; exact aW q) nd.1
   ·exact RK nd.2 x q y r e
theorem X4{s t:T2}(hs:(1<=s.a/\s.a<=999)/\(s.b=0\/s.b=1))(ht:(1<=t.a/\t.a<=999)/\(t.b=0\/t.b=1))(e:h2 s=h2 t):s=t :=
 RK (Rn 64 _ WZ) s (KP 999 s hs.1.1 hs.1.2 hs.2) t (KP 999 t ht.1.1 ht.1.2 ht.2) (by unfold hN; rw [e])
theorem V3:∀ (l:List T2),l.Nodup->(∀ s∈l,(1<=s.a/\s.a<=999)/\(s.b=0\/s.b=1))->(l.map h2).Nodup
 | [],_,_=>df
 | s :: l,nd,h=>by
  rw [cN] at nd;rw [av,cN];refine⟨fun z=>?_,V3 l nd.2 fun t ht=>h t (ax _ ht)⟩;obtain⟨t,ht,e⟩:=List.mem_map.mp z;have:=X4 (h s aA) (h t (ax _ ht)) e.symm;exact nd.1 (this ▸ ht)
end Am
end K2
end
section
namespace K2
open PySem (Str)
open Enc (enc)
namespace Am
open K2.P K2.Gz
def mR(b s:T2):T2:=if s.b=1 then s else b
def mZ:T2->List T2->List (T2×T2)
 | _,[]=>[]
 | b,s :: ss=>(s,mR b s) :: mZ (mR b s) ss
def lF(ss:List T2)(k:Int):T2:=ss.foldl mR ⟨k,2⟩
def jX(r:List T3)(k:Int):List (T2×T2):=mZ (lF (bV r k) k) (bV r k)
theorem tO:∀ (a c:List T2) (b:T2),mZ b (a++c)=mZ b a++mZ (a.foldl mR b) c
 | [],c,b=>rfl
 | s :: a,c,b=>by rw [aO,mZ,mZ,tO a c,aO]; rfl
theorem l6:∀ (a:List T2) (b:T2),(mZ b a).map (·.1)=a
 | [],_=>rfl
 | s :: a,b=>by rw [mZ,av,l6 a]
theorem xj(a:List T2)(b:T2):(mZ b a).length=a.length:=by have:=congrArg dF (l6 a b); rwa [ag] at this
theorem yE:∀ (l:List T2) (b:T2),l.foldl mR b=(l.reverse.find? fun s=>s.b == 1).getD b
 | [],b=>rfl
 | s :: l,b=>by
  rw [dO,yE l,List.reverse_cons,CS];cases h:l.reverse.find? fun s=>s.b == 1 with
  | some t=>rfl
  | none =>
   by_cases c:s.b=1
   ·simp [mR,c]
   ·simp [mR,c]
theorem fold_filter:∀ (l:List T2) (b:T2),l.foldl mR b=((l.filter fun s=>s.b == 1).getLast?).getD b
 | [],b=>rfl
 | s :: l,b=>by
  rw [dO,fold_filter l];by_cases c:s.b=1
  ·have:(s :: l).filter (fun s=>s.b == 1)=s :: l.filter (fun s=>s.b == 1):=fW (by simp [c]);rw [this,List.getLast?_cons,mR,if_pos c]; simp
  ·have:(s :: l).filter (fun s=>s.b == 1)=l.filter (fun s=>s.b == 1):=g4 (by simp [c]);rw [this,mR,if_neg c]
def e9:Rows->Nat->List (T2×T2)
 | [],_=>[]
 | r :: rs,k=>jX r (k:Int)++e9 rs (k+1)
theorem oC:∀ (a b:Rows) (k:Nat),e9 (a++b) k=e9 a k++e9 b (k+a.length)
 | [],b,k=>by simp [e9]
 | r :: a,b,k=>by rw [aO,e9,e9,oC a b (k+1),cG,aj]; congr 3; lia
theorem lT:∀ (rs:Rows) (k:Nat),(e9 rs k).map (·.1)=jw rs k
 | [],_=>rfl
 | r :: rs,k=>by rw [e9,jw,aH,lT rs,jX,l6]
theorem Q3(rs:Rows)(k:Nat):(e9 rs k).length=(jw rs k).length:=by have:=congrArg dF (lT rs k); rwa [ag] at this
def CW(r:List T3)(k:Int):List T2:=(bV r k).filter fun s=>s.b == 1
def Tz(r:List T3)(k:Int):List T2:=if CW r k=[] then [⟨k,2⟩] else CW r k
def AB:Rows->Nat->List T2
 | [],_=>[]
 | r :: rs,k=>Tz r (k:Int)++AB rs (k+1)
theorem qP(r:List T3)(k:Int):bV r k≠[]:=by
 unfold bV;split
 ·simp
 ·rename_i h; simpa using h
theorem CY(b s:T2):(s.b=1/\mR b s=s)\/(s.b≠1/\mR b s=b):=by
 unfold mR;by_cases c:s.b=1
 ·exact .inl ⟨c,if_pos c⟩
 ·exact .inr ⟨c,if_neg c⟩
theorem Ij:∀ (a:List T2) (b y:T2),y∈(mZ b a).map (·.2)->(y∈a/\y.b=1)\/y=b
 | [],b,y,h=>by cases h
 | s :: a,b,y,h=>by
  rw [mZ,av] at h;rcases List.mem_cons.mp h with e | h
  ·rcases CY b s with ⟨c,e2⟩ | ⟨_,e2⟩
   ·exact .inl ⟨by rw [e,e2]; exact aA,by rw [e,e2]; exact c⟩
   ·exact .inr (e.trans e2)
  ·rcases Ij a _ y h with ⟨h1,h2⟩ | h1
   ·exact .inl ⟨ax _ h1,h2⟩
   ·rcases CY b s with ⟨c,e2⟩ | ⟨_,e2⟩
    ·exact .inl ⟨by rw [h1,e2]; exact aA,by rw [h1,e2]; exact c⟩
    ·exact .inr (h1.trans e2)
theorem Ik:∀ (a:List T2) (b y:T2),y∈a->y.b=1->y∈(mZ b a).map (·.2)
 | [],b,y,h,_=>by cases h
 | s :: a,b,y,h,hy=>by
  rw [mZ,av];rcases List.mem_cons.mp h with e | h
  ·subst e;rw [show mR b y=y from if_pos hy]; exact aA
  ·exact ax _ (Ik a _ y h hy)
theorem O6:∀ (a:List T2) (b:T2),a≠[]->(a.filter fun s=>s.b == 1)=[]->b∈(mZ b a).map (·.2)
 | [],b,h,_=>absurd rfl h
 | s :: a,b,_,h=>by
  have c:s.b≠1:=fun z=>by
   rw [fW (by simp [z])] at h; cases h
  rw [mZ,av,show mR b s=b from if_neg c]; exact aA
theorem Nm(l:List T2)(b:T2):(l.foldl mR b∈l.filter fun s=>s.b == 1)\/((l.filter fun s=>s.b == 1)=[]/\l.foldl mR b=b):=by
 rw [fold_filter];cases h:(l.filter fun s=>s.b == 1).getLast? with
 | none=>exact .inr ⟨List.getLast?_eq_none_iff.mp h,rfl⟩
 | some t=>exact .inl (Uc h)
theorem Oz(r:List T3)(k:Int)(y:T2):y∈(jX r k).map (·.2)↔y∈Tz r k:=by
 unfold jX Tz CW;have kX:=qP r k;generalize bV r k=ss at kX;constructor
 ·intro h;rcases Ij ss _ y h with ⟨h1,h2⟩ | h1
  ·have:y∈ss.filter fun s=>s.b == 1:=List.mem_filter.mpr ⟨h1,by simp [h2]⟩;rw [if_neg (fun z=>by rw [z] at this; cases this)]; exact this
  ·unfold lF at h1;rcases Nm ss ⟨k,2⟩ with h2 | ⟨h2,h3⟩
   ·rw [if_neg (fun z=>by rw [z] at h2; cases h2),h1]; exact h2
   ·rw [if_pos h2,h1,h3]; exact List.mem_singleton_self _
 ·intro h;by_cases c:(ss.filter fun s=>s.b == 1)=[]
  ·rw [if_pos c] at h;rw [List.mem_singleton.mp h];have:=O6 ss (lF ss k) kX c;rcases Nm ss ⟨k,2⟩ with h2 | ⟨h2,h3⟩
   ·rw [c] at h2; cases h2
   ·unfold lF at this ⊢; rw [h3] at this ⊢; exact this
  ·rw [if_neg c] at h;obtain⟨h1,h2⟩:=List.mem_filter.mp h;exact Ik ss _ y h1 (by simpa using h2)
theorem wV:∀ (rs:Rows) (k:Nat) (y:T2),y∈(e9 rs k).map (·.2)↔y∈AB rs k
 | [],_,_=>Iff.rfl
 | r :: rs,k,y=>by rw [e9,AB,aH,Jy,Jy,Oz,wV rs]
theorem vj{r:List T3}{k:Int}{y:T2}(h:y∈CW r k):y∈r.map T3.s/\y.b=1:=by
 obtain⟨h1,h2⟩:=List.mem_filter.mp h;have h2:y.b=1:=by simpa using h2
 unfold bV at h1;split at h1
 ·rw [List.mem_singleton.mp h1] at h2; exact absurd (show (2:Int)=1 from h2) (by decide)
 ·exact⟨h1,h2⟩
theorem Qp{r:List T3}{k:Int}{y:T2}(h:y∈Tz r k):(y∈r.map T3.s/\y.b=1)\/y=⟨k,2⟩:=by
 unfold Tz at h;split at h
 ·exact .inr (List.mem_singleton.mp h)
 ·exact .inl (vj h)
theorem Ej:∀ (rs:Rows) (k:Nat) (y:T2),y∈AB rs k->(y∈rs.flatten.map T3.s/\y.b=1)\/(y.b=2/\(k:Int)<=y.a)
 | [],_,_,h=>by cases h
 | r :: rs,k,y,h=>by
  rw [AB] at h;rw [bS,aH];rcases List.mem_append.mp h with h | h
  ·rcases Qp h with ⟨h1,h2⟩ | rfl
   ·exact .inl ⟨eK _ h1,h2⟩
   ·exact .inr ⟨rfl,JW _⟩
  ·rcases Ej rs (k+1) y h with ⟨h1,h2⟩ | ⟨h1,h2⟩
   ·exact .inl ⟨bA _ h1,h2⟩
   ·exact .inr ⟨h1,by lia⟩
theorem Wq{r:List T3}(k:Int)(h:(r.map T3.s).Nodup):(CW r k).Nodup:=by
 unfold CW bV;split
 ·exact(Gk _ (by simp))
 ·exact h.filter _
theorem Ws{r:List T3}(k:Int)(h:(r.map T3.s).Nodup):(Tz r k).Nodup:=by
 unfold Tz;split
 ·simp
 ·exact Wq k h
theorem Mn:∀ (rs:Rows) (k:Nat),(rs.flatten.map T3.s).Nodup->(AB rs k).Nodup
 | [],_,_=>df
 | r :: rs,k,h=>by
  rw [bS,aH,cb] at h;rw [AB,cb];refine⟨Ws _ h.1,Mn rs (k+1) h.2.1,fun a ha b hb e=>?_⟩;subst e;rcases Qp ha with ⟨h1,h2⟩ | h1
  ·rcases Ej rs _ _ hb with ⟨h3,h4⟩ | ⟨h3,h4⟩
   ·exact h.2.2 a h1 a h3 rfl
   ·rw [h2] at h3; exact absurd h3 (by decide)
  ·rcases Ej rs _ _ hb with ⟨h3,h4⟩ | ⟨h3,h4⟩
   ·rw [h1] at h4; exact absurd h4 (by show ¬ (2:Int)=1; decide)
   ·rw [h1] at h4;have h4:((k+1:Nat):Int)<=(k:Int):=h4;lia
def cq(XV:Rows):List T2:=Mz (AB XV 0)
theorem NL{XV:Rows}(d:Dr XV){m:List T2}(nd:m.Nodup)(h:∀ y,y∈m↔y∈(e9 XV 0).map (·.2)):Mz m=cq XV :=
 WG ((JV nd (Mn XV 0 d.nd)).mpr fun y=>(h y).trans (wV XV 0 y))
def cnt(r:List T3):Nat:=max 1 (r.filter fun p=>p.b == 1).length
theorem Uq(r:List T3)(k:Int):(Tz r k).length=cnt r:=by
 have e:(CW r k).length=(r.filter fun p=>p.b == 1).length:=by
  unfold CW bV;split
  ·rename_i h; subst h; rfl
  ·rw [List.filter_map,ag]; rfl
 unfold Tz cnt;split
 ·rename_i h;rw [h] at e;have e:0=(r.filter fun p=>p.b == 1).length:=e;rw [<-e]; rfl
 ·rename_i h;rw [e];have:(r.filter fun p=>p.b == 1).length≠0:=fun z=>h (List.length_eq_zero_iff.mp (e.trans z));lia
theorem GV:∀ (rs:Rows) (k:Nat),(AB rs k).length=(rs.map cnt).sum
 | [],_=>rfl
 | r :: rs,k=>by rw [AB,aw,Uq,GV rs,av,pZ]
theorem S6(XV:Rows):(cq XV).length=(XV.map cnt).sum:=by unfold cq; rw [Mx,GV]
def uA(r:List T3)(j:Nat):List T3:=(r.take (j+1)).reverse++(r.drop (j+1)).reverse
def jZ(r:List T3)(k:Int)(j:Nat):T2:=(((uA r j).find? fun p=>p.b == 1).map T3.s).getD ⟨k,2⟩
theorem Ss(l:List T3):(l.map T3.s).find? (fun s=>s.b == 1)=(l.find? fun p=>p.b == 1).map T3.s:=by
 rw [List.find?_map]; rfl
theorem yx(r:List T3)(k:Int)(j:Nat)(hr:r≠[]):jZ r k j=((bV r k).take (j+1)).foldl mR (lF (bV r k) k):=by
 have e:bV r k=r.map T3.s:=by unfold bV; rw [if_neg hr]
 rw [e];unfold jZ uA lF;rw [yE,yE,CS,<-PL,<-List.map_reverse,Ss,<-List.map_reverse,Ss];have e2:r.reverse=(r.drop (j+1)).reverse++(r.take (j+1)).reverse:=by rw [<-zO,gJ]
 rw [e2,CS];cases h1:(r.take (j+1)).reverse.find? fun p=>p.b == 1 with
 | some t=>rfl
 | none =>
  cases h2:(r.drop (j+1)).reverse.find? fun p=>p.b == 1 with
  | some t=>rfl
  | none=>rfl
theorem Eh(r:List T3)(j:Nat):(uA r j).length=r.length:=by
 unfold uA;rw [aw,jk,jk,<-aw,gJ]
theorem Kq{r:List T3}{j b:Nat}(hj:j < r.length)(hb:b < r.length):∃ p,(uA r j)[b]?=some p/\pL (r.map enc) ((j:Int) - (b:Int))=some (enc p):=by
 unfold uA;have e1:(r.take (j+1)).length=j+1:=by rw [eA]; exact JU hj
 have e2:(r.drop (j+1)).length=r.length - (j+1):=c6;by_cases c:b<=j
 ·have h1:b < (r.take (j+1)).length:=by rw [e1]; exact D4 c
  have h2:j - b < r.length:=sg (PJ _ _) hj;refine⟨r[j - b],?_,?_⟩
  ·rw [dG (by rw [jk]; exact h1),xU h1,e1,si,lP (D4 (PJ _ _)),ah]
  ·rw [<-Int.ofNat_sub c,lG _ (j4 _) (by rw [ag]; exact Int.ofNat_lt.mpr h2)];simp only [dq,aZ]
 ·obtain⟨d,hd⟩:∃ d,b=j+1+d:=⟨b - (j+1),(Ax (Nat.lt_of_not_le c)).symm⟩;obtain⟨f,hf⟩:∃ f,r.length=b+1+f:=⟨r.length - (b+1),(Ax hb).symm⟩;have h3:j+1+f < r.length:=by clear e1 e2 hj hb c; lia
  have h4:d < (r.drop (j+1)).length:=by rw [e2]; clear e1 e2 hj hb c h3; lia
  refine⟨r[j+1+f],?_,?_⟩
  ·rw [cE (by rw [jk,e1,hd]; exact gS _ _),jk,e1,hd,ju,xU h4,e2,B0,show j+1+(r.length - (j+1) - 1 - d)=j+1+f by clear e1 e2 hj hb c h3 h4; lia,ah]
  ·unfold pL Fb;rw [if_neg (by clear e1 e2 hj hb h3 h4 hf; lia),ag,if_pos (by clear e1 e2 hj hb h3 h4 c; lia)];show (r.map enc)[((j:Int) - (b:Int)+(r.length:Int)).toNat]?=_;rw [show ((j:Int) - (b:Int)+(r.length:Int)).toNat=j+1+f by clear e1 e2 hj hb h3 h4 c hd; lia,bu,ah h3]; rfl
end Am
end K2
end
section
namespace K2
open PySem (Str)
open Enc (enc)
namespace Am
open K2.P K2.Gz
theorem eq_int(i j:Int):jf (.int i) (.int j)=decide (i=j):=Enc.eqv i j
theorem eR{c:zM}{a b:iC}{E:md}{K:nF}{τ:iS}{G:Gp}:mI c a b E K τ G=c E τ G fun k G1=>if k=true then a E K τ G1 else b E K τ G1:=rfl
def AZ:iC :=
 (cD (bM (bW o9 (aB (au 0) (aB (au 1) bc))) (aJ 2))
 (cD (bM (eF 1 [] (lZ (au 2)) (aJ 0) (some (gL (a9 (A1 false) (a9 ky (au 0) (dC (.int 1))) (dC (.int 1))))) (au 0)) (aJ 3))
 (cD (bM (YJ (gL (au 3)) (a9 ky (au 3) (NG Oq (dC (.int 1)))) (iZ (aB (au 1) (aB (dC (.int 2)) bc)))) (aJ 4))
 (cD (bM vP (aJ 5))
 (cD (gB (lZ (au 2)) (aJ 6) (cD (mI (gL (a9 (A1 false) (a9 ky (au 6) (dC (.int 1))) (dC (.int 1)))) (bM (au 6) (aJ 4)) eE)
 (bM (au 4) (oJ (au 5) (au 6)))))
 (cT (fQ (au 5))))))))
def qR:mw:=fun ds G Q _=>∃ (r:List T3) (k:Int),ds=[enc r,.int k]/\((bV r k).Nodup/\r.length<=24)/\Q (.lI (bI (jX r k))) G
theorem G5(r:List T3)(k:Int):(bV r k).length<=r.length+1:=by
 unfold bV; split
 ·simp
 ·rw [ag]; lia
theorem LY(ds:List D)(G:Gp)(Q:DK)(h:qR ds G Q fun _ _=>False):AZ (fun _ _=>False) (ends Q) (bC 7 ds) G:=by
 obtain⟨r,k,rfl,⟨nd,hl⟩,q⟩:=h;have sl:=G5 r k;have kX:=qP r k;unfold AZ;simp only [ends,bC,av,aX,aj,ay,aI,aO,aU,cU,bM,bW,aB,au,aa,ae,bc,aJ,ar,ai,eF,vP,fh];refine⟨r,k,rfl,by lia,?_⟩;unfold jX at q;generalize bV r k=ss at nd sl kX q;refine iO ⟨B4 (by rw [ag]; lia),?_⟩;refine gI (xs:=ss) (fun Wp WF τ G'=>G=G'/\(∃ a,τ=[a])/\WF=(Wp.filter fun s=>s.b == 1).map enc) ⟨rfl,⟨_,rfl⟩,rfl⟩ (fun _ _ _ _ _=>trivial) ?_ ?_
 ·rintro Wp x Uf WF τ G' N e ⟨rfl,⟨a,rfl⟩,rfl⟩ hN;simp only [aJ,BD,ai,au,aa,di,a9,dC,iz,Gv];refine⟨_,_,.int _,.int _,?_⟩;rw [eq_int];by_cases c:x.b=1
  ·simp only [aC,c,decide_true,bG,if_false,bF,if_true];refine hN _ _ _ ⟨rfl,⟨_,rfl⟩,?_⟩;rw [cS,aH,fW (by simp [c])];simp only [i5,av,aX,BD,c]
  ·simp only [aC,c,decide_false,cW,if_false,bF];refine hN _ _ _ ⟨rfl,⟨_,rfl⟩,?_⟩;rw [cS,g4 (by simp [c])]; simp
 ·rintro WF τ G' ⟨rfl,⟨a,rfl⟩,rfl⟩ p3 f3;have fl:=fold_filter ss ⟨k,2⟩;have ul:(ss.filter fun s=>s.b == 1).length<=ss.length:=dU _ _;generalize (ss.filter fun s=>s.b == 1)=us at fl ul;have g3:(fG G p3 (.lst (us.map enc))) p3=some (.lst (us.map enc)):=aM;have l3:iH G (fG G p3 (.lst (us.map enc))):=.new f3;generalize fG G p3 (.lst (us.map enc))=G3 at g3 l3;have pick:∀ (Q2:DK) (E:md),Q2 (enc (lF ss k)) G3->YJ (gL (au 3)) (a9 ky (au 3) (NG Oq (dC (D.int 1)))) (iZ (aB (au 1) (aB (dC (D.int 2)) bc))) E [some (enc r),some (D.int k),some (enc ss),some (D.ref p3),none,none,none] G3 Q2:=by
   intro Q2 E q2;simp only [YJ,a9,au,ae,aa,NG,dC,sY,iZ,aB,bc,aj,ay,di];refine AG (IsL.ref g3) ?_;cases hu:us with
   | nil =>
    simp only [aX,vd,bG,aC,if_false];refine⟨by decide,?_⟩;have:lF ss k=⟨k,2⟩:=by unfold lF; rw [fl,hu]; rfl
    rw [this] at q2; exact q2
   | cons u us' =>
    simp only [av,List.isEmpty_cons,cW,if_true];refine gT (IsL.ref g3) (x:=enc (lF ss k)) ?_ q2;unfold lF;rw [fl,List.getLast?_eq_getElem?,hu];unfold pL Fb;rw [if_neg (by decide),if_pos (by simp only [ag,aj]; lia)];show (((u :: us').map enc))[((-1:Int)+(((u :: us').map (enc:T2->D)).length:Int)).toNat]?=_;rw [ag,show ((-1:Int)+(((u :: us').length:Nat):Int)).toNat=(u :: us').length - 1 by simp only [aj]; lia,bu,ah (by simp)]; rfl
  refine pick _ _ ?_;simp only [jH];intro p5 f5;have n5:G p5=none:=l3.free f5;refine fX (fun τ G'=>iH G G'/\G' p5=some (.jg (bI (mZ (lF ss k) ss)))/\∃ a b c d e f,τ=[a,b,c,d,e,some (.ref p5),f]) ?_ ?_
  ·intro N hN;simp only [gB,fh,au,ae,aa];refine iO ?_;refine gK (xs:=ss) (fun Wp τ G'=>iH G G'/\G' p5=some (.jg (bI (mZ (lF ss k) Wp)))/\∃ f,τ=[some (enc r),some (.int k),some (enc ss),some (.ref p3),some (enc (Wp.foldl mR (lF ss k))),some (.ref p5),f]) ⟨l3.trans (.new f5),aM,_,rfl⟩ (fun _ _ _ _=>trivial) ?_ ?_
   ·rintro Wp s Uf τ G' N2 e ⟨le,gp,f,rfl⟩ oI;have hlp:Wp.length < ss.length:=by have:=congrArg dF e; simp at this; lia
    have R5:s∉(mZ (lF ss k) Wp).map (·.1):=fun z=>by
     rw [l6] at z;rw [e,cb] at nd;exact nd.2.2 s z s aA rfl
    have gl:=xj Wp (lF ss k);refine fX (fun τ G2=>G'=G2/\τ=[some (enc r),some (.int k),some (enc ss),some (.ref p3),some (enc (mR (Wp.foldl mR (lF ss k)) s)),some (.ref p5),some (enc s)]) ?_ ?_
    ·intro N3 xi;simp only [BD,ar,ai,eR,bM,au,ae,aa,aJ,eE,di,a9,dC,iz,Gv];refine⟨_,_,.int _,.int _,?_⟩;rw [eq_int];by_cases c:s.b=1
     ·simp only [aC,c,decide_true,bG,if_false,bF,if_true];refine xi _ _ ⟨rfl,?_⟩;rw [show mR (Wp.foldl mR (lF ss k)) s=s from if_pos c];simp only [BD,c]
     ·simp only [aC,c,decide_false,cW,if_false,bF];refine xi _ _ ⟨rfl,?_⟩;rw [show mR (Wp.foldl mR (lF ss k)) s=Wp.foldl mR (lF ss k) from if_neg c];simp only [BD]
    ·rintro _ _ ⟨rfl,rfl⟩;simp only [bM,au,ae,aa,oJ];refine P.kO (k:=s) (v:=mR (Wp.foldl mR (lF ss k)) s) gp (by lia) ?_;refine oI _ _ ⟨le.put n5,?_,some (enc s),?_⟩
     ·rw [aM,tO,tW R5]; rfl
     ·rw [kK]; rfl
   ·rintro τ G' ⟨le,gp,f,rfl⟩;exact hN _ _ ⟨le,gp,_,_,_,_,_,_,rfl⟩
  ·rintro _ G' ⟨le,gp,a,b,c,d,e,f,rfl⟩;simp only [cT,fQ,au,ae,aa];exact yA le n5 gp q
def De:iC :=
 (cD (bM vP (aJ 1))
 (cD (gB (tJ (au 0)) (nO (fK (aJ 2) (fK (aJ 3) ng))) (i0 (BI tyC Rq (au 1) (aB (fQ (bW qR (aB (au 3) (aB (au 2) bc)))) bc))))
 (cT (fQ (au 1)))))
def NB(XV:Rows):Prop:=∀ p∈XV.flatten,1<=p.a/\p.a<=999
def fC:mw:=fun ds G Q _=>∃ XV:Rows,ds=[enc XV]/\(Dr XV/\NB XV)/\Q (.lI (bI (e9 XV 0))) G
theorem KN{XV:Rows}(d:Dr XV){r:List T3}(h:r∈XV):(r.map T3.s).Nodup:=by
 obtain⟨a,b,e⟩:=B2 h;have:=d.nd;rw [e,jl,bS,aH,aH,cb,cb] at this;exact this.2.1.1
theorem t9{XV:Rows}(d:Dr XV){r:List T3}(h:r∈XV):r.length<=24:=by
 obtain⟨a,b,e⟩:=B2 h;have:=d.nE;rw [e,jl,bS,aw,aw] at this;lia
theorem KC{r:List T3}(k:Int)(h:(r.map T3.s).Nodup):(bV r k).Nodup:=by
 unfold bV; split
 ·simp
 ·exact h
theorem qV{XV:Rows}(d:Dr XV):(e9 XV 0).length<=27:=by
 rw [Q3];have:=KD XV;have:=d.nE;have:=d.str;lia
theorem W0{XV:Rows}(d:Dr XV)(nb:NB XV){r:List T3}(h:r∈XV)(k:Int):((jX r k).map fun p=>h2 p.1).Nodup:=by
 have e:((jX r k).map fun p=>h2 p.1)=(bV r k).map h2:=by
  rw [<-l6 (bV r k) (lF (bV r k) k),bU]; rfl
 rw [e];by_cases c:r=[]
 ·subst c;exact List.nodup_cons.mpr ⟨cZ,df⟩
 ·have es:bV r k=r.map T3.s:=by unfold bV; rw [if_neg c]
  rw [es];refine V3 _ (KN d h) fun s hs=>?_;obtain⟨p,hp,rfl⟩:=List.mem_map.mp hs;have VY:p∈XV.flatten:=List.mem_flatten.mpr ⟨r,h,hp⟩;exact⟨nb p VY,d.way p VY⟩
theorem Px(ds:List D)(G:Gp)(Q:DK)(h:fC ds G Q fun _ _=>False):De (fun _ _=>False) (ends Q) (bC 4 ds) G:=by
 obtain⟨XV,rfl,⟨d,nb⟩,q⟩:=h;have nE:=qV d;unfold De;simp only [ends,bC,av,aX,aj,ay,aI,aO,aU,cU,bM,vP,jH,aJ,ar,ai];intro p hp;refine fX (fun τ G'=>(∃ a b,τ=[some (enc XV),some (.ref p),a,b])/\iH G G'/\G' p=some (.jg (bI (e9 XV 0)))) ?_ ?_
 ·intro N hN;simp only [gB,tJ,au,aa];refine mC ?_;rw [BC];refine gK (xs:=XV.zipIdx 0) (fun Wp τ G'=>(∃ a b,τ=[some (enc XV),some (.ref p),a,b])/\iH G G'/\G' p=some (.jg (bI (e9 (Wp.map (·.1)) 0)))) ⟨⟨_,_,rfl⟩,.new hp,aM⟩ (fun _ _ _ _=>trivial) ?_ ?_
  ·rintro Wp x Uf τ G' N2 e ⟨⟨a,b,rfl⟩,l,gp⟩ oI;obtain⟨km,QO,e1,e2,e3⟩:=qK e;have hx:x.1∈XV:=by rw [e1]; simp
   have ep:Wp.map (·.1)=km:=by rw [e3,ik]
   rw [ep] at gp;have eL:e9 XV 0=(e9 km 0++jX x.1 (x.2:Int))++e9 QO (km.length+1):=by
    rw [e1,oC,e9,e2,iE,cG]
   have hlen:(e9 km 0).length+(jX x.1 (x.2:Int)).length<=27:=by
    rw [eL,aw,aw] at nE; lia
   have knd:((e9 km 0++jX x.1 (x.2:Int)).map (·.1)).Nodup:=by
    have:=yg d;rw [<-lT,eL,aH,cb] at this;exact this.1
   simp only [nO,fK,aJ,ng,i0,BI,au,ar,ai,ae,aa,Em,gp,aB,fQ,bW,bc,true_and];refine⟨x.1,_,rfl,⟨KC _ (KN d hx),t9 d hx⟩,lA ?_⟩;refine⟨e9 km 0,jX x.1 (x.2:Int),gp,rfl,⟨by lia,knd,fun _=>W0 d nb hx _⟩,?_⟩;refine oI _ _ ⟨⟨_,_,rfl⟩,l.put hp,?_⟩;rw [aM,aH,ep];simp only [av,aX];rw [oC,e9,e9,bL,e2,iE]
  ·rintro τ G' ⟨⟨a,b,rfl⟩,l,gp⟩;rw [ik] at gp;exact hN _ _ ⟨⟨_,_,rfl⟩,l,gp⟩
 ·rintro _ G' ⟨⟨a,b,rfl⟩,l,gp⟩;simp only [cT,fQ,au,ae,aa];exact yA l hp gp q
def MG:iC :=
 (cT (fQ (og uv (aB (LK (bW fC (aB (au 0) bc))) bc))))
def fE:mw:=fun ds G Q _=>∃ XV:Rows,ds=[enc XV]/\(Dr XV/\NB XV/\XV≠[])/\Q (enc (cq XV)) G
theorem EO{XV:Rows}(h:XV≠[]):1<=(e9 XV 0).length:=by
 cases XV with
 | nil=>exact absurd rfl h
 | cons r rs =>
  rw [e9,aw,jX,xj];have:=List.length_pos_iff.mpr (qP r ((0:Nat):Int));lia
theorem VI(ds:List D)(G:Gp)(Q:DK)(h:fE ds G Q fun _ _=>False):MG (fun _ _=>False) (ends Q) (bC 1 ds) G:=by
 obtain⟨XV,rfl,⟨d,nb,kX⟩,q⟩:=h;have nE:=qV d;have pos:=EO kX;unfold MG;simp only [cT,fQ,og,aB,LK,bW,au,bC,av,aX,aj,ay,aO,aU,aa,bc,ends];refine⟨XV,rfl,⟨d,nb⟩,⟨e9 XV 0,rfl,by lia,fun p1 f1=>?_⟩⟩;refine⟨(e9 XV 0).map (·.2),?_,by rw [ag]; lia,fun m nd hm p2 f2=>?_⟩
 ·unfold pD; simp only [aM]; rw [bU]; rfl
 ·rw [NL d nd hm];refine jF ((iH.new f1).trans (.new f2)) ((iH.new f1).free f2) aM q
end Am
end K2
end
section
namespace K2
open PySem (Str)
open Enc (enc)
namespace Am
open K2.P K2.Gz
theorem Um{r:List T3}{j b:Nat}{z:Int}(hj:j < r.length)(hb:b < r.length)(hz:z=(j:Int)\/(z=-1/\j+1=r.length)):∃ p,(uA r j)[b]?=some p/\pL (r.map enc) (z - (b:Int))=some (enc p):=by
 rcases hz with rfl | ⟨rfl,e⟩
 ·exact Kq hj hb
 ·obtain⟨f,hf⟩:∃ f,r.length=b+1+f:=⟨r.length - (b+1),(Ax hb).symm⟩;have h3:f < r.length:=by rw [hf,Nat.add_right_comm]; exact D4 (Nat.le_add_left _ _)
  refine⟨r[f],?_,?_⟩
  ·unfold uA;rw [iu (by rw [e]; exact aK _),List.drop_of_length_le (by rw [e]; exact aK _),List.reverse_nil,bL,xU hb,show r.length - 1 - b=f by rw [hf,Nat.add_right_comm,si,ju],ah]
  ·unfold pL Fb;rw [if_neg (by clear e hj hb hf h3; lia),ag,if_pos (by clear e hj hb h3; lia)];show (r.map enc)[((-1:Int) - (b:Int)+(r.length:Int)).toNat]?=_;rw [show ((-1:Int) - (b:Int)+(r.length:Int)).toNat=f by clear e hj hb h3; lia,bu,ah h3]; rfl
def AX:iC :=
 (cD (gB (oH (og nu (aB (au 0) bc))) (aJ 3) (mI (gL (a9 (A1 false) (a9 ky (a9 ky (au 0) (a9 vo (au 2) (au 3))) (dC (.int 1))) (dC (.int 1)))) (cT (fQ (CB (a9 ky (au 0) (a9 vo (au 2) (au 3))) gM (qw (dC (.int 2)))))) eE))
 (cT (fQ (iZ (aB (au 1) (aB (dC (.int 2)) bc))))))
def kD:mw:=fun ds G Q _=>∃ (r:List T3) (k z:Int) (j:Nat),ds=[enc r,.int k,.int z]/\(j < r.length/\r.length<=24)/\(z=(j:Int)\/(z=-1/\j+1=r.length))/\Q (enc (jZ r k j)) G
theorem LW(ds:List D)(G:Gp)(Q:DK)(h:kD ds G Q fun _ _=>False):AX (fun _ _=>False) (ends Q) (bC 4 ds) G:=by
 obtain⟨r,k,z,j,rfl,⟨hj,hl⟩,hz,q⟩:=h;unfold AX;refine fX (fun τ G'=>G=G'/\(∀ p∈uA r j,p.b≠1)/\∃ a,τ=[some (enc r),some (.int k),some (.int z),a]) ?_ ?_
 ·intro N hN;simp only [gB,bC,av,aX,aj,ay,aI,aO,aU,ends,gW,og,aB,au,aa,bc];refine lE (IsL.enc r) ?_;simp only [ag,fY];refine⟨by lia,by lia,?_⟩;rw [aZ];refine yD (fun Wp τ G'=>G=G'/\(∀ i,i < Wp.length->∀ p,(uA r j)[i]?=some p->p.b≠1)/\∃ a,τ=[some (enc r),some (.int k),some (.int z),a]) ⟨rfl,fun i hi=>absurd hi (cF _),_,rfl⟩ (fun _ _ _ _=>trivial) ?_ ?_
  ·rintro Wp x Uf τ G' N2 e ⟨rfl,hv,a,rfl⟩ oI;obtain⟨rfl,mj⟩:=oA e;obtain⟨p,hp,ha⟩:=Um hj mj hz;simp only [aJ,ar,ai,eR,cT,fQ,CB,a9,au,aa,ae,gM,ko,dC,gU,iX,eE,di];refine gT (IsL.enc r) ha ?_;simp only [nj,iz,Gv];refine⟨_,_,.int _,.int _,?_⟩;rw [eq_int];by_cases c:p.b=1
   ·simp only [aC,c,decide_true,bG,if_false,bF,if_true];refine gT (IsL.enc r) ha ?_;simp only [nj,qS,aj,ay];refine⟨by decide,lA ?_⟩;have:jZ r k j=p.s:=by
     unfold jZ;have:(uA r j).find? (fun p=>p.b == 1)=some p:=by
      rw [List.find?_eq_some_iff_getElem];have hi:=(List.getElem?_eq_some_iff.mp hp);refine⟨by simp [c],Wp.length,hi.1,hi.2,fun m hm=>?_⟩;have:=hv m hm _ (ah (Ub hm hi.1));simp [this]
     rw [this]; rfl
    rw [this] at q;exact q
   ·simp only [aC,c,decide_false,cW,if_false,bF];refine oI _ _ ⟨rfl,fun i hi p' VY=>?_,_,rfl⟩;rw [aw,bg] at hi;by_cases z:i=Wp.length
    ·subst z; rw [hp] at VY; cases VY; exact c
    ·exact hv i (by lia) p' VY
  ·rintro τ G' ⟨rfl,hv,a,rfl⟩;refine hN _ _ ⟨rfl,fun p hp=>?_,_,rfl⟩;obtain⟨i,hi,e⟩:=c8 hp;refine hv i ?_ p (by rw [ah hi,e]);rw [Eh] at hi;simpa [dB] using hi
 ·rintro _ _ ⟨rfl,hv,a,rfl⟩;simp only [cT,fQ,iZ,aB,au,ae,aa,dC,bc,aj,ay,ends];refine⟨by decide,lA ?_⟩;have:jZ r k j=⟨k,2⟩:=by
   unfold jZ;have:(uA r j).find? (fun p=>p.b == 1)=none:=by
    rw [List.find?_eq_none];intro p hp z;exact hv p hp (by simpa using z)
   rw [this]; rfl
  rw [this] at q; exact q
def wM:iC :=
 (cD (bM vP (aJ 1))
 (cD (gB (tJ (au 0)) (nO (fK (aJ 2) (fK (aJ 3) ng))) (cD (mI (gL (a9 (A1 false) (au 3) (nq bc))) (bM (iZ (aB (au 2) (aB (dC (.int 2)) bc))) (oJ (au 1) (iZ (aB (au 2) (aB (dC (.int 2)) bc))))) eE)
 (gB (oH (og nu (aB (au 3) bc))) (aJ 4) (bM (bW kD (aB (au 3) (aB (au 2) (aB (au 4) bc)))) (oJ (au 1) (CB (a9 ky (au 3) (au 4)) gM (qw (dC (.int 2)))))))))
 (cT (fQ (au 1)))))
def dD:mw:=fC
theorem Kw{α:Type}{l:List α}{j:Nat}(h:j < l.length):l.take (j+1)=l.take j++[l[j]]:=by rw [tX h]
theorem FZ(ds:List D)(G:Gp)(Q:DK)(h:dD ds G Q fun _ _=>False):wM (fun _ _=>False) (ends Q) (bC 5 ds) G:=by
 obtain⟨XV,rfl,⟨d,_⟩,q⟩:=h;have nE:=qV d;unfold wM;simp only [ends,bC,av,aX,aj,ay,aI,aO,aU,cU,bM,vP,jH,aJ,ar,ai];intro p hp;refine fX (fun τ G'=>(∃ a b c,τ=[some (enc XV),some (.ref p),a,b,c])/\iH G G'/\G' p=some (.jg (bI (e9 XV 0)))) ?_ ?_
 ·intro N hN;simp only [gB,tJ,au,aa];refine mC ?_;rw [BC];refine gK (xs:=XV.zipIdx 0) (fun Wp τ G'=>(∃ a b c,τ=[some (enc XV),some (.ref p),a,b,c])/\iH G G'/\G' p=some (.jg (bI (e9 (Wp.map (·.1)) 0)))) ⟨⟨_,_,_,rfl⟩,.new hp,aM⟩ (fun _ _ _ _=>trivial) ?_ ?_
  ·rintro Wp x Uf τ G' N2 e ⟨⟨a,b,c,rfl⟩,l,gp⟩ oI;obtain⟨km,QO,e1,e2,e3⟩:=qK e;have hx:x.1∈XV:=by rw [e1]; simp
   have ep:Wp.map (·.1)=km:=by rw [e3,ik]
   rw [ep] at gp;have eL:e9 XV 0=(e9 km 0++jX x.1 (x.2:Int))++e9 QO (km.length+1):=by
    rw [e1,oC,e9,e2,iE,cG]
   have hlen:(e9 km 0).length+(jX x.1 (x.2:Int)).length<=27:=by
    rw [eL,aw,aw] at nE; lia
   have knd:((e9 km 0++jX x.1 (x.2:Int)).map (·.1)).Nodup:=by
    have:=yg d;rw [<-lT,eL,aH,cb] at this;exact this.1
   have eN:e9 ((Wp++[x]).map (·.1)) 0=e9 km 0++jX x.1 (x.2:Int):=by
    rw [aH,ep];simp only [av,aX];rw [oC,e9,e9,bL,e2,iE]
   rw [eN] at oI;have rl:=t9 d hx;obtain⟨r,k⟩:=x;simp only at hlen knd oI rl;generalize hL0:e9 km 0=L0 at hlen knd oI gp;simp only [nO,fK,aJ,ng,ar,ai];by_cases hr:r=[]
   ·subst hr;have ePr:jX [] (k:Int)=[((⟨k,2⟩:T2),(⟨k,2⟩:T2))]:=rfl;rw [ePr] at oI hlen knd;have R5:(⟨k,2⟩:T2)∉L0.map (·.1):=fun z=>by
     rw [aH,cb] at knd;exact knd.2.2 _ z _ (by simp) rfl
    refine fX (fun τ G2=>iH G G2/\G2 p=some (.jg (bI (L0++[((⟨k,2⟩:T2),(⟨k,2⟩:T2))])))/\τ=[some (enc XV),some (.ref p),some (.int k),some (enc ([]:List T3)),c]) ?_ ?_
    ·intro N3 xi;simp only [eR,bM,iZ,aB,au,ae,aa,dC,bc,aj,ay,eE,di,a9,nq];refine⟨by decide,fun p2 f2=>?_⟩;refine⟨_,_,.EG,.ref aM .EG,?_⟩;have:jf (.fx []) (.fx [])=true:=rfl;simp only [aC,this,bG,if_false,oJ,au,ae,aa,iZ,aB,dC,bc,aj,ay,bF,if_true];refine⟨by decide,?_⟩;have np:p≠p2:=fun z=>by rw [<-z,gp] at f2; cases f2
     refine⟨by decide,P.kO (k:=(⟨k,2⟩:T2)) (v:=(⟨k,2⟩:T2)) (l:=L0) ((iH.new f2) _ _ gp) (by simp only [aj,ay] at hlen; lia) ?_⟩;refine xi _ _ ⟨(l.trans (.new f2)).put hp,?_,rfl⟩;rw [aM,tW R5]
    ·rintro _ G2 ⟨l2,g2,rfl⟩;simp only [gB,gW,og,aB,au,ae,aa,bc];refine lE (IsL.enc ([]:List T3)) ?_;simp only [aX,ay,fY];refine⟨by decide,by decide,?_⟩;refine yD (fun Wp τ G'=>Wp=[]/\G2=G'/\τ=[some (enc XV),some (.ref p),some (.int k),some (enc ([]:List T3)),c]) ⟨rfl,rfl,rfl⟩ (fun _ _ _ _=>trivial) ?_ ?_
     ·rintro Wp y Uf τ G3 N3 e4 _ _;have:=congrArg dF e4;simp [dB] at this
     ·rintro τ G3 ⟨_,rfl,rfl⟩;exact oI _ _ ⟨⟨_,_,_,rfl⟩,l2,g2⟩
   ·refine fX (fun τ G2=>iH G G2/\G2 p=some (.jg (bI L0))/\τ=[some (enc XV),some (.ref p),some (.int k),some (enc r),c]) ?_ ?_
    ·intro N3 xi;simp only [eR,bM,iZ,aB,au,ae,aa,dC,bc,aj,ay,eE,di,a9,nq];refine⟨by decide,fun p2 f2=>?_⟩;refine⟨_,_,Enc.sn _ _ _ (by decide),.ref aM .EG,?_⟩;have:jf (enc r) (.fx [])=false:=by
      have:=Enc.eqv r [];rw [show (enc ([]:List T3):D)=.fx [] from rfl] at this;rw [this]; simp [hr]
     simp only [aC,this,cW,if_false,bF];exact xi _ _ ⟨l.trans (.new f2),(iH.new f2) _ _ gp,rfl⟩
    ·rintro _ G2 ⟨l2,g2,rfl⟩;have es:bV r (k:Int)=r.map T3.s:=by unfold bV; rw [if_neg hr]
     have ss:(bV r (k:Int)).length=r.length:=by rw [es,ag]
     simp only [gB,gW,og,aB,au,ae,aa,bc];refine lE (IsL.enc r) ?_;simp only [ag,fY];refine⟨by lia,by lia,?_⟩;rw [aZ];refine yD (fun Wp τ G'=>iH G G'/\G' p=some (.jg (bI (L0++mZ (lF (bV r k) k) ((bV r k).take Wp.length))))/\∃ a,τ=[some (enc XV),some (.ref p),some (.int k),some (enc r),a]) ⟨l2,by rw [ay,Mh]; show _=some (GO.jg (bI (L0++[]))); rw [bL]; exact g2,_,rfl⟩ (fun _ _ _ _=>trivial) ?_ ?_
     ·rintro pr y po τ G3 N3 e4 ⟨l3,g3,a,rfl⟩ xi;obtain⟨rfl,mj⟩:=oA e4;have ha:pL (r.map enc) ((pr.length:Nat):Int)=some (enc r[pr.length]):=by
       rw [lG _ (by lia) (by rw [ag]; lia)];simp only [dq,aZ]
      simp only [aJ,bM,bW,aB,au,ar,ai,ae,aa,bc,oJ,CB,a9,gM,ko,dC,gU];refine⟨r,k,_,pr.length,rfl,⟨mj,rl⟩,.inl rfl,?_⟩;refine gT (IsL.enc r) ha ?_;simp only [nj,qS,aj,ay,Wa];have et:(bV r (k:Int)).take (pr.length+1)=(bV r (k:Int)).take pr.length++[(r[pr.length]).s]:=by
       rw [Kw (by lia)]; congr 2; simp [es]
      have ev:jZ r k pr.length=mR (((bV r (k:Int)).take pr.length).foldl mR (lF (bV r k) k)) (r[pr.length]).s:=by
       rw [yx r k pr.length hr,et,kK]; rfl
      have R5:(r[pr.length]).s∉(L0++mZ (lF (bV r k) k) ((bV r k).take pr.length)).map (·.1):=fun z=>by
       have e5:jX r (k:Int)=mZ (lF (bV r k) k) ((bV r k).take pr.length)++mZ (((bV r k).take pr.length).foldl mR (lF (bV r k) k)) ((bV r k).drop pr.length):=by
        unfold jX;rw [<-tO,gJ]
       rw [e5,<-cG,aH,cb] at knd;refine knd.2.2 _ z _ ?_ rfl;rw [l6,List.mem_drop_iff_getElem];exact⟨0,by lia,by simp [es]⟩
      refine⟨by decide,P.kO (k:=(r[pr.length]).s) (v:=jZ r k pr.length) g3 ?_ ?_⟩
      ·rw [aw,xj,eA]; lia
      ·refine xi _ _ ⟨l3.put hp,?_,_,rfl⟩;rw [aM,tW R5,aw,bg,et,tO,ev,cG]; rfl
     ·rintro τ G3 ⟨l3,g3,a,rfl⟩;refine oI _ _ ⟨⟨_,_,_,rfl⟩,l3,?_⟩;rw [g3,show (dB 0 r.length).length=r.length by simp [dB],iu (by lia)]; rfl
  ·rintro τ G' ⟨⟨a,b,c,rfl⟩,l,gp⟩;rw [ik] at gp;exact hN _ _ ⟨⟨_,_,_,rfl⟩,l,gp⟩
 ·rintro _ G' ⟨⟨a,b,c,rfl⟩,l,gp⟩;simp only [cT,fQ,au,ae,aa];exact yA l hp gp q
end Am
end K2
end
section
namespace K2
open PySem (Str)
open Enc (enc)
namespace Am
open K2.P
open K2.Gz
def zg:iC :=
 (cD (bM (bW dD (aB (au 0) bc)) (aJ 1))
 (cT (fQ (og uv (aB (eF 1 [1] (H0 (au 1)) (aJ 0) none (a9 ky (au 1) (au 0))) bc)))))
def dM:mw:=fE
theorem ym{XV:Rows}(d:Dr XV):((e9 XV 0).map (·.1)).Nodup:=by rw [lT]; exact yg d
theorem Jp(ds:List D)(G:Gp)(Q:DK)(h:dM ds G Q fun _ _=>False):zg (fun _ _=>False) (ends Q) (bC 2 ds) G:=by
 obtain⟨XV,rfl,⟨d,nb,kX⟩,q⟩:=h;have nE:=qV d;have pos:=EO kX;have bo:=fun m nd hm=>NL (m:=m) d nd hm;have knd:=ym d;unfold zg;simp only [ends,bC,av,aX,aj,ay,aI,aO,aU,cU,bM,bW,aB,au,aa,bc,aJ,cT,fQ,og,eF,ar,ai];refine⟨XV,rfl,⟨d,nb⟩,?_⟩;generalize e9 XV 0=l at nE pos bo knd;simp only [H0,au,ae,aa,Ab];have ek:(bI l).map (·.1)=l.map fun p=>enc p.1:=by unfold bI; rw [bU]; rfl
 rw [ek];refine⟨B4 (by rw [ag]; lia),?_⟩;refine gI (xs:=l) (f:=fun p=>enc p.1) (fun Wp WF τ G'=>G=G'/\(∃ a,τ=[a,some (.lI (bI l))])/\WF=Wp.map fun p=>enc p.2) ⟨rfl,⟨_,rfl⟩,rfl⟩ (fun _ _ _ _ _=>trivial) ?_ ?_
 ·rintro Wp x Uf WF τ G' N e ⟨rfl,⟨a,rfl⟩,rfl⟩ hN;have hx:x∈l:=by rw [e]; simp
  simp only [aJ,a9,au,ai,ae,aa,qT,kj,iG knd hx,Gf];exact⟨gz _ _,hN _ _ _ ⟨rfl,⟨_,rfl⟩,by rw [aH]; rfl⟩⟩
 ·rintro WF τ G' ⟨rfl,⟨a,rfl⟩,rfl⟩ p1 f1;refine⟨l.map (·.2),?_,by rw [ag]; lia,fun m nd hm p2 f2=>?_⟩
  ·unfold pD; simp only [aM]; rw [bU]; rfl
  ·rw [bo m nd hm];exact jF ((iH.new f1).trans (.new f2)) ((iH.new f1).free f2) aM q
theorem gr{XV:Rows}(d:Dr XV):(cq XV).length<=27:=by
 rw [S6];have h1:=d.nE;have h2:=d.str;have go:∀ rs:Rows,(rs.map cnt).sum<=rs.flatten.length+rs.length:=fun rs=>by
  induction rs with
  | nil=>exact aK _
  | cons r rs ih =>
   rw [av,pZ,bS,aw,aj];have:cnt r<=r.length+1:=by
    unfold cnt;have:=dU (fun p:T3=>p.b == 1) r;lia
   lia
 have:=go XV;lia
theorem xx{i:Nat}{t:iC}{E:md}{K:nF}{τ:iS}{G:Gp}:Vs i t E K τ G=t E { K with nx:=fun qJ G1=>match qJ[i]? with
 | some (some d)=>TZ G1 d fun t G2=>K.nx (qJ.set i (some t)) G2
 | _=>False } τ G:=rfl
end Am
end K2
end
section
namespace K2
open PySem (Str)
open Enc (enc)
namespace JH
open K2.P
open K2.Am (NB fE fC dD dM e9 jX mZ tO l6 xj lF mR cq AB Tz CW jZ yx uA Kq Eh ym qV lT oC wV gr t9 KN eq_int eR qP EO)
open K2.Gz (UM UN prs Hw z3)
variable {XV:Rows}
def hm(XV:Rows)(s:T2):T2:=(rL (e9 XV 0) s).getD s
theorem xg(d:Dr XV){s:T2}(h:s∈jw XV 0):rL (e9 XV 0) s=some (hm XV s)/\hm XV s∈cq XV:=by
 rw [<-lT] at h;obtain⟨p,hp,rfl⟩:=List.mem_map.mp h;have e:=iG (ym d) hp;have e2:hm XV p.1=p.2:=by unfold hm; rw [e]; rfl
 refine⟨by rw [e2]; exact e,?_⟩;rw [e2];unfold cq;exact Mw.mpr ((wV XV 0 _).mp (aW hp))
theorem o8:∀ (rs:Rows) (k:Nat) {p:T3},p∈rs.flatten->p.s∈jw rs k
 | [],_,_,h=>by cases h
 | r :: rs,k,p,h=>by
  rw [bS] at h;rw [jw];rcases List.mem_append.mp h with h | h
  ·refine eK _ ?_;unfold bV;rw [if_neg (fun z=>by rw [z] at h; cases h)];exact aW h
  ·exact bA _ (o8 rs (k+1) h)
theorem ue(d:Dr XV){n:Int}(h:n∈names XV)(w:Int)(hw:w=0\/w=1):∃ p∈XV.flatten,p.s=⟨n,w⟩:=by
 obtain⟨p,hp,e1,e2⟩:=Dm.mp h;rcases hw with rfl | rfl
 ·exact⟨p,hp,by rw [<-e2,<-e1]; rfl⟩
 ·refine⟨_,d.K6 p hp,?_⟩;rw [e1,e2]; rfl
theorem Nl:∀ (a:List T2) (b:T2) (j:Nat) (h:j < a.length),(a[j],(a.take (j+1)).foldl mR b)∈mZ b a
 | [],_,_,h=>absurd h (cF _)
 | s :: a,b,0,h=>aA
 | s :: a,b,j+1,h=>ax _ (Nl a (mR b s) j (by simpa using h))
theorem Q0{km QO:Rows}{r:List T3}{x:T2×T2}(h:x∈jX r (km.length:Int)):x∈e9 (km++r :: QO) 0:=by
 rw [oC,e9];refine bA _ (eK _ ?_);rw [iE]; exact h
theorem R6(d:Dr XV){km QO:Rows}{r:List T3}(e:XV=km++r :: QO){j:Nat}(hj:j < r.length):hm XV (r[j]).s=jZ r (km.length:Int) j:=by
 have hr:r≠[]:=fun z=>by rw [z] at hj; exact absurd hj (cF _)
 have es:bV r (km.length:Int)=r.map T3.s:=by unfold bV; rw [if_neg hr]
 have m:((r[j]).s,jZ r (km.length:Int) j)∈e9 XV 0:=by
  rw [e];refine Q0 ?_;rw [yx r _ j hr];have:=Nl (bV r (km.length:Int)) (lF (bV r (km.length:Int)) (km.length:Int)) j (by rw [es,ag]; exact hj);have e2:(bV r (km.length:Int))[j]'(by rw [es,ag]; exact hj)=(r[j]).s:=by simp [es]
  rw [e2] at this;exact this
 unfold hm;rw [iG (ym d) m]; rfl
theorem XR(d:Dr XV){p:T3}(hp:p∈XV.flatten)(hb:p.b=1):hm XV p.s=p.s:=by
 obtain⟨r,hr,hpr⟩:=List.mem_flatten.mp hp;obtain⟨km,QO,e⟩:=B2 hr;obtain⟨j,hj,rfl⟩:=c8 hpr;rw [R6 d e hj];unfold jZ;have:(uA r j).find? (fun p=>p.b == 1)=some r[j]:=by
  unfold uA;have e3:(r.take (j+1)).reverse=r[j] :: (r.take j).reverse:=by rw [<-tX hj,zO]; rfl
  rw [e3,aO,vZ (by simp [hb])]
 rw [this]; rfl
theorem Vv(d:Dr XV){r:List T3}(hr:r∈XV){j:Nat}(hj:j < r.length):TY XV (r[j]).s=(r[(j+r.length - 1) % r.length]'(kS _ (by lia))).s:=by
 have m:(UM r j,r.getD j z3)∈pairsOf XV:=by
  rw [<-(Hw XV).mem_iff];unfold prs;refine List.mem_flatMap.mpr ⟨r,hr,?_⟩;unfold UN;exact List.mem_map.mpr ⟨j,List.mem_range.mpr hj,rfl⟩
 have e1:r.getD j z3=r[j]:=by rw [aF,ah hj]; rfl
 have e2:UM r j=r[(j+r.length - 1) % r.length]'(kS _ (by lia)):=by
  unfold UM;by_cases c:j=0
  ·subst c;rw [if_pos rfl,aF,ah (by lia)];show r[r.length - 1]=_;congr 1;rw [iE,vY (by lia)]
  ·obtain⟨i,rfl⟩:=Nat.exists_eq_succ_of_ne_zero c;have hi:i < r.length:=Nat.lt_of_succ_lt hj;rw [if_neg c,aF,Nat.succ_sub_one,ah hi];show r[i]=_;congr 1;rw [show i.succ+r.length - 1=i+r.length by rw [Gg]; rfl,Nat.add_mod_right,vY hi]
 rw [e1,e2] at m;exact(SW d m).2
def ix(XV:Rows)(s:T2):Int:=((cq XV).idxOf s:Nat)
def qN(XV:Rows)(n:Int):T3:=⟨ix XV (hm XV ⟨n,0⟩),ix XV (hm XV (TY XV ⟨n,1⟩)),ix XV (hm XV ⟨n,1⟩)⟩
theorem RG{s:T2}(h:s∈cq XV):0<=ix XV s/\ix XV s < (cq XV).length:=by
 unfold ix;have:=Jz h;lia
theorem ql{x:D}{G:Gp}{l:List T2}{n:T2}{Q:DK}(h:IsL G x (l.map enc))(hn:n∈l)(q:Q (.int ((l.idxOf n:Nat):Int)) G):qZ x [enc n] G Q:=by
 refine⟨sM h,l.map enc,enc n,l.map enc,oG h,Enc.sn _ _ _ (by decide),yh (α:=T2) _ 7 (by decide) l,?_⟩;have e:(l.map enc).findIdx? (jf · (enc n))=some (l.idxOf n):=by
  rw [List.findIdx?_map];have:((fun x=>jf x (enc n))∘(enc:T2->D))=fun y=>y == n:=by
   funext y;show jf (enc y) (enc n)=(y == n);rw [Enc.eqv]; rfl
  rw [this,List.findIdx?_eq_some_iff_getElem];have hi:=Jz hn;exact⟨hi,by simp,fun j hj=>by
   have:=List.not_of_lt_findIdx (p:=(· == n)) (xs:=l) hj;simpa using this⟩
 rw [e];exact q
theorem aet(a b c:D):pL [a,b,c] 2=some c:=rfl
theorem yQ(d:Dr XV){p:T3}(h:p∈XV.flatten):rL (nP (kh (pairsOf XV))) p.s=some (TY XV p.s)/\TY XV p.s∈jw XV 0:=by
 obtain⟨q,hq,hqf⟩:=Sd h;rw [LN d];have:=SW d hq;exact⟨by rw [this.2]; exact this.1,by rw [this.2]; exact o8 XV 0 hqf⟩
def wJ:iC :=
 (cD (bM (bW fE (aB (au 0) bc)) (aJ 1))
 (cD (bM (bW fC (aB (au 0) bc)) (aJ 2))
 (cD (bM (bW nK (aB (au 0) bc)) (aJ 3))
 (cD (bM (nq bc) (aJ 4))
 (cD (gB (lZ (bW pf (aB (au 0) bc))) (aJ 5) (cD (bM (iZ (aB (a9 ky (au 2) (iZ (aB (au 5) (aB (dC (.int 0)) bc)))) (aB (a9 ky (au 2) (a9 ky (au 3) (iZ (aB (au 5) (aB (dC (.int 1)) bc))))) (aB (a9 ky (au 2) (iZ (aB (au 5) (aB (dC (.int 1)) bc)))) bc)))) (aJ 6))
 (i0 (BI Ce uf (au 4) (aB (iZ (aB (BI Ce qZ (au 1) (aB (a9 ky (au 6) (dC (.int 0))) bc)) (aB (BI Ce qZ (au 1) (aB (a9 ky (au 6) (dC (.int 1))) bc)) (aB (BI Ce qZ (au 1) (aB (a9 ky (au 6) (dC (.int 2))) bc)) bc)))) bc)))))
 (cT (fQ (au 4))))))))
def dQ:mw:=fun ds G Q _=>∃ XV:Rows,ds=[enc XV]/\(Dr XV/\NB XV/\XV≠[])/\Q (enc ((names XV).map (qN XV))) G
theorem lW(d:Dr XV):(names XV).length<=24:=by
 unfold names;rw [Mx,ag];exact cw (dU _ _) d.nE
theorem FV(ds:List D)(G:Gp)(Q:DK)(h:dQ ds G Q fun _ _=>False):wJ (fun _ _=>False) (ends Q) (bC 7 ds) G:=by
 obtain⟨XV,rfl,⟨d,nb,kX⟩,q⟩:=h;have nE:=d.nE;have nf:=lW d;unfold wJ;simp only [ends,bC,av,aX,aj,ay,aI,aO,aU,cU,bM,bW,aB,au,aa,bc,aJ,ar,ai,nq];refine⟨XV,rfl,⟨d,nb,kX⟩,?_⟩;refine⟨XV,rfl,⟨d,nb⟩,?_⟩;refine⟨XV,rfl,by lia,?_⟩;simp only [fQ,bC,ends,di,a9,NG,au,og,BI,aB,bc,cT,V8,i0,bM,aJ,dC,eE,iZ,nq,vP,xw,IU,SQ,vO,xy,NI,BH,CB,ko,gM,fh,gW,bW,eF,kd,Hr,wU,sZ,iX,kc,fk,kP,sY,zW,EM,uc,MM,iz,wR,qS,EK,EL,xE,Jc,DP,mB,pC,tF,rR,o7,Em,Mp,Mo,true_and,and_true,ui,Ng,gU,bF,fY,Br,Nd,HX,av,aX,aO,aU,aa,ae,ai,ar,aj,ay,aI,if_true,if_false,bG,cW,aC,cU,qg];refine⟨by decide,fun p hp=>?_⟩;refine fX (fun τ G'=>iH G G'/\G' p=some (.lst (((names XV).map (qN XV)).map enc))/\∃ a b c e f g,τ=[a,b,c,e,some (.ref p),f,g]) ?_ ?_
 ·intro N hN;simp only [gB,fh,bW,aB,au,aa,bc];refine⟨XV,rfl,(show XV.flatten.length < 64 by lia),?_⟩;refine iO ?_;refine gK (xs:=names XV) (f:=D.int) (fun Wp τ G'=>iH G G'/\G' p=some (.lst ((Wp.map (qN XV)).map enc))/\∃ f g,τ=[some (enc XV),some (enc (cq XV)),some (.lI (bI (e9 XV 0))),some (.lI (bI (nP (kh (pairsOf XV))))),some (.ref p),f,g]) ⟨.new hp,aM,_,_,rfl⟩ (fun _ _ _ _=>trivial) ?_ ?_
  ·rintro Wp n Uf τ G' N2 e ⟨le,gp,f,g,rfl⟩ oI;have hn:n∈names XV:=by rw [e]; simp
   have hlp:Wp.length < (names XV).length:=by have:=congrArg dF e; simp at this; lia
   obtain⟨p0,m0,e0⟩:=ue d hn 0 (.inl rfl);obtain⟨p1,m1,e1⟩:=ue d hn 1 (.inr rfl);have a0:=xg d (s:=⟨n,0⟩) (by rw [<-e0]; exact o8 XV 0 m0);have a1:=xg d (s:=⟨n,1⟩) (by rw [<-e1]; exact o8 XV 0 m1);obtain⟨c1,c2⟩:=yQ d m1;rw [e1] at c1 c2;have a2:=xg d c2;have l0:look (bI (e9 XV 0)) (.tup [.int n,.int 0])=some (enc (hm XV ⟨n,0⟩)):=by
    have:=kj (e9 XV 0) (⟨n,0⟩:T2);rw [a0.1] at this; exact this
   have l1:look (bI (e9 XV 0)) (.tup [.int n,.int 1])=some (enc (hm XV ⟨n,1⟩)):=by
    have:=kj (e9 XV 0) (⟨n,1⟩:T2);rw [a1.1] at this; exact this
   have l2:look (bI (nP (kh (pairsOf XV)))) (.tup [.int n,.int 1])=some (enc (TY XV ⟨n,1⟩)):=by
    have:=kj (nP (kh (pairsOf XV))) (⟨n,1⟩:T2);rw [c1] at this; exact this
   have l3:look (bI (e9 XV 0)) (enc (TY XV ⟨n,1⟩))=some (enc (hm XV (TY XV ⟨n,1⟩))):=by
    have:=kj (e9 XV 0) (TY XV ⟨n,1⟩);rw [a2.1] at this; exact this
   simp only [aJ,ar,ai,cU,bM,iZ,aB,a9,au,ae,aa,dC,bc,aj,ay,i0,BI,o7,mB,iz,qT,l1,l2,l3,l0];refine⟨by decide,gz (e9 XV 0) (⟨n,0⟩:T2),by decide,gz (nP (kh (pairsOf XV))) (⟨n,1⟩:T2),gz _ _,by decide,gz (e9 XV 0) (⟨n,1⟩:T2),by decide,?_⟩;simp only [gp,true_and];have il:IsL G' (enc (cq XV)) ((cq XV).map enc):=IsL.enc _;refine⟨sM il,?_⟩;simp only [at0,Gv,aet];refine ql il a0.2 ⟨sM il,ql il a2.2 ⟨sM il,ql il a1.2 ⟨by decide,?_⟩⟩⟩;simp only [gp];refine⟨Kx (by rw [ag,ag]; lia),oI _ _ ⟨le.put hp,?_,_,_,rfl⟩⟩;rw [aM,aH,aH]; rfl
  ·rintro τ G' ⟨le,gp,f,g,rfl⟩;exact hN _ _ ⟨le,gp,_,_,_,_,_,_,rfl⟩
 ·rintro _ G' ⟨le,gp,a,b,c,e,f,g,rfl⟩;simp only [cT,fQ,au,ae,aa];exact jF le hp gp q
end JH
end K2
end
section
namespace K2
open PySem (Str)
open Enc (enc)
namespace JH
open K2.P
open K2.Am (NB fE fC dD dM cq eq_int eR)
variable {XV:Rows}
def P3(p:Int):Prop:=p=3\/p=5\/p=7
theorem zv{p:Int}:([3,5,7]:List Int).contains p=true↔P3 p:=by
 unfold P3;simp
def rP:iC :=
 (mI (gL (Po true [3,5,7] (au 0))) LJ eE)
def eW:mw:=fun ds G Q _=>∃ p:Int,ds=[.int p]/\P3 p/\Q .dh G
theorem zN(ds:List D)(G:Gp)(Q:DK)(h:eW ds G Q fun _ _=>False):rP (fun _ _=>False) (ends Q) (bC 1 ds) G:=by
 obtain⟨p,rfl,hp,q⟩:=h;unfold rP;simp only [ends,bC,av,aX,aj,ay,aO,aU,eR,eE,di,Po,au,aa,if_true,bF];refine⟨p,rfl,?_⟩;rw [zv.mpr hp];simp only [bG,aC,if_false];exact q
def num(ns:List Int)(i:Int):Int:=ns.getD i.toNat 0
def kp(ns:List Int)(p:Int)(t:T3):Bool:=decide ((2 * num ns t.a - num ns t.b - num ns t.c) % p=0)
structure In(ns:List Int)(t:T3):Prop where
 a:0<=t.a/\t.a < ns.length
 b:0<=t.b/\t.b < ns.length
 c:0<=t.c/\t.c < ns.length
def Sm(ns:List Int):Prop:=∀ i,0<=num ns i/\num ns i < 100
theorem yq{ns:List Int}{i:Int}(h:0<=i/\i < ns.length):pL (ns.map D.int) i=some (.int (num ns i)):=by
 rw [lG _ h.1 (by rw [ag]; exact h.2)];simp only [dq];unfold num;rw [aF,ah (by lia)]; rfl
def wN:iC :=
 (cT (fQ (og Vz (aB (eF 3 [2,1] (lZ (au 0)) (nO (fK (aJ 0) (fK (aJ 1) (fK (aJ 2) ng)))) none (a9 (A1 false) (a9 mW (a9 vo (a9 vo (a9 wQ (dC (.int 2)) (a9 ky (au 3) (au 0))) (a9 ky (au 3) (au 1))) (a9 ky (au 3) (au 2))) (au 4)) (dC (.int 0)))) bc))))
def gh:mw:=fun ds G Q _=>∃ (ts:List T3) (p:Int) (d:D) (ns:List Int),ds=[enc ts,.int p,d]/\IsL G d (ns.map D.int)/\(ts.length<=100/\0 < p/\Sm ns/\∀ t∈ts,In ns t)/\Q (.bl (ts.all (kp ns p))) G
theorem Ga(ds:List D)(G:Gp)(Q:DK)(h:gh ds G Q fun _ _=>False):wN (fun _ _=>False) (ends Q) (bC 3 ds) G:=by
 obtain⟨ts,p,d,ns,rfl,hd,⟨hl,hp,sm,R7⟩,q⟩:=h;unfold wN;simp only [cT,fQ,og,aB,eF,bC,av,aX,aj,ay,aO,aU,bc,ends,fh,au,aa];refine iO ⟨B4 (by rw [ag]; lia),?_⟩;refine gI (xs:=ts) (fun Wp WF τ G'=>G=G'/\(∃ a b c,τ=[a,b,c,some d,some (.int p)])/\WF=(Wp.map (kp ns p)).map D.bl) ⟨rfl,⟨_,_,_,rfl⟩,rfl⟩ (fun _ _ _ _ _=>trivial) ?_ ?_
 ·rintro Wp t Uf WF τ G' N e ⟨rfl,⟨a,b,c,rfl⟩,rfl⟩ hN;have it:=R7 t (by rw [e]; simp);have s1:=sm t.a;have s2:=sm t.b;have s3:=sm t.c;simp only [nO,nj,fK,aJ,ng,a9,dC,au,ai,ar,ae,aa];refine gT hd (yq it.a) ?_;simp only [kc];refine⟨.inl ⟨by decide,by decide⟩,gT hd (yq it.b) (gT hd (yq it.c) ?_)⟩;simp only [iX,fk];refine⟨hp,_,_,.int _,.int _,?_⟩;rw [eq_int];refine hN _ _ _ ⟨rfl,⟨_,_,_,rfl⟩,?_⟩;rw [aH,aH]; rfl
 ·rintro WF τ G' ⟨rfl,⟨a,b,c,rfl⟩,rfl⟩ pa fa;refine⟨ts.map (kp ns p),oG (IsL.ref aM),Ah (.new fa) ?_⟩;have e:(ts.map (kp ns p)).all id=ts.all (kp ns p):=by rw [r8]; rfl
  rw [e]; exact q
theorem pQ(d:Dr XV){ns:List Int}(hl:ns.length=(cq XV).length){n:Int}(hn:n∈names XV):In ns (qN XV n):=by
 obtain⟨p0,m0,e0⟩:=ue d hn 0 (.inl rfl);obtain⟨p1,m1,e1⟩:=ue d hn 1 (.inr rfl);have a0:=xg d (s:=⟨n,0⟩) (by rw [<-e0]; exact o8 XV 0 m0);have a1:=xg d (s:=⟨n,1⟩) (by rw [<-e1]; exact o8 XV 0 m1);have c2:=(yQ d m1).2;rw [e1] at c2;have a2:=xg d c2;exact⟨by rw [hl]; exact RG a0.2,by rw [hl]; exact RG a2.2,by rw [hl]; exact RG a1.2⟩
end JH
end K2
end
section
namespace K2
open PySem (Str)
open Enc (enc)
namespace JH
open K2.P
open K2.Gz (ic tV)
open K2.Am (NB fE fC dD dM e9 cq eq_int eR jZ uA Kq Eh t9 ym qV gr)
variable {XV:Rows}
def wL:iC :=
 (cD (gB (lZ (au 0)) (nO (fK (aJ 3) (fK (aJ 4) (fK (aJ 5) ng)))) (mI (gL (a9 (A1 true) (a9 mW (a9 vo (a9 vo (a9 wQ (dC (.int 2)) (a9 ky (au 2) (au 3))) (a9 ky (au 2) (au 4))) (a9 ky (au 2) (au 5))) (au 1)) (dC (.int 0)))) (cT (fQ (dC (.bl false)))) eE))
 (cT (fQ (dC (.bl true)))))
def iK:mw:=gh
theorem FY(ds:List D)(G:Gp)(Q:DK)(h:iK ds G Q fun _ _=>False):wL (fun _ _=>False) (ends Q) (bC 6 ds) G:=by
 obtain⟨ts,p,d,ns,rfl,hd,⟨hl,hp,sm,R7⟩,q⟩:=h;unfold wL;refine fX (fun τ G'=>G=G'/\(ts.all (kp ns p)=true)/\∃ a b c,τ=[some (enc ts),some (.int p),some d,a,b,c]) ?_ ?_
 ·intro N hN;simp only [gB,bC,av,aX,aj,ay,aI,aO,aU,ends,fh,au,aa];refine iO ?_;refine gK (xs:=ts) (fun Wp τ G'=>G=G'/\(Wp.all (kp ns p)=true)/\∃ a b c,τ=[some (enc ts),some (.int p),some d,a,b,c]) ⟨rfl,rfl,_,_,_,rfl⟩ (fun _ _ _ _=>trivial) ?_ ?_
  ·rintro Wp t Uf τ G' N2 e ⟨rfl,ha,a,b,c,rfl⟩ oI;have it:=R7 t (by rw [e]; simp);have s1:=sm t.a;have s2:=sm t.b;have s3:=sm t.c;simp only [nO,nj,fK,aJ,ng,ar,ai,eR,cT,fQ,dC,eE,di,a9,au,ae,aa];refine gT hd (yq it.a) ?_;simp only [kc];refine⟨.inl ⟨by decide,by decide⟩,gT hd (yq it.b) (gT hd (yq it.c) ?_)⟩;simp only [iX,fk];refine⟨hp,_,_,.int _,.int _,?_⟩;rw [eq_int];have ek:kp ns p t=decide ((2 * num ns t.a - num ns t.b - num ns t.c) % p=0):=rfl;rw [<-ek];cases hk:kp ns p t with
   | true =>
    simp only [bG,if_true,bF,aC,if_false];refine oI _ _ ⟨rfl,?_,_,_,_,rfl⟩;rw [List.all_append,ha,p7,hk]; rfl
   | false =>
    simp only [cW,if_true,bF];have:ts.all (kp ns p)=false:=by rw [e,List.all_append,p7,hk,sk,zE]
    rw [this] at q;exact lA q
  ·rintro τ G' ⟨rfl,ha,a,b,c,rfl⟩;exact hN _ _ ⟨rfl,ha,_,_,_,rfl⟩
 ·rintro _ _ ⟨rfl,ha,a,b,c,rfl⟩;simp only [cT,fQ,dC,ends];rw [ha] at q;exact lA q
end JH
end K2
end
section
namespace K2
open PySem (Str)
open Enc (enc)
namespace JH
open K2.P
open K2.Gz (ic tV)
open K2.Am (NB fE fC dD dM kD e9 cq eq_int eR jZ t9 ym qV gr)
variable {XV:Rows}
def vk(rs:Rows):List T3:=rs.flatten.filter fun p=>p.b == 1
theorem N5(Wp:Rows)(r:List T3):vk (Wp++[r])=vk Wp++r.filter fun p=>p.b == 1:=by
 unfold vk; rw [jl,List.flatten_singleton,cS]
theorem sL(d:Dr XV){p:T3}(hp:p∈XV.flatten)(hb:p.b=1):p.a∈names XV:=by
 refine Dm.mpr ⟨_,d.K6 p hp,?_,rfl⟩;show 1 - p.b=0;lia
theorem xI(d:Dr XV)(f:T3->Bool):((names XV).map (qN XV)).all f=((vk XV).map fun p=>qN XV p.a).all f:=by
 rw [xW,eB,eB];constructor
 ·intro h t ht;obtain⟨p,hp,rfl⟩:=List.mem_map.mp ht;obtain⟨h1,h2⟩:=List.mem_filter.mp hp;exact h _ (aW (sL d h1 (by simpa using h2)))
 ·intro h t ht;obtain⟨n,hn,rfl⟩:=List.mem_map.mp ht;obtain⟨p,hp,e⟩:=ue d hn 1 (.inr rfl);have ea:p.a=n:=congrArg T2.a e;have eb:p.b=1:=congrArg T2.b e;have:=h (qN XV p.a) (List.mem_map.mpr ⟨p,List.mem_filter.mpr ⟨hp,by simp [eb]⟩,rfl⟩);rw [ea] at this; exact this
def uW:iC :=
 (cD (bM (bW dD (aB (au 0) bc)) (aJ 1))
 (cD (bM (bW dM (aB (au 0) bc)) (aJ 2))
 (cD (bM (nq bc) (aJ 3))
 (cD (gB (tJ (au 0)) (nO (fK (aJ 4) (fK (aJ 5) ng))) (gB (oH (og nu (aB (au 5) bc))) (aJ 6) (mI (gL (a9 (A1 false) (a9 ky (a9 ky (au 5) (au 6)) (dC (.int 1))) (dC (.int 1)))) (cD (bM (BI Ce qZ (au 2) (aB (a9 ky (au 1) (iZ (aB (a9 ky (a9 ky (au 5) (au 6)) (dC (.int 0))) (aB (dC (.int 0)) bc)))) bc)) (aJ 7))
 (cD (bM (BI Ce qZ (au 2) (aB (bW kD (aB (au 5) (aB (au 4) (aB (a9 vo (au 6) (dC (.int 1))) bc)))) bc)) (aJ 8))
 (i0 (BI Ce uf (au 3) (aB (iZ (aB (au 7) (aB (au 8) (aB (BI Ce qZ (au 2) (aB (CB (a9 ky (au 5) (au 6)) gM (qw (dC (.int 2)))) bc)) bc)))) bc))))) eE)))
 (cT (fQ (au 3)))))))
def i6:mw:=fun ds G Q _=>∃ XV:Rows,ds=[enc XV]/\(Dr XV/\NB XV/\XV≠[])/\Q (enc ((vk XV).map fun p=>qN XV p.a)) G
theorem CI(ds:List D)(G:Gp)(Q:DK)(h:i6 ds G Q fun _ _=>False):uW (fun _ _=>False) (ends Q) (bC 9 ds) G:=by
 obtain⟨XV,rfl,⟨d,nb,kX⟩,q⟩:=h;have nE:=d.nE;unfold uW;simp only [ends,bC,av,aX,aj,ay,aI,aO,aU,cU,bM,bW,aB,au,aa,bc,aJ,ar,ai,nq];refine⟨XV,rfl,⟨d,nb⟩,?_⟩;refine⟨XV,rfl,⟨d,nb,kX⟩,?_⟩;simp only [fQ,bC,ends,di,a9,NG,au,og,BI,aB,bc,cT,V8,i0,bM,aJ,dC,eE,iZ,nq,vP,xw,IU,SQ,vO,xy,NI,BH,CB,ko,gM,fh,gW,bW,eF,kd,Hr,wU,sZ,iX,kc,fk,kP,sY,zW,EM,uc,MM,iz,wR,qS,EK,EL,xE,Jc,DP,mB,pC,tF,rR,o7,Em,Mp,Mo,true_and,and_true,ui,Ng,gU,bF,fY,Br,Nd,HX,av,aX,aO,aU,aa,ae,ai,ar,aj,ay,aI,if_true,if_false,bG,cW,aC,cU,qg];refine⟨by decide,fun p hp=>?_⟩;refine fX (fun τ G'=>iH G G'/\G' p=some (.lst (((vk XV).map fun p=>qN XV p.a).map enc))/\∃ a b c e f g i h,τ=[a,b,c,some (.ref p),e,f,g,i,h]) ?_ ?_
 ·intro N hN;simp only [gB,tJ,au,aa];refine mC ?_;rw [BC];refine gK (xs:=XV.zipIdx 0) (fun Wp τ G'=>iH G G'/\G' p=some (.lst (((vk (Wp.map (·.1))).map fun p=>qN XV p.a).map enc))/\∃ e f g i h,τ=[some (enc XV),some (.lI (bI (e9 XV 0))),some (enc (cq XV)),some (.ref p),e,f,g,i,h]) ⟨.new hp,aM,_,_,_,_,_,rfl⟩ (fun _ _ _ _=>trivial) ?_ ?_
  ·rintro Wp x Uf τ G' N2 e ⟨le,gp,b1,b2,b3,b4,b5,rfl⟩ oI;obtain⟨km,QO,e1,e2,e3⟩:=qK e;have hx:x.1∈XV:=by rw [e1]; simp
   have ep:Wp.map (·.1)=km:=by rw [e3,ik]
   rw [ep] at gp;have eN:vk ((Wp++[x]).map (·.1))=vk km++x.1.filter fun p=>p.b == 1:=by
    rw [aH,ep];exact N5 km x.1
   rw [eN] at oI;have rl:=t9 d hx;have ul:(vk km).length<=24:=by
    have h1:km.flatten.length<=XV.flatten.length:=by rw [e1,jl,aw]; lia
    exact cw (dU _ _) (by lia)
   obtain⟨r,k⟩:=x;simp only at e1 e2 hx rl oI;subst e2;simp only [nO,fK,aJ,ng,gB,ar,ai,gW,og,aB,au,ae,aa,bc];refine lE (IsL.enc r) ?_;simp only [ag,fY];refine⟨by lia,by lia,?_⟩;rw [aZ];refine yD (fun pr τ G2=>iH G G2/\G2 p=some (.lst (((vk km++(r.take pr.length).filter fun p=>p.b == 1).map fun p=>qN XV p.a).map enc))/\∃ g i h,τ=[some (enc XV),some (.lI (bI (e9 XV 0))),some (enc (cq XV)),some (.ref p),some (.int (km.length:Int)),some (enc r),g,i,h]) ⟨le,by rw [ay,Mh,i5,bL]; exact gp,_,_,_,rfl⟩ (fun _ _ _ _=>trivial) ?_ ?_
   ·rintro pr y po τ G2 N3 e4 ⟨l2,g2,c1,c2,c3,rfl⟩ xi;obtain⟨rfl,mj⟩:=oA e4;have ha:pL (r.map enc) ((pr.length:Nat):Int)=some (enc r[pr.length]):=by
     rw [lG _ (by lia) (by rw [ag]; lia)];simp only [dq,aZ]
    have hpf:r[pr.length]∈XV.flatten:=List.mem_flatten.mpr ⟨r,hx,cu mj⟩;have et:r.take (pr.length+1)=r.take pr.length++[r[pr.length]]:=by rw [tX mj]
    simp only [aJ,ar,ai,eR,cU,bM,BI,au,ae,aa,aB,a9,iZ,dC,bc,aj,ay,bW,i0,o7,CB,gM,mB,ko,gU,iX,eE,di];refine gT (IsL.enc r) ha ?_;simp only [nj,iz,Gv];refine⟨_,_,.int _,.int _,?_⟩;rw [eq_int];by_cases c:(r[pr.length]).b=1
    ·simp only [aC,c,decide_true,bG,if_false,bF,if_true];have il:∀ G',IsL G' (enc (cq XV)) ((cq XV).map enc):=fun _=>IsL.enc _;refine⟨sM (il _),gT (IsL.enc r) ha ?_⟩;simp only [nj,iz,at0];have hn:=sL d hpf c;obtain⟨p0,m0,e0⟩:=ue d hn 0 (.inl rfl);have a0:=xg d (s:=⟨(r[pr.length]).a,0⟩) (by rw [<-e0]; exact o8 XV 0 m0);have es:(r[pr.length]).s=⟨(r[pr.length]).a,1⟩:=by rw [<-c]; rfl
     have hu:=XR d hpf c;have a1:=xg d (s:=(r[pr.length]).s) (o8 XV 0 hpf);have hc:=Vv d hx mj;have XT:(pr.length+r.length - 1) % r.length < r.length:=kS _ (by lia);have Z7:=R6 d e1 XT;have a2:=xg d (yQ d hpf).2;rw [hc,Z7] at a2;have et3:qN XV (r[pr.length]).a=⟨ix XV (hm XV ⟨(r[pr.length]).a,0⟩),ix XV (jZ r (km.length:Int) ((pr.length+r.length - 1) % r.length)),ix XV (r[pr.length]).s⟩:=by
      unfold qN;rw [<-es,hu,hc,Z7]
     have l0:look (bI (e9 XV 0)) (.tup [.int (r[pr.length]).a,.int 0])=some (enc (hm XV ⟨(r[pr.length]).a,0⟩)):=by
      have:=kj (e9 XV 0) (⟨(r[pr.length]).a,0⟩:T2);rw [a0.1] at this; exact this
     simp only [qT,l0];refine⟨by decide,gz (e9 XV 0) (⟨(r[pr.length]).a,0⟩:T2),ql (il _) a0.2 ?_⟩;refine⟨sM (il _),r,_,_,(pr.length+r.length - 1) % r.length,rfl,⟨XT,rl⟩,?_,ql (il _) a2.2 ?_⟩
     ·by_cases z:pr.length=0
      ·refine .inr ⟨by rw [z]; rfl,?_⟩;rw [z,iE,vY (by lia)]; lia
      ·refine .inl ?_;rw [show pr.length+r.length - 1=(pr.length - 1)+r.length by lia,Nat.add_mod_right,vY (by lia)];lia
     simp only [g2,true_and];refine⟨sM (il _),gT (IsL.enc r) ha ?_⟩;simp only [nj,qS,aj,ay,Wa];have a1':(r[pr.length]).s∈cq XV:=by have:=a1.2; rw [hu] at this; exact this
     refine⟨by decide,ql (n:=(r[pr.length]).s) (il _) a1' ⟨by decide,?_⟩⟩;simp only [g2];refine⟨Kx ?_,xi _ _ ⟨l2.put hp,?_,_,_,_,rfl⟩⟩
     ·rw [ag,ag,aw];have:=dU (fun p:T3=>p.b == 1) (r.take pr.length);rw [eA] at this;lia
     ·rw [aM,aw,bg,et,cS,fW (by simp [c]),i5,<-cG];simp only [aH,av,aX,et3];rfl
    ·simp only [aC,c,decide_false,cW,if_false,bF];refine xi _ _ ⟨l2,?_,_,_,_,rfl⟩;rw [g2,aw,bg,et,cS,g4 (by simp [c]),i5,bL]
   ·rintro τ G2 ⟨l2,g2,c1,c2,c3,rfl⟩;refine oI _ _ ⟨l2,?_,_,_,_,_,_,rfl⟩;rw [g2,show (dB 0 r.length).length=r.length by simp [dB],iu (aK _)]
  ·rintro τ G' ⟨le,gp,b1,b2,b3,b4,b5,rfl⟩;rw [ik] at gp;exact hN _ _ ⟨le,gp,_,_,_,_,_,_,_,_,rfl⟩
 ·rintro _ G' ⟨le,gp,a,b,c,e,f,g,i,h,rfl⟩;simp only [cT,fQ,au,ae,aa];exact jF le hp gp q
end JH
end K2
end
section
namespace K2
namespace xN
def vs(p:Nat):Nat->List (List Int)
 | 0=>[[]]
 | n+1=>(aY p).flatMap fun a:Nat=>(vs p n).map ((a:Int) :: ·)
def dot:List Int->List Int->Int
 | a :: x,b :: y=>a * b+dot x y
 | _,_=>0
def el(e:List Int)(q:Int):Int:=e.getD q.toNat 0
def Pr(p:Nat):Prop:=p=3\/p=5\/p=7
theorem vh{p:Nat}:∀ {n:Nat} {y:List Int},y∈vs p n->y.length=n
 | 0,y,h=>by
  have:y=[]:=by simpa [vs] using h
  rw [this]; rfl
 | n+1,y,h=>by
  rw [vs,List.mem_flatMap] at h;obtain⟨a,_,h⟩:=h;obtain⟨z,hz,rfl⟩:=List.mem_map.mp h;rw [aj,vh hz]
theorem t6{p:Nat}:∀ n,vs p (n+1)=(vs p n).flatMap fun y=>(aY p).map fun a:Nat=>y++[(a:Int)]
 | 0=>by
  rw [vs,vs];simp only [av,aX,hX,List.flatMap_nil,bL,aU];induction aY p with
  | nil=>rfl
  | cons a l ih=>rw [hX,ih]; rfl
 | n+1=>by
  have e:=t6 (p:=p) n;rw [show vs p (n+1+1)=(aY p).flatMap (fun a:Nat=>(vs p (n+1)).map ((a:Int) :: ·)) from rfl]
  conv=>lhs; rw [e]
  rw [show vs p (n+1)=(aY p).flatMap (fun a:Nat=>(vs p n).map ((a:Int) :: ·)) from rfl];rw [List.flatMap_assoc];congr 1;funext b;rw [List.map_flatMap,List.flatMap_map];congr 1;funext y;rw [bU];rfl
theorem Qu{α:Type}{c:Nat}{f:α->Nat}{P:α->Bool}:∀ {l:List α},(∀ y∈l,f y=if P y=true then c else 0)->(l.map f).sum=c * l.countP P
 | [],_=>by simp
 | y :: l,h=>by
  rw [av,pZ,Qu (fun z hz=>h z (ax _ hz)),h y aA,List.countP_cons];split <;> simp [Nat.mul_add,Nat.add_comm]
theorem IX{p n:Nat}{P P':List Int->Bool}{c:Nat}(h:∀ y∈vs p n,((aY p).countP fun a:Nat=>P (y++[(a:Int)]))=if P' y=true then c else 0):(vs p (n+1)).countP P=c * (vs p n).countP P':=by
 rw [t6,List.countP_flatMap,<-Qu h];congr 1;apply zP;intro y _;simp only [Function.comp,List.countP_map];rfl
theorem UZ:∀ p∈[3,5,7],∀ u∈aY p,∀ c∈aY p,u≠0->((aY p).countP fun a:Nat=>decide ((u * a+c) % p=0))=1:=by decide
theorem Xl:∀ p∈[3,5,7],∀ u∈aY p,∀ t∈aY p,u≠0->(u * t) % p=0->t=0:=by decide
theorem Pr.mem{p:Nat}(h:Pr p):p∈[3,5,7]:=by rcases h with rfl | rfl | rfl <;> simp
theorem Pr.pos{p:Nat}(h:Pr p):0 < p:=by rcases h with rfl | rfl | rfl <;> decide
theorem zZ{p:Nat}(hp:Pr p)(u:Int):∃ m,m∈aY p/\u % p=(m:Nat):=by
 have:=hp.pos;refine⟨(u % p).toNat,List.mem_range.mpr ?_,?_⟩
 ·have h1:=c7 u (show (0:Int) < p by lia);have h2:=dP u (show (p:Int)≠0 by lia);lia
 ·have h2:=dP u (show (p:Int)≠0 by lia);lia
theorem fit{p:Nat}(hp:Pr p){u c:Int}(hu:u % p≠0):((aY p).countP fun a:Nat=>decide ((u * (a:Int)+c) % p=0))=1:=by
 obtain⟨m,hm,em⟩:=zZ hp u;obtain⟨k,hk,ek⟩:=zZ hp c;rw [<-UZ p hp.mem m hm k hk (fun z=>hu (by rw [em,z]; rfl))];apply tZ;intro a _;rw [decide_eq_true_iff,decide_eq_true_iff,jm,fP,em,ek];have e:((m:Int) * ((a:Int) % p) % p+k) % p=(((m * a+k) % p:Nat):Int):=by
  rw [Int.emod_add_emod];rw [jm,fP,Cc,<-fP,<-jm]
  norm_cast
 rw [e]
 norm_cast
theorem Y3{p:Nat}(hp:Pr p){u t:Int}(hu:u % p≠0)(h:(u * t) % p=0):t % p=0:=by
 obtain⟨m,hm,em⟩:=zZ hp u;obtain⟨k,hk,ek⟩:=zZ hp t;rw [fP,em,ek] at h;rw [ek,Xl p hp.mem m hm k hk (fun z=>hu (by rw [em,z]; rfl)) (by exact_mod_cast h)];rfl
theorem pG(x:List Int):dot x []=0:=by cases x <;> rfl
theorem qv:∀ (y e:List Int) (a:Int),dot e (y++[a])=dot e y+e.getD y.length 0 * a
 | [],[],a=>by simp [dot]
 | [],b :: e,a=>by simp [dot,pG]
 | c :: y,[],a=>by simp [dot]
 | c :: y,b :: e,a=>by
  rw [aO,dot,dot,qv y e a,aj,zQ];lia
theorem Nw(p u v:Int):∀ (x a b:List Int),a.length=b.length->dot (xR (fun f l=>(f * u - l * v) % p) a b) x % p=(dot a x * u - dot b x * v) % p
 | [],a,b,_=>by rw [pG,pG,pG]; simp
 | c :: x,[],[],_=>by simp [dot]
 | c :: x,f :: a,l :: b,h=>by
  rw [List.zipWith_cons_cons,dot,dot,dot];have ih:=Nw p u v x a b (by simpa using h);rw [jm,ih,fP,Cc,<-fP,<-jm];congr 1;simp only [Int.sub_mul,Int.add_mul];rw [Cb f u c,Cb l v c];lia
structure Red(p n:Nat)(R:List (Int×List Int)):Prop where
 nd:(R.map (·.1)).Nodup
 ok:∀ r∈R,(0<=r.1/\r.1 < n)/\r.2.length=n/\∀ v∈r.2,0<=v/\v < p
 one:∀ r∈R,el r.2 r.1=1
 top:∀ r∈R,∀ j:Int,r.1 < j->el r.2 j=0
 red:∀ r∈R,∀ q∈R,q.1≠r.1->el r.2 q.1=0
def DW(p:Nat)(es:List (List Int))(x:List Int):Prop:=∀ e∈es,dot e x % p=0
instance (p:Nat) (es:List (List Int)) (x:List Int):Decidable (DW p es x):=by unfold DW; infer_instance
def frees(R:List (Int×List Int))(k:Nat):List Nat:=(aY k).filter fun j=>decide ((j:Int)∉R.map (·.1))
theorem Xn{R:List (Int×List Int)}(h:(R.map (·.1)).Nodup){a b:Int×List Int}(ha:a∈R)(hb:b∈R)(e:a.1=b.1):a=b:=by
 induction R with
 | nil=>cases ha
 | cons r R ih =>
  rw [av,cN] at h;rcases List.mem_cons.mp ha with e1 | X0
  ·rcases List.mem_cons.mp hb with e2 | Ii
   ·rw [e1,e2]
   ·subst e1; exact absurd (e ▸ aW Ii) h.1
  ·rcases List.mem_cons.mp hb with e2 | Ii
   ·subst e2; exact absurd (e ▸ aW X0) h.1
   ·exact ih h.2 X0 Ii
theorem C8{p n:Nat}(hp:Pr p){R:List (Int×List Int)}(h:Red p n R):∀ k,(vs p k).countP (fun y=>decide (∀ r∈R,r.1 < (k:Nat)->dot r.2 y % p=0))=p ^ (frees R k).length
 | 0=>by
  rw [vs];have:∀ r∈R,r.1 < ((0:Nat):Int)->dot r.2 [] % (p:Int)=0:=fun r _ _=>by rw [pG]; simp
  simp [frees,List.countP_cons,pG]
 | k+1=>by
  have ih:=C8 hp h k;by_cases hk:((k:Nat):Int)∈R.map (·.1)
  ·obtain⟨r0,Vb,e0⟩:=List.mem_map.mp hk;have ef:frees R (k+1)=frees R k:=by
    unfold frees;rw [qA,cS];simp only [jK,i5];rw [if_neg (by simpa using hk)];simp
   rw [ef,<-ih,<-Nat.one_mul ((vs p k).countP _)];refine IX fun y hy=>?_;have ly:=vh hy;split
   ·rename_i hP;rw [decide_eq_true_iff] at hP;refine Eq.trans (tZ fun a _=>?_) (fit hp (u:=1) (c:=dot r0.2 y) (by rcases hp with rfl | rfl | rfl <;> decide));rw [decide_eq_true_iff,decide_eq_true_iff];have d0:dot r0.2 (y++[(a:Int)])=1 * a+dot r0.2 y:=by
     rw [qv,ly];have:=h.one r0 Vb;unfold el at this;rw [e0,aZ] at this;rw [this]; lia
    refine⟨fun z=>d0 ▸ z r0 Vb (by lia),fun z r hr mj=>?_⟩;by_cases he:r.1=(k:Nat)
    ·have:=Xn h.nd hr Vb (he.trans e0.symm);rw [this,d0]; exact z
    ·have t:=h.top r hr (k:Nat) (by lia);unfold el at t;rw [aZ] at t;rw [qv,ly,t,yb,Gm];exact hP r hr (by lia)
   ·rename_i hP;rw [List.countP_eq_zero];intro a _ z;rw [decide_eq_true_iff] at z hP;refine hP fun r hr mj=>?_;have t:=h.top r hr (k:Nat) (by lia);unfold el at t;rw [aZ] at t;have:=z r hr (by lia);rw [qv,ly,t,yb,Gm] at this;exact this
  ·have ef:(frees R (k+1)).length=(frees R k).length+1:=by
    unfold frees;rw [qA,cS];simp only [jK,i5];rw [if_pos (by simpa using hk)];simp
   rw [ef,T9,<-ih,Ua];refine IX fun y hy=>?_;have ly:=vh hy;have key:∀ a:Nat,decide (∀ r∈R,r.1 < ((k+1:Nat):Int)->dot r.2 (y++[(a:Int)]) % (p:Int)=0)=decide (∀ r∈R,r.1 < (k:Nat)->dot r.2 y % (p:Int)=0):=fun a=>by
    rw [decide_eq_decide];refine⟨fun z r hr mj=>?_,fun z r hr mj=>?_⟩
    ·have t:=h.top r hr (k:Nat) (by lia);unfold el at t;rw [aZ] at t;have:=z r hr (by lia);rw [qv,ly,t,yb,Gm] at this;exact this
    ·have ne:r.1≠(k:Nat):=fun e=>hk (e ▸ aW hr);have t:=h.top r hr (k:Nat) (by lia);unfold el at t;rw [aZ] at t;rw [qv,ly,t,yb,Gm];exact z r hr (by lia)
   simp only [key];split
   ·rename_i hP;rw [hP];rw [List.countP_true]; exact cR
   ·rename_i hP;rw [Bool.not_eq_true] at hP;rw [hP]; exact List.countP_false ▸ rfl
theorem MF{p n:Nat}(hp:Pr p){R:List (Int×List Int)}(h:Red p n R):(vs p n).countP (fun y=>decide (DW p (R.map (·.2)) y))=p ^ (frees R n).length:=by
 rw [<-C8 hp h n];apply tZ;intro y _;rw [decide_eq_true_iff,decide_eq_true_iff];refine⟨fun z r hr _=>z _ (aW hr),fun z e he=>?_⟩;obtain⟨r,hr,rfl⟩:=List.mem_map.mp he;exact z r hr (h.ok r hr).1.2
end xN
end K2
end
section
namespace K2
namespace xN
def vQ(p:Nat)(a:List Int)(q:Int)(b:List Int):List Int:=xR (fun f l=>(f - el a q * l) % (p:Int)) a b
def AM(p:Nat)(a:List Int)(i:Int):List Int:=a.map fun f=>f * i % (p:Int)
def qz(p n:Nat)(a:List Int):Prop:=a.length=n/\∀ v∈a,0<=v/\v < (p:Int)
theorem Sz{f:Int->Int->Int}(h0:f 0 0=0){a b:List Int}(h:a.length=b.length)(j:Int):el (xR f a b) j=f (el a j) (el b j):=by
 unfold el;rw [aF,aF,aF,List.getElem?_zipWith];by_cases hj:j.toNat < a.length
 ·rw [ah hj,ah (h ▸ hj)]; rfl
 ·rw [dW (by lia),dW (by lia)];exact h0.symm
theorem SA{p:Nat}{a b:List Int}{q:Int}(h:a.length=b.length)(j:Int):el (vQ p a q b) j=(el a j - el a q * el b j) % (p:Int) :=
 Sz (f:=fun f l=>(f - el a q * l) % (p:Int)) (by simp) h j
theorem LB{p:Nat}{a:List Int}{i:Int}(j:Int):el (AM p a i) j=el a j * i % (p:Int):=by
 unfold el AM;rw [aF,aF,bu];cases a[j.toNat]? with
 | none=>simp
 | some v=>rfl
theorem qz.vQ{p n:Nat}(hp:Pr p){a b:List Int}{q:Int}(ha:qz p n a)(hb:qz p n b):qz p n (vQ p a q b):=by
 have:=hp.pos;refine⟨by unfold xN.vQ; rw [List.length_zipWith,ha.1,hb.1]; simp,fun v hv=>?_⟩;unfold xN.vQ at hv;rw [<-nW] at hv;obtain⟨x,_,rfl⟩:=List.mem_map.mp hv;exact⟨dP _ (by lia),c7 _ (by lia)⟩
theorem qz.AM{p n:Nat}(hp:Pr p){a:List Int}{i:Int}(ha:qz p n a):qz p n (AM p a i):=by
 have:=hp.pos;refine⟨by unfold xN.AM; rw [ag]; exact ha.1,fun v hv=>?_⟩;obtain⟨x,_,rfl⟩:=List.mem_map.mp hv;exact⟨dP _ (by lia),c7 _ (by lia)⟩
theorem qz.el{p n:Nat}(hp:Pr p){a:List Int}(ha:qz p n a)(j:Int):0<=el a j/\el a j < (p:Int):=by
 have:=hp.pos;unfold xN.el;rw [aF];cases e:a[j.toNat]? with
 | none=>exact⟨JW _,by simpa using this⟩
 | some v=>exact ha.2 v (dJ e)
theorem Ny{p:Nat}{a b:List Int}{q:Int}(h:a.length=b.length)(x:List Int):dot (vQ p a q b) x % (p:Int)=(dot a x - el a q * dot b x) % (p:Int):=by
 have:=Nw (p:Int) 1 (el a q) x a b h;have e:xR (fun f l=>(f * 1 - l * el a q) % (p:Int)) a b=vQ p a q b:=by
  unfold vQ; congr 1; funext f l; rw [ve,yd l]
 rw [e,ve,yd (dot b x)] at this;exact this
theorem FC{p:Nat}{i:Int}:∀ (a x:List Int),dot (AM p a i) x % (p:Int)=(dot a x * i) % (p:Int)
 | [],x=>by simp [AM,dot]
 | a :: as,[]=>by rw [pG,pG]; simp
 | a :: as,b :: x=>by
  have ih:=FC (p:=p) (i:=i) as x;unfold AM at ih ⊢;rw [av,dot,dot,jm,ih,fP,Cc,<-fP,<-jm,Int.add_mul,Cb]
theorem IG:∀ (a x:List Int),(∀ v∈a,v=0)->dot a x=0
 | [],_,_=>rfl
 | a :: as,[],_=>rfl
 | a :: as,b :: x,h=>by
  rw [dot,IG as x fun v hv=>h v (ax _ hv),h a aA]; simp
def km(p:Nat)(R:List (Int×List Int))(e:List Int):List Int:=R.foldl (fun a r=>vQ p a r.1 r.2) e
theorem E6{p n:Nat}(hp:Pr p)(R0:List (Int×List Int))(h:Red p n R0):∀ (R1 R:List (Int×List Int)) (e:List Int),R0=R1++R->qz p n e->(∀ r∈R1,el e r.1=0) ->
  qz p n (km p R e)/\(∀ r∈R0,el (km p R e) r.1=0)/\∀ x,DW p (R0.map (·.2)) x->dot (km p R e) x % (p:Int)=dot e x % (p:Int)
 | R1,[],e,hR,he,hz=>⟨he,fun r hr=>hz r (by rw [hR,bL] at hr; exact hr),fun _ _=>rfl⟩
 | R1,r :: R,e,hR,he,hz=>by
  have hr:r∈R0:=by rw [hR]; exact bA _ aA
  have hv:qz p n r.2:=(h.ok r hr).2;have hl:e.length=r.2.length:=by rw [he.1,hv.1]
  obtain⟨i1,i2,i3⟩:=E6 hp R0 h (R1++[r]) R (vQ p e r.1 r.2) (by rw [hR,cG]; rfl) (he.vQ hp hv) (fun q hq=>by
   rw [SA hl];rcases List.mem_append.mp hq with hq | hq
   ·have hq0:q∈R0:=by rw [hR]; exact eK _ hq
    have ne:q.1≠r.1:=fun z=>by
     have nd:=h.nd;rw [hR,aH,av,cb] at nd;exact nd.2.2 q.1 (aW hq) r.1 aA z
    rw [hz q hq,h.red r hr q hq0 ne]; simp
   ·have:q=r:=by simpa using hq
    rw [this,h.one r hr]; simp)
  refine⟨i1,i2,fun x hx=>?_⟩;show dot (km p R (vQ p e r.1 r.2)) x % (p:Int)=_;rw [i3 x hx,Ny hl,oW,fP,hx r.2 (aW hr)];simp
def rj(e:List Int):Option Nat:=((aY e.length).filter fun j=>e.getD j 0 != 0).getLast?
theorem HP{e:List Int}(h:rj e=none):∀ v∈e,v=0:=by
 unfold rj at h;rw [List.getLast?_eq_none_iff,Qf] at h;intro v hv;obtain⟨j,hj,rfl⟩:=c8 hv;have:=h j (List.mem_range.mpr hj);rw [aF,ah hj] at this;simpa using this
theorem HN:∀ {l:List Nat} {x:Nat},l.Pairwise (· < ·)->l.getLast?=some x->∀ y∈l,y<=x
 | [],_,_,h=>by cases h
 | [a],x,_,h=>by
  intro y hy;have:a=x:=by simpa using h
  have:y=a:=by simpa using hy
  lia
 | a :: b :: l,x,hp,h=>by
  intro y hy;rw [List.getLast?_cons_cons] at h;rw [List.pairwise_cons] at hp;have ih:=HN hp.2 h;rcases List.mem_cons.mp hy with rfl | hy
  ·have:=hp.1 b aA; have:=ih b aA; lia
  ·exact ih y hy
theorem zj{e:List Int}{l:Nat}(h:rj e=some l):l < e.length/\el e (l:Nat)≠0/\∀ j:Int,(l:Int) < j->el e j=0:=by
 unfold rj at h;have m:=Uc h;rw [xS,zB] at m;refine⟨m.1,?_,fun j hj=>?_⟩
 ·unfold el; rw [aZ]; simpa using m.2
 ·unfold el;by_cases hz:e.getD j.toNat 0=0
  ·exact hz
  ·exfalso;have hl:j.toNat < e.length:=by
    apply bZ;intro hn;exact hz (by rw [aF,dW (by lia)]; rfl)
   have:=HN (Gk _ Qc) h j.toNat (by rw [xS,zB]; exact⟨hl,by simpa using hz⟩);lia
def inv1(p:Nat)(u:Int):Int:=(((aY p).filter fun (k:Nat)=>(k:Int) * u % (p:Int) == 1).headD 0:Nat)
theorem inv_one:∀ p∈[3,5,7],∀ u∈aY p,u≠0->(((aY p).filter fun k=>k * u % p == 1).headD 0) * u % p=1/\((aY p).filter fun k=>k * u % p == 1)≠[]:=by decide
theorem Nf{p:Nat}(hp:Pr p){u:Int}(h:0 < u/\u < p):(u * inv1 p u) % (p:Int)=1/\((aY p).filter fun (k:Nat)=>(k:Int) * u % (p:Int) == 1)≠[]:=by
 obtain⟨m,rfl⟩:∃ m:Nat,u=m:=⟨u.toNat,by lia⟩;obtain⟨h1,h2⟩:=inv_one p hp.mem m (List.mem_range.mpr (by lia)) (by lia);have e:((aY p).filter fun (k:Nat)=>(k:Int) * (m:Int) % (p:Int) == 1)=(aY p).filter fun k=>k * m % p == 1:=by
  apply List.filter_congr;intro k _;rw [xW,beq_iff_eq,beq_iff_eq]
  norm_cast
 unfold inv1;rw [e];refine⟨?_,h2⟩;rw [yd]
 exact_mod_cast h1
def uC(p:Nat)(R:List (Int×List Int))(e:List Int):List (Int×List Int) :=
 match rj (km p R e) with
 | none=>R
 | some l=>(R.map fun r=>(r.1,vQ p r.2 (l:Nat) (AM p (km p R e) (inv1 p (el (km p R e) (l:Nat))))))++[((l:Int),AM p (km p R e) (inv1 p (el (km p R e) (l:Nat))))]
theorem Mt{p n:Nat}(hp:Pr p){R:List (Int×List Int)}(h:Red p n R){e:List Int}(he:qz p n e):Red p n (uC p R e)/\∀ x,DW p ((uC p R e).map (·.2)) x↔(DW p (R.map (·.2)) x/\dot e x % (p:Int)=0):=by
 obtain⟨i1,i2,i3⟩:=E6 hp R h [] R e rfl he (fun r hr=>by cases hr);unfold uC;cases hl:rj (km p R e) with
 | none =>
  refine⟨h,fun x=>⟨fun z=>⟨z,?_⟩,fun z=>z.1⟩⟩;rw [<-i3 x z,IG _ _ (HP hl)]; simp
 | some l =>
  obtain⟨l1,l2,l3⟩:=zj hl;dsimp only;have ub:=i1.el hp (l:Nat);obtain⟨iv,_⟩:=Nf hp (u:=el (km p R e) (l:Nat)) (by lia);generalize hg:inv1 p (el (km p R e) (l:Nat))=g at *;have v2:qz p n (AM p (km p R e) g):=i1.AM hp;have z1:el (AM p (km p R e) g) (l:Nat)=1:=by rw [LB]; exact iv
  have z2:∀ j:Int,(l:Int) < j->el (AM p (km p R e) g) j=0:=fun j hj=>by rw [LB,l3 j hj]; simp
  have z3:∀ r∈R,el (AM p (km p R e) g) r.1=0:=fun r hr=>by rw [LB,i2 r hr]; simp
  have z4:∀ x,DW p (R.map (·.2)) x->(dot (AM p (km p R e) g) x % (p:Int)=0↔dot e x % (p:Int)=0):=fun x hx=>by
   rw [FC,<-i3 x hx];refine⟨fun z=>?_,fun z=>by rw [fP,z]; simp⟩;refine Y3 hp (u:=g) (fun q=>?_) (by rw [yd]; exact z);rw [fP,q] at iv;simp at iv
  generalize AM p (km p R e) g=s at *;have ne:∀ r∈R,r.1≠(l:Int):=fun r hr z=>l2 (z ▸ i2 r hr);have ec:∀ r∈R,∀ j,el (vQ p r.2 (l:Nat) s) j=(el r.2 j - el r.2 (l:Nat) * el s j) % (p:Int):=fun r hr j=>SA (by rw [v2.1,(h.ok r hr).2.1]) j;have pm:∀ r∈R,∀ j,el r.2 j % (p:Int)=el r.2 j:=fun r hr j=>by
   have:=qz.el hp (h.ok r hr).2 j;exact Int.emod_eq_of_lt this.1 this.2
  refine⟨⟨?_,?_,?_,?_,?_⟩,fun x=>?_⟩
  ·rw [aH,bU];rw [cb];refine⟨h.nd,by simp,fun a ha b hb z=>?_⟩;obtain⟨r,hr,rfl⟩:=List.mem_map.mp ha;have:b=(l:Int):=by simpa using hb
   exact ne r hr (by rw [<-this,<-z]; rfl)
  ·intro r hr;rcases List.mem_append.mp hr with hr | hr
   ·obtain⟨q,hq,rfl⟩:=List.mem_map.mp hr;exact⟨(h.ok q hq).1,qz.vQ hp (h.ok q hq).2 v2⟩
   ·have:r=((l:Int),s):=by simpa using hr
    subst this;exact⟨⟨j4 _,by rw [<-i1.1]; show (l:Int) < _; lia⟩,v2⟩
  ·intro r hr;rcases List.mem_append.mp hr with hr | hr
   ·obtain⟨q,hq,rfl⟩:=List.mem_map.mp hr;show el (vQ p q.2 (l:Nat) s) q.1=1;rw [ec q hq,z3 q hq,Int.mul_zero,Ud,pm q hq,h.one q hq]
   ·have:r=((l:Int),s):=by simpa using hr
    subst this;exact z1
  ·intro r hr j hj;rcases List.mem_append.mp hr with hr | hr
   ·obtain⟨q,hq,rfl⟩:=List.mem_map.mp hr;show el (vQ p q.2 (l:Nat) s) j=0;rw [ec q hq,h.top q hq j hj];by_cases hlq:(l:Int) < q.1
    ·rw [z2 j (by have:q.1 < j:=hj; lia)]; simp
    ·have:=ne q hq;rw [h.top q hq (l:Nat) (by lia)]; simp
   ·have:r=((l:Int),s):=by simpa using hr
    subst this;exact z2 j hj
  ·intro r hr q hq kX;rcases List.mem_append.mp hr with hr | hr
   ·obtain⟨r,RY,rfl⟩:=List.mem_map.mp hr;show el (vQ p r.2 (l:Nat) s) q.1=0;rw [ec r RY];rcases List.mem_append.mp hq with hq | hq
    ·obtain⟨q,hq',rfl⟩:=List.mem_map.mp hq;show (el r.2 q.1 - el r.2 (l:Nat) * el s q.1) % (p:Int)=0;rw [z3 q hq',h.red r RY q hq' kX]; simp
    ·have:q=((l:Int),s):=by simpa using hq
     subst this;show (el r.2 (l:Nat) - el r.2 (l:Nat) * el s (l:Nat)) % (p:Int)=0;rw [z1]; simp
   ·have:r=((l:Int),s):=by simpa using hr
    subst this;rcases List.mem_append.mp hq with hq | hq
    ·obtain⟨q,hq',rfl⟩:=List.mem_map.mp hq;exact z3 q hq'
    ·have:q=((l:Int),s):=by simpa using hq
     subst this;exact absurd rfl kX
  ·have dc:∀ r∈R,dot (vQ p r.2 (l:Nat) s) x % (p:Int)=(dot r.2 x - el r.2 (l:Nat) * dot s x) % (p:Int):=fun r hr=>Ny (by rw [v2.1,(h.ok r hr).2.1]) x;constructor
   ·intro z;have zs:dot s x % (p:Int)=0:=z s (List.mem_map.mpr ⟨((l:Int),s),bA _ (by simp),rfl⟩);have zr:DW p (R.map (·.2)) x:=fun e' he'=>by
     obtain⟨r,hr,rfl⟩:=List.mem_map.mp he';have:=z (vQ p r.2 (l:Nat) s) (List.mem_map.mpr ⟨(r.1,vQ p r.2 (l:Nat) s),eK _ (List.mem_map.mpr ⟨r,hr,rfl⟩),rfl⟩);rw [dc r hr,oW,fP,zs] at this;simpa using this
    exact⟨zr,(z4 x zr).mp zs⟩
   ·rintro⟨zr,ze⟩ e' he';have zs:=(z4 x zr).mpr ze;obtain⟨r',RY,rfl⟩:=List.mem_map.mp he';rcases List.mem_append.mp RY with RY | RY
    ·obtain⟨r,hr,rfl⟩:=List.mem_map.mp RY;show dot (vQ p r.2 (l:Nat) s) x % (p:Int)=0;rw [dc r hr,oW,fP,zs,zr r.2 (aW hr)]; simp
    ·have:r'=((l:Int),s):=by simpa using RY
     subst this;exact zs
theorem ME{p n:Nat}:Red p n []:=⟨df,by simp,by simp,by simp,by simp⟩
theorem QD{p n:Nat}(hp:Pr p):∀ (es:List (List Int)) (R:List (Int×List Int)),Red p n R->(∀ e∈es,qz p n e)->Red p n (es.foldl (uC p) R)/\∀ x,DW p ((es.foldl (uC p) R).map (·.2)) x↔(DW p (R.map (·.2)) x/\DW p es x)
 | [],R,h,_=>⟨h,fun x=>⟨fun z=>⟨z,fun e he=>by cases he⟩,fun z=>z.1⟩⟩
 | e :: es,R,h,hv=>by
  obtain⟨a1,a2⟩:=Mt hp h (hv e aA);obtain⟨b1,b2⟩:=QD hp es _ a1 fun e' h'=>hv e' (ax _ h');refine⟨b1,fun x=>?_⟩;rw [dO,b2,a2];constructor
  ·rintro⟨⟨z1,z2⟩,z3⟩;exact⟨z1,fun e' h'=>by rcases List.mem_cons.mp h' with rfl | h'; exact z2; exact z3 e' h'⟩
  ·rintro⟨z1,z2⟩;exact⟨⟨z1,z2 e aA⟩,fun e' h'=>z2 e' (ax _ h')⟩
end xN
end K2
end
section
namespace K2
namespace xN
theorem IH:∀ (x y:List Int),dot x y=dot y x
 | [],[]=>rfl
 | [],_ :: _=>rfl
 | _ :: _,[]=>rfl
 | a :: x,b :: y=>by rw [dot,dot,IH x y,yd]
theorem um:∀ (e x:List Int) (j:Nat) (v:Int),j < x.length->dot e (x.set j v)=dot e x+e.getD j 0 * (v - x.getD j 0)
 | [],x,j,v,_=>by simp [dot]
 | a :: e,[],j,v,h=>absurd h (cF _)
 | a :: e,b :: x,0,v,_=>by
  rw [ai,dot,dot,qE,qE,Int.mul_sub];lia
 | a :: e,b :: x,j+1,v,h=>by
  rw [ar,dot,dot,um e x j v (by simpa using h),zQ,zQ];lia
theorem qr{x:List Int}{j k:Nat}{v:Int}(h:j < x.length):(x.set j v).getD k 0=if j=k then v else x.getD k 0:=by
 rw [aF,List.getElem?_set];split
 ·rename_i e; subst e; first | rfl | (rw [if_pos h]; rfl)
 ·rw [<-aF]
def fs(v:Int×List Int->Int)(R:List (Int×List Int))(x:List Int):List Int:=R.foldl (fun x r=>x.set r.1.toNat (v r)) x
theorem Ll{v:Int×List Int->Int}:∀ {R:List (Int×List Int)} {x:List Int},(fs v R x).length=x.length
 | [],_=>rfl
 | r :: R,x=>by
  show (fs v R (x.set r.1.toNat (v r))).length=_;rw [Ll,bO]
theorem Fg{v:Int×List Int->Int}{k:Nat}:∀ {R:List (Int×List Int)} {x:List Int},(∀ r∈R,r.1.toNat < x.length/\r.1.toNat≠k)->(fs v R x).getD k 0=x.getD k 0
 | [],_,_=>rfl
 | r :: R,x,h=>by
  show (fs v R (x.set r.1.toNat (v r))).getD k 0=_;rw [Fg fun q hq=>by rw [bO]; exact h q (ax _ hq),qr (h r aA).1,if_neg (h r aA).2]
theorem V5{v:Int×List Int->Int}{r0:Int×List Int}:∀ {R:List (Int×List Int)} {x:List Int},(R.map (·.1)).Nodup->(∀ r∈R,0<=r.1/\r.1.toNat < x.length)->r0∈R->(fs v R x).getD r0.1.toNat 0=v r0
 | r :: R,x,nd,h,hr=>by
  rw [av,cN] at nd;show (fs v R (x.set r.1.toNat (v r))).getD r0.1.toNat 0=_;by_cases e:r0=r
  ·subst e;rw [Fg fun q hq=>⟨by rw [bO]; exact(h q (ax _ hq)).2,fun z=>nd.1 (by
    have h1:=(h q (ax _ hq)).1;have h2:=(h r0 aA).1;have:q.1=r0.1:=by lia
    exact this ▸ aW hq)⟩,qr (h r0 aA).2,if_pos rfl]
  ·exact V5 nd.2 (fun q hq=>by rw [bO]; exact h q (ax _ hq)) ((List.mem_cons.mp hr).resolve_left e)
theorem SF{v:Int×List Int->Int}{e:List Int}:∀ {R:List (Int×List Int)} {x:List Int},(R.map (·.1)).Nodup->(∀ r∈R,(0<=r.1/\r.1.toNat < x.length)/\x.getD r.1.toNat 0=0)->dot e (fs v R x)=dot e x+(R.map fun r=>el e r.1 * v r).sum
 | [],x,_,_=>by simp [fs]
 | r :: R,x,nd,h=>by
  rw [av,cN] at nd;show dot e (fs v R (x.set r.1.toNat (v r)))=_;obtain⟨⟨h1,h2⟩,h3⟩:=h r aA;rw [SF nd.2 fun q hq=>?_,um _ _ _ _ h2,h3,av,pZ,Ud]
  ·unfold el; lia
  ·obtain⟨⟨q1,q2⟩,q3⟩:=h q (ax _ hq);refine⟨⟨q1,by rw [bO]; exact q2⟩,?_⟩;rw [qr h2,if_neg fun z=>nd.1 ?_]
   ·exact q3
   ·have:q.1=r.1:=by lia
    exact this ▸ aW hq
theorem Ms{g:Int×List Int->Int}{r0:Int×List Int}:∀ {R:List (Int×List Int)},(R.map (·.1)).Nodup->r0∈R->(∀ r∈R,r.1≠r0.1->g r=0)->(R.map g).sum=g r0
 | r :: R,nd,hr,h=>by
  rw [av,cN] at nd;rw [av,pZ];by_cases e:r0=r
  ·subst e;have:(R.map g).sum=0:=by
    have:∀ q∈R,g q=0:=fun q hq=>h q (ax _ hq) fun z=>nd.1 (z ▸ aW hq);clear nd h hr;induction R with
    | nil=>rfl
    | cons q R ih=>rw [av,pZ,this q aA,ih fun q hq=>this q (ax _ hq)]; rfl
   rw [this]; lia
  ·have RY:=(List.mem_cons.mp hr).resolve_left e;rw [Ms nd.2 RY fun q hq=>h q (ax _ hq),h r aA fun z=>nd.1 (z ▸ aW RY)];lia
def cf(p n:Nat)(R:List (Int×List Int))(f:Nat):List Int:=fs (fun r=>(-(el r.2 (f:Nat))) % (p:Int)) R ((aI n 0).set f 1)
theorem we{n k:Nat}:(aI n (0:Int)).getD k 0=0:=by
 rw [aF,gZ]; split <;> rfl
theorem yJ:∀ (e:List Int) (n:Nat),dot e (aI n 0)=0
 | [],_=>rfl
 | _ :: _,0=>rfl
 | a :: e,n+1=>by rw [List.replicate_succ,dot,yJ e n]; simp
theorem qk{R:List (Int×List Int)}{n f:Nat}:f∈frees R n↔f < n/\(f:Int)∉R.map (·.1):=by
 unfold frees; rw [xS,zB,decide_eq_true_iff]
section
variable {p n f:Nat} (hp:Pr p) {R:List (Int×List Int)} (h:Red p n R)
include h
theorem rm{r:Int×List Int}(hr:r∈R):0<=r.1/\r.1.toNat < n:=by have:=(h.ok r hr).1; lia
theorem Yj:(cf p n R f).length=n:=by unfold cf; rw [Ll,bO,bE]
theorem Vw(hf:f∈frees R n):(cf p n R f).getD f 0=1:=by
 obtain⟨f1,f2⟩:=qk.mp hf;unfold cf;rw [Fg fun r hr=>⟨by rw [bO,bE]; exact(rm h hr).2,fun z=>f2 (by
  have:=(rm h hr).1;have:r.1=(f:Int):=by lia
  exact this ▸ aW hr)⟩,qr (by rw [bE]; exact f1),if_pos rfl]
theorem Yk(hf:f < n){r:Int×List Int}(hr:r∈R):(cf p n R f).getD r.1.toNat 0=(-(el r.2 (f:Nat))) % (p:Int):=by
 unfold cf;exact V5 h.nd (fun q hq=>by rw [bO,bE]; exact rm h hq) hr
theorem Vx(hf:f < n){k:Nat}(hk:k≠f)(hn:(k:Int)∉R.map (·.1)):(cf p n R f).getD k 0=0:=by
 unfold cf;rw [Fg fun r hr=>⟨by rw [bO,bE]; exact(rm h hr).2,fun z=>hn (by
  have:=(rm h hr).1;have:r.1=(k:Int):=by lia
  exact this ▸ aW hr)⟩,qr (by rw [bE]; exact hf),if_neg (fB hk),we]
theorem Yi(hf:f∈frees R n):DW p (R.map (·.2)) (cf p n R f):=by
 obtain⟨f1,f2⟩:=qk.mp hf;intro e he;obtain⟨r,hr,rfl⟩:=List.mem_map.mp he;unfold cf;rw [SF h.nd fun q hq=>⟨⟨(rm h hq).1,by rw [bO,bE]; exact(rm h hq).2⟩,by
  rw [qr (by rw [bE]; exact f1),if_neg fun z=>f2 ?_,we];have:=(rm h hq).1;have:q.1=(f:Int):=by lia
  exact this ▸ aW hq⟩]
 rw [Ms (r0:=r) h.nd hr fun q hq ne=>by rw [h.red r hr q hq ne,yb]];rw [um _ _ _ _ (by rw [bE]; exact f1),yJ,we,h.one r hr];unfold el;rw [aZ];generalize r.2.getD f 0=u;rw [Int.zero_add,Ud,ve,Int.one_mul,jm,Cc,<-jm];rw [show u+-u=0 by lia]; simp
include hp
theorem SY(hf:f < n):qz p n (cf p n R f):=by
 refine⟨Yj h,fun v hv=>?_⟩;obtain⟨j,hj,rfl⟩:=c8 hv;have e:(cf p n R f)[j]=(cf p n R f).getD j 0:=by rw [aF,ah hj]; rfl
 rw [e];have pp:3<=p:=by rcases hp with rfl | rfl | rfl <;> decide
 by_cases hn:(j:Int)∈R.map (·.1)
 ·obtain⟨r,hr,er⟩:=List.mem_map.mp hn;have:=Yk h hf hr;rw [show r.1.toNat=j by lia] at this;rw [this];exact⟨dP _ (by lia),c7 _ (by lia)⟩
 ·by_cases XT:j=f
  ·subst XT;rw [Vw h (qk.mpr ⟨hf,hn⟩)]; lia
  ·rw [Vx h hf XT hn]; lia
end
def PX(n:Nat)(a b c:Nat):List Int :=
 let z:=(aI n (0:Int)).set a 2
 let y:=z.set b (z.getD b 0 - 1)
 y.set c (y.getD c 0 - 1)
theorem Nr{n a b c:Nat}:(PX n a b c).length=n:=by simp [PX]
theorem Vq{n a b c:Nat}(ha:a < n)(hb:b < n)(hc:c < n)(x:List Int):dot (PX n a b c) x=2 * x.getD a 0 - x.getD b 0 - x.getD c 0:=by
 unfold PX;rw [IH,um _ _ _ _ (by simp; exact hc),um _ _ _ _ (by simp; exact hb),um _ _ _ _ (by simp; exact ha),yJ,we];generalize x.getD a 0=u;generalize x.getD b 0=v;generalize x.getD c 0=w;have:∀ m t:Int,t * (m - 1 - m)=-t:=fun m t=>by rw [show m - 1 - m=-1 by lia]; lia
 rw [this,this];lia
def eqv(p n:Nat)(a b c:Nat):List Int:=(PX n a b c).map (· % (p:Int))
theorem Nq{p n a b c:Nat}(hp:Pr p):qz p n (eqv p n a b c):=by
 have:=hp.pos;refine⟨by unfold eqv; rw [ag,Nr],fun v hv=>?_⟩;obtain⟨x,_,rfl⟩:=List.mem_map.mp hv;exact⟨dP _ (by lia),c7 _ (by lia)⟩
theorem Nx{p n a b c:Nat}(x:List Int):dot (eqv p n a b c) x % (p:Int)=dot (PX n a b c) x % (p:Int):=by
 have:=FC (p:=p) (i:=1) (PX n a b c) x;rw [ve] at this;rw [<-this];unfold eqv AM;simp only [ve]
end xN
end K2
end
section
namespace K2
open PySem (Str)
open Enc (enc)
namespace xN
open K2.P
open K2.Am (NB fE fC dD dM cq eq_int eR)
theorem Nv{a:List Int}{q:Int}(h:0<=q/\q < a.length):pL (a.map D.int) q=some (.int (el a q)):=by
 rw [lG _ h.1 (by rw [ag]; exact h.2)];simp only [dq];unfold el;rw [aF,ah (by lia)]; rfl
theorem sF:∀ (a b:List Int),qL (a.map D.int) (b.map D.int)=(a.zip b).map fun x=>.tup [.int x.1,.int x.2]
 | [],_=>rfl
 | _ :: _,[]=>rfl
 | a :: as,b :: bs=>by
  show D.tup [.int a,.int b] :: qL (as.map D.int) (bs.map D.int)=_;rw [sF as bs]; rfl
theorem DI:∀ (a:List Int) (k:Nat),lC k (a.map D.int)=(a.zipIdx k).map fun x=>.tup [.int (x.2:Nat),.int x.1]
 | [],_=>rfl
 | a :: as,k=>by
  show D.tup [.int (k:Nat),.int a] :: lC (k+1) (as.map D.int)=_;rw [DI as (k+1)]; rfl
theorem Xo{p n:Nat}(hp:Pr p){a:List Int}(ha:qz p n a){j k:Int}:MulOk (el a j) k:=by
 have h:=ha.el hp j;have:p < 10:=by rcases hp with rfl | rfl | rfl <;> decide
 exact .inl ⟨by lia,by lia⟩
def AY:iC :=
 (cD (bM (a9 ky (au 0) (au 1)) (aJ 4))
 (cT (fQ (eF 2 [4,3] (Lf (au 0) (au 2)) (nO (fK (aJ 0) (fK (aJ 1) ng))) none (a9 mW (a9 vo (au 0) (a9 wQ (au 2) (au 1))) (au 3))))))
def lS:mw:=fun ds G Q _=>∃ (p n:Nat) (a b:List Int) (q:Int),ds=[enc a,.int q,enc b,.int p]/\(Pr p/\n<=100/\qz p n a/\qz p n b/\0<=q/\q < n)/\Q (enc (vQ p a q b)) G
theorem LX(ds:List D)(G:Gp)(Q:DK)(h:lS ds G Q fun _ _=>False):AY (fun _ _=>False) (ends Q) (bC 5 ds) G:=by
 obtain⟨p,n,a,b,q,rfl,⟨hp,hn,ha,hb,q0,q1⟩,qq⟩:=h;have p0:=hp.pos;unfold AY;simp only [ends,bC,av,aX,aj,ay,aI,aO,aU,cU,bM,a9,au,aa,ae,aJ,cT,fQ,eF,ar,ai];refine gT (IsL.enc a) (Nv ⟨q0,by rw [ha.1]; exact q1⟩) ?_;simp only [Lf,au,aa,ae];refine Dx (IsL.enc a) (IsL.enc b) fun ok cB=>?_;rw [show a.map (enc:Int->D)=a.map D.int from rfl,show b.map (enc:Int->D)=b.map D.int from rfl,sF];refine⟨B4 (by rw [ag,qB,ha.1,hb.1]; lia),?_⟩;refine gI (xs:=a.zip b) (fun Wp WF τ G'=>G=G'/\(∃ u v,τ=[u,v,some (.int (el a q)),some (.int p)])/\WF=(Wp.map fun x=>(x.1 - el a q * x.2) % (p:Int)).map D.int) ⟨rfl,⟨_,_,rfl⟩,rfl⟩ (fun _ _ _ G' h=>cB _ (h.1 ▸ iH.refl _)) ?_ ?_
 ·rintro Wp x Uf WF τ G' N e ⟨rfl,⟨u,v,rfl⟩,rfl⟩ hN;simp only [nO,fK,aJ,ng,a9,au,ai,ar,aa,ae,kc,iX,fk];refine⟨Xo hp ha,by lia,hN _ _ _ ⟨rfl,⟨_,_,rfl⟩,?_⟩⟩;rw [aH,aH]; rfl
 ·rintro WF τ G' ⟨rfl,⟨u,v,rfl⟩,rfl⟩ pa fa;refine jF (xs:=(a.zip b).map fun x=>(x.1 - el a q * x.2) % (p:Int)) (.new fa) fa aM ?_;have e:(a.zip b).map (fun x=>(x.1 - el a q * x.2) % (p:Int))=vQ p a q b:=by
   unfold vQ;rw [<-nW]; rfl
  rw [e]; exact qq
def uZ:iC :=
 (cD (bM (eF 2 [] (tJ (au 0)) (nO (fK (aJ 0) (fK (aJ 1) ng))) (some (gL (a9 (A1 true) (au 1) (dC (.int 0))))) (au 0)) (aJ 1))
 (cT (fQ (YJ (gL (au 1)) (a9 ky (au 1) (NG Oq (dC (.int 1)))) (dC .dh)))))
def RA(e:List Int):D:=match rj e with
 | none=>.dh
 | some l=>.int (l:Nat)
def mi:mw:=fun ds G Q _=>∃ a:List Int,ds=[enc a]/\a.length<=100/\Q (RA a) G
theorem Ri:∀ (a:List Int) (k:Nat),((a.zipIdx k).filter fun x=>x.1 != 0).map (·.2)=((aY a.length).filter fun j=>a.getD j 0 != 0).map (k+·)
 | [],_=>rfl
 | a :: as,k=>by
  rw [o6,aj,List.range_succ_eq_map];have ih:=Ri as (k+1);simp only [jK,qE,List.filter_map];have e:((fun j=>(a :: as).getD j 0 != 0)∘Nat.succ)=fun j=>as.getD j 0 != 0:=by funext j; rfl
  rw [e];split <;> simp [ih,Tt,Nat.add_assoc,Nat.add_comm 1]
theorem CL(ds:List D)(G:Gp)(Q:DK)(h:mi ds G Q fun _ _=>False):uZ (fun _ _=>False) (ends Q) (bC 2 ds) G:=by
 obtain⟨a,rfl,hl,qq⟩:=h;unfold uZ;simp only [ends,bC,av,aX,aj,ay,aI,aO,aU,cU,bM,eF,tJ,au,aa,aJ,cT,fQ,ar,ai];refine mC ?_;rw [show a.map (enc:Int->D)=a.map D.int from rfl,DI];refine⟨B4 (by rw [ag,List.length_zipIdx]; lia),?_⟩;refine gI (xs:=a.zipIdx 0) (fun Wp WF τ G'=>G=G'/\(∃ u v,τ=[u,v])/\WF=((Wp.filter fun x=>x.1 != 0).map (·.2)).map fun j:Nat=>D.int j) ⟨rfl,⟨_,_,rfl⟩,rfl⟩ (fun _ _ _ _ _=>trivial) ?_ ?_
 ·rintro Wp x Uf WF τ G' N e ⟨rfl,⟨u,v,rfl⟩,rfl⟩ hN;simp only [nO,fK,aJ,ng,ai,ar,au,aa,di,a9,ae,dC];refine⟨_,_,.int _,.int _,?_⟩;rw [eq_int];by_cases c:x.1=0
  ·simp only [c,decide_true,bG,if_true,bF,aC,if_false];refine hN _ _ _ ⟨rfl,⟨_,_,rfl⟩,?_⟩;rw [cS]; simp [c]
  ·simp only [c,decide_false,cW,if_true,bF];refine hN _ _ _ ⟨rfl,⟨_,_,rfl⟩,?_⟩;rw [cS]; simp [c]
 ·rintro WF τ G' ⟨rfl,⟨u,v,rfl⟩,rfl⟩ pa fa;rw [Ri];have ez:((aY a.length).filter fun j=>a.getD j 0 != 0).map (0+·)=(aY a.length).filter fun j=>a.getD j 0 != 0:=by simp
  rw [ez];unfold RA rj at qq;generalize (aY a.length).filter (fun j=>a.getD j 0 != 0)=L at qq;simp only [YJ,a9,au,ae,aa,NG,dC,sY,di];refine AG (IsL.ref aM) ?_;rcases List.eq_nil_or_concat L with rfl | ⟨L',l,rfl⟩
  ·simp only [aX,vd,bG,aC,if_false];exact Ah (.new fa) qq
  ·simp only [List.isEmpty_map];have:(L'++[l]).isEmpty=false:=by simp
   simp only [Ts,this,cW,if_true];refine gT (x:=.int (l:Nat)) (IsL.ref aM) ?_ ?_
   ·unfold pL Fb;simp only [ag,aw,bg];rw [if_neg (by lia),if_pos (by lia)];have:((-1:Int)+((L'.length+1:Nat):Int)).toNat=L'.length:=by lia
    rw [this];simp
   ·simp only [Ts,List.getLast?_concat] at qq;exact Ah (.new fa) qq
def Dc:iC :=
 (cD (bM (a9 ky (eF 1 [0,1,2] (oH (au 2)) (aJ 0) (some (gL (a9 (A1 false) (a9 mW (a9 wQ (au 0) (a9 ky (au 1) (au 2))) (au 3)) (dC (.int 1))))) (au 0)) (dC (.int 0))) (aJ 3))
 (cT (fQ (eF 1 [3,2] (lZ (au 0)) (aJ 0) none (a9 mW (a9 wQ (au 0) (au 1)) (au 2))))))
def t8:mw:=fun ds G Q _=>∃ (p n:Nat) (a:List Int) (l:Nat),ds=[enc a,.int (l:Nat),.int p]/\(Pr p/\n<=100/\qz p n a/\l < n/\el a (l:Nat)≠0)/\Q (enc (AM p a (inv1 p (el a (l:Nat))))) G
theorem Pw(ds:List D)(G:Gp)(Q:DK)(h:t8 ds G Q fun _ _=>False):Dc (fun _ _=>False) (ends Q) (bC 4 ds) G:=by
 obtain⟨p,n,a,l,rfl,⟨hp,hn,ha,hl,hz⟩,qq⟩:=h;have p0:=hp.pos;have p1:p < 10:=by rcases hp with rfl | rfl | rfl <;> decide
 have ub:=ha.el hp (l:Nat);obtain⟨-,ne⟩:=Nf hp (u:=el a (l:Nat)) (by lia);unfold Dc;simp only [ends,bC,av,aX,aj,ay,aI,aO,aU,cU,bM,a9,eF,dC,aJ,cT,fQ,ar,ai,fh,au,aa,gW,ae,fY,aZ];refine⟨by lia,by lia,B4 (by simp [dB]; lia),?_⟩;refine xA (fun Wp WF τ G'=>G=G'/\(∃ u,τ=[u,some (enc a),some (.int (l:Nat)),some (.int p)])/\WF=((aY Wp.length).filter fun (k:Nat)=>(k:Int) * el a (l:Nat) % (p:Int) == 1).map fun j:Nat=>D.int j) ⟨rfl,⟨_,rfl⟩,rfl⟩ (fun _ _ _ _ _=>trivial) ?_ ?_
 ·rintro Wp x Uf WF τ G' N e ⟨rfl,⟨u,rfl⟩,rfl⟩ hN;obtain⟨rfl,mj⟩:=oA e;simp only [aJ,ai,au,aa,di,a9,ae,dC];refine gT (IsL.enc a) (Nv ⟨by lia,by rw [ha.1]; lia⟩) ?_;simp only [kc,fk];refine⟨.inl ⟨by lia,by lia⟩,by lia,_,_,.int _,.int _,?_⟩;rw [eq_int];by_cases c:(Wp.length:Int) * el a (l:Nat) % (p:Int)=1
  ·simp only [aC,c,decide_true,bG,if_false,bF,if_true];refine hN _ _ _ ⟨rfl,⟨_,rfl⟩,?_⟩;rw [aw,bg,qA,cS]; simp [c]
  ·simp only [aC,c,decide_false,cW,if_false,bF];refine hN _ _ _ ⟨rfl,⟨_,rfl⟩,?_⟩;rw [aw,bg,qA,cS]; simp [c]
 ·rintro WF τ G' ⟨rfl,⟨u,rfl⟩,rfl⟩ pa fa;have er:(dB 0 p).length=p:=by simp [dB]
  rw [er];have ei:inv1 p (el a (l:Nat))=(((aY p).filter fun (k:Nat)=>(k:Int) * el a (l:Nat) % (p:Int) == 1).headD 0:Nat):=rfl;generalize (aY p).filter (fun (k:Nat)=>(k:Int) * el a (l:Nat) % (p:Int) == 1)=L at ne ei;rw [ei] at qq;cases L with
  | nil=>exact absurd rfl ne
  | cons g L =>
   refine gT (x:=.int (g:Nat)) (IsL.ref aM) (by simp [pL,Fb]) ?_;simp only [av];refine iO ⟨B4 (by rw [ag,ha.1]; lia),?_⟩;generalize hG:fG G pa (.lst (D.int (g:Nat) :: L.map fun j:Nat=>D.int j))=G1;refine gI (xs:=a) (fun Wp WF τ G'=>G1=G'/\(∃ u,τ=[u,some (.int (g:Nat)),some (.int p)])/\WF=(Wp.map fun f=>f * (g:Int) % (p:Int)).map D.int) ⟨rfl,⟨_,rfl⟩,rfl⟩ (fun _ _ _ _ _=>trivial) ?_ ?_
   ·rintro Wp x Uf WF τ G' N e ⟨rfl,⟨u,rfl⟩,rfl⟩ hN;have hx:=ha.2 x (by rw [e]; simp);simp only [aJ,a9,au,ai,aa,ae];show wQ (.int x) (.int (g:Nat)) _ _;simp only [kc,fk];refine⟨.inl ⟨by lia,by lia⟩,by lia,hN _ _ _ ⟨rfl,⟨_,rfl⟩,?_⟩⟩;rw [aH,aH]; rfl
   ·rintro WF τ G' ⟨rfl,⟨u,rfl⟩,rfl⟩ pb fb;subst hG;exact jF (xs:=AM p a (g:Nat)) ((iH.new fa).trans (.new fb)) (by
     cases e:G pb with
     | none=>rfl
     | some o=>have:=(iH.new (o:=.lst (D.int (g:Nat) :: L.map fun j:Nat=>D.int j)) fa) pb o e; rw [this] at fb; cases fb) aM qq
end xN
end K2
end
section
namespace K2
open PySem (Str)
open Enc (enc)
namespace xN
open K2.P
open K2.Am (NB fE fC dD dM cq eq_int eR gr)
open K2.JH (dQ qN pQ P3 eW In)
theorem qf{a:Nat}{xs:List D}{j:Nat}{v:D}{G:Gp}{Q:Gp->Prop}(h:G a=some (.lst xs))(hj:j < xs.length)(q:Q (fG G a (.lst (xs.set j v)))):wy (.ref a) (.int (j:Int)) v G Q:=by
 unfold wy;simp only [h];have:Fb xs.length (j:Int)=some j:=by
  unfold Fb;rw [if_pos (by lia),if_pos (by lia),aZ]
 rw [this]; exact q
theorem Sk{a:List Int}{j:Nat}(h:j < a.length):pL (a.map D.int) (j:Int)=some (.int (a.getD j 0)):=by
 rw [Nv ⟨by lia,by lia⟩]; unfold el; rw [aZ]
def sX:iC :=
 (cD (bM (eF 1 [] (oH (au 1)) (aJ 0) none (dC (.int 0))) (aJ 3))
 (cD (bM (a9 se (a9 ky (au 3) (a9 ky (au 0) (dC (.int 0)))) (dC (.int 2))) (oJ (au 3) (a9 ky (au 0) (dC (.int 0)))))
 (cD (bM (a9 vo (a9 ky (au 3) (a9 ky (au 0) (dC (.int 1)))) (dC (.int 1))) (oJ (au 3) (a9 ky (au 0) (dC (.int 1)))))
 (cD (bM (a9 vo (a9 ky (au 3) (a9 ky (au 0) (dC (.int 2)))) (dC (.int 1))) (oJ (au 3) (a9 ky (au 0) (dC (.int 2)))))
 (cT (fQ (eF 1 [2] (lZ (au 3)) (aJ 0) none (a9 mW (au 0) (au 1)))))))))
def k8:mw:=fun ds G Q _=>∃ (p n a b c:Nat),ds=[.tup [.int (a:Nat),.int (b:Nat),.int (c:Nat)],.int (n:Nat),.int (p:Nat)]/\(Pr p/\n<=100/\a < n/\b < n/\c < n)/\Q (enc (eqv p n a b c)) G
theorem BR(ds:List D)(G:Gp)(Q:DK)(h:k8 ds G Q fun _ _=>False):sX (fun _ _=>False) (ends Q) (bC 4 ds) G:=by
 obtain⟨p,n,a,b,c,rfl,⟨hp,hn,ha,hb,hc⟩,qq⟩:=h;have p0:=hp.pos;unfold sX;simp only [ends,bC,av,aX,aj,ay,aI,aO,aU,cU,bM,eF,aJ,ar,ai,a9,au,ae,aa,dC,iz,gW,fY,aZ];refine⟨by lia,by lia,B4 (by simp [dB]; lia),?_⟩;refine xA (fun Wp WF τ G'=>G=G'/\(∃ u,τ=[u])/\WF=(aI Wp.length (0:Int)).map D.int) ⟨rfl,⟨_,rfl⟩,rfl⟩ (fun _ _ _ _ _=>trivial) ?_ ?_
 ·rintro Wp x Uf WF τ G' N e ⟨rfl,⟨u,rfl⟩,rfl⟩ hN;simp only [aJ,dC,ai];refine hN _ _ _ ⟨rfl,⟨_,rfl⟩,?_⟩;rw [aw,bg,pP,aH]; rfl
 rintro WF τ G' ⟨rfl,⟨u,rfl⟩,rfl⟩ pa fa;have er:(dB 0 n).length=n:=by simp [dB]
 rw [er];have at0:∀ x y z:D,pL [x,y,z] 0=some x:=fun _ _ _=>rfl;have Gv:∀ x y z:D,pL [x,y,z] 1=some y:=fun _ _ _=>rfl;have at2:∀ x y z:D,pL [x,y,z] 2=some z:=fun _ _ _=>rfl;simp only [at0,oJ,au,ae,aa,a9,dC,cU,bM,cT,fQ,eF,fh,iz,at2,Gv];refine gT (IsL.ref aM) (Sk (a:=aI n 0) (by simp; exact ha)) ?_;simp only [we,kd];refine qf aM (by simp; exact ha) ?_;rw [show (0:Int)+2=2 from rfl,<-xT (f:=D.int)];refine gT (IsL.ref aM) (Sk (by simp; exact hb)) ?_;simp only [iX];refine qf aM (by simp; exact hb) ?_;rw [<-xT (f:=D.int)];refine gT (IsL.ref aM) (Sk (by simp; exact hc)) ?_;simp only [iX];refine qf aM (by simp; exact hc) ?_;rw [<-xT (f:=D.int)];have ee:(((aI n (0:Int)).set a 2).set b (((aI n (0:Int)).set a 2).getD b 0 - 1)).set c ((((aI n (0:Int)).set a 2).set b (((aI n (0:Int)).set a 2).getD b 0 - 1)).getD c 0 - 1)=PX n a b c:=rfl;rw [ee];refine RQ (IsL.ref aM) fun ok cB=>?_;have l0:=Nr (n:=n) (a:=a) (b:=b) (c:=c);refine⟨B4 (by rw [ag,l0]; lia),?_⟩;have le:iH G (fG (fG (fG (fG G pa (.lst ((aI n (0:Int)).map D.int))) pa (.lst (((aI n (0:Int)).set a 2).map D.int))) pa (.lst ((((aI n (0:Int)).set a 2).set b (((aI n (0:Int)).set a 2).getD b 0 - 1)).map D.int))) pa (.lst ((PX n a b c).map D.int))):=(((iH.new fa).put fa).put fa).put fa;generalize fG (fG (fG (fG G pa (.lst ((aI n (0:Int)).map D.int))) pa (.lst (((aI n (0:Int)).set a 2).map D.int))) pa (.lst ((((aI n (0:Int)).set a 2).set b (((aI n (0:Int)).set a 2).getD b 0 - 1)).map D.int))) pa (.lst ((PX n a b c).map D.int))=G1 at *;refine gI (xs:=PX n a b c) (f:=D.int) (fun Wp WF τ G'=>G1=G'/\(∃ u,τ=[u,some (.int p)])/\WF=(Wp.map (· % (p:Int))).map D.int) ⟨rfl,⟨_,rfl⟩,rfl⟩ (fun _ _ _ G' h=>cB _ (h.1 ▸ iH.refl _)) ?_ ?_
 ·rintro Wp x Uf WF τ G' N e ⟨rfl,⟨u,rfl⟩,rfl⟩ hN;simp only [aJ,a9,au,ai,aa,ae,fk];refine⟨by lia,hN _ _ _ ⟨rfl,⟨_,rfl⟩,?_⟩⟩;rw [aH,aH]; rfl
 ·rintro WF τ G' ⟨rfl,⟨u,rfl⟩,rfl⟩ pb fb;exact jF (xs:=eqv p n a b c) (le.trans (.new fb)) (le.free fb) aM qq
theorem Sr(a:List Int):Iz (enc a)=true:=by
 show ((a.map D.int).all vp)=true;rw [r8]; exact List.all_eq_true.mpr fun _ _=>rfl
theorem Ta{κ β:Type} [DecidableEq κ]{A B:List (κ×β)}{k:κ}{x v:β}(hA:k∉A.map (·.1))(hB:k∉B.map (·.1)):oZ (A++(k,x) :: B) k v=A++(k,v) :: B:=by
 unfold oZ;rw [if_pos (by simp)];rw [aH,av];have e:∀ (l:List (κ×β)),k∉l.map (·.1)->l.map (fun p=>if p.1=k then (p.1,v) else p)=l:=fun l h=>by
  conv=>rhs; rw [<-List.map_id l]
  apply zP;intro p hp;have ne:p.1≠k:=fun z=>h (z ▸ aW hp);rw [if_neg ne]; rfl
 rw [e A hA,e B hB];simp
theorem RD(R:List (Int×List Int)):(bI R).map (·.1)=R.map fun r=>D.int r.1:=by
 unfold bI; rw [bU]; rfl
theorem Nk{p n:Nat}(hp:Pr p)(hn:n<=100){R0:List (Int×List Int)}(h:Red p n R0){Z:iS->Prop}{E:md}{e1 e3:Option D}:∀ (R:List (Int×List Int)) (a:List Int) (G:Gp) (u5 u6:Option D),(∀ r∈R,r∈R0)->qz p n a ->
  (∀ u5,Z [e1,some (.int (p:Nat)),some (.lI (bI R0)),e3,some (enc (km p R a)),u5,u6]) ->
  goP 5 4 (bW lS (aB (au 4) (aB (au 5) (aB (a9 ky (au 2) (au 5)) (aB (au 1) bc))))) (R.map fun r=>D.int r.1) E [e1,some (.int (p:Nat)),some (.lI (bI R0)),e3,some (enc a),u5,u6] G Z
 | [],a,G,u5,u6,_,_,z=>z u5
 | r :: R,a,G,u5,u6,hR,ha,z=>by
  have hr:=hR r aA;rw [av];unfold goP;simp only [bW,aB,au,ar,ai,ae,aa,a9,bc,qT];refine⟨gz (κ:=Int) R0 r.1,?_⟩;have lk:look (bI R0) (.int r.1)=some (enc r.2):=by
   rw [show D.int r.1=enc r.1 from rfl,kj,iG h.nd hr]; rfl
  rw [lk];refine⟨p,n,a,r.2,r.1,rfl,⟨hp,hn,ha,(h.ok r hr).2,(h.ok r hr).1.1,(h.ok r hr).1.2⟩,?_⟩;exact Nk hp hn h R (vQ p a r.1 r.2) G _ u6 (fun q hq=>hR q (ax _ hq)) (ha.vQ hp (h.ok r hr).2) z
def C9:iC :=
 (cD (bM vP (aJ 2))
 (cD (gB (lZ (au 0)) (aJ 3) (cD (bM (au 3) (aJ 4))
 (cD (V9 2 5 4 (bW lS (aB (au 4) (aB (au 5) (aB (a9 ky (au 2) (au 5)) (aB (au 1) bc))))))
 (cD (bM (bW mi (aB (au 4) bc)) (aJ 6))
 (mI (gL (NG (Ot true) (au 6))) (cD (bM (bW t8 (aB (au 4) (aB (au 6) (aB (au 1) bc)))) (aJ 4))
 (cD (gB (lZ (og FO (aB (au 2) bc))) (aJ 5) (bM (bW lS (aB (a9 ky (au 2) (au 5)) (aB (au 6) (aB (au 4) (aB (au 1) bc))))) (oJ (au 2) (au 5))))
 (bM (au 4) (oJ (au 2) (au 6))))) eE)))))
 (cT (fQ (au 2)))))
def t7:mw:=fun ds G Q _=>∃ (p n:Nat) (es:List (List Int)),ds=[enc es,.int (p:Nat)]/\(Pr p/\n<=100/\es.length<=100/\∀ e∈es,qz p n e)/\Q (.lI (bI (es.foldl (uC p) []))) G
theorem Qw{p:Nat}{R:List (Int×List Int)}{e:List Int}:(uC p R e).length<=R.length+1:=by
 unfold uC;split
 ·lia
 ·simp
theorem Pu(ds:List D)(G:Gp)(Q:DK)(h:t7 ds G Q fun _ _=>False):C9 (fun _ _=>False) (ends Q) (bC 7 ds) G:=by
 obtain⟨p,n,es,rfl,⟨hp,hn,he,hv⟩,qq⟩:=h;have p0:=hp.pos;unfold C9;simp only [ends,bC,av,aX,aj,ay,aI,aO,aU,cU,bM,vP,aJ,ar,ai];intro pd fd;refine fX (fun τ G'=>(iH G G'/\G' pd=some (.jg (bI (es.foldl (uC p) []))))/\∃ a b c d,τ=[some (enc es),some (.int (p:Nat)),some (.ref pd),a,b,c,d]) ?_ ?_
 ·intro N hN;simp only [gB,fh,au,aa];refine iO ?_;refine gK (xs:=es) (fun Wp τ G'=>(iH G G'/\G' pd=some (.jg (bI (Wp.foldl (uC p) []))))/\(Red p n (Wp.foldl (uC p) [])/\(Wp.foldl (uC p) []).length<=Wp.length)/\∃ a b c d,τ=[some (enc es),some (.int (p:Nat)),some (.ref pd),a,b,c,d]) ⟨⟨.new fd,aM⟩,⟨ME,aK _⟩,_,_,_,_,rfl⟩ (fun _ _ _ _=>trivial) ?_ ?_
  ·rintro Wp e Uf τ G' N2 ee ⟨⟨le,gd⟩,⟨hR,Vg⟩,a3,a4,a5,a6,rfl⟩ oI;have Bt:Wp.length<=100:=by
    have:es.length=Wp.length+(e :: Uf).length:=by rw [ee,aw]
    lia
   have hve:=hv e (by rw [ee]; simp);rw [kK,dO,Mj] at oI;generalize hRR:Wp.foldl (uC p) []=R at *;obtain⟨i1,i2,i3⟩:=E6 hp R hR [] R e rfl hve (fun r hr=>by cases hr);have hS:=Mt hp hR hve;have hF:=Qw (p:=p) (R:=R) (e:=e);simp only [aJ,ar,ai,cU,bM,au,ae,aa];refine fX (fun τ G2=>G'=G2/\τ=[some (enc es),some (.int (p:Nat)),some (.ref pd),some (enc e),some (enc (km p R e)),none,a6]) ?_ ?_
   ·intro N3 xi;refine⟨pd,bI R,rfl,gd,?_⟩;rw [RD];exact Nk hp hn hR R e _ a5 a6 (fun _ h=>h) hve fun u5=>⟨enc (km p R e),rfl,Sr _,xi _ _ ⟨rfl,rfl⟩⟩
   ·rintro _ _ ⟨rfl,rfl⟩;simp only [cU,bM,bW,aB,au,ae,aa,bc,aJ,ar,ai];refine⟨_,rfl,by rw [i1.1]; exact hn,?_⟩;unfold uC at oI hS hF;unfold RA;cases hl:rj (km p R e) with
    | none =>
     rw [hl] at oI hS hF;simp only [eR,cU,bM,bW,aB,au,ae,aa,bc,aJ,ar,ai,eE,di,NG,Ot,bG,bF,aC,if_false];exact oI _ _ ⟨⟨le,gd⟩,⟨hR,by rw [aw]; exact cw Vg (gS _ _)⟩,_,_,_,_,rfl⟩
    | some l =>
     rw [hl] at oI hS hF;obtain⟨l1,l2,l3⟩:=zj hl;simp only [eR,cU,bM,bW,aB,au,ae,aa,bc,aJ,ar,ai,eE,di,NG,Ot,bF,if_true];refine⟨p,n,_,l,rfl,⟨hp,hn,i1,by rw [<-i1.1]; exact l1,l2⟩,?_⟩;have v2:qz p n (AM p (km p R e) (inv1 p (el (km p R e) (l:Nat)))):=i1.AM hp;dsimp only at oI hS hF;generalize AM p (km p R e) (inv1 p (el (km p R e) (l:Nat)))=s at *;have ne:∀ r∈R,r.1≠(l:Int):=fun r hr z=>l2 (z ▸ i2 r hr);refine fX (fun τ G2=>(iH G G2/\G2 pd=some (.jg (bI (R.map fun r=>(r.1,vQ p r.2 (l:Nat) s)))))/\∃ u,τ=[some (enc es),some (.int (p:Nat)),some (.ref pd),some (enc e),some (enc s),u,some (.int (l:Nat))]) ?_ ?_
     ·intro N3 xi;simp only [gB,fh,og,aB,au,ae,aa,bc,FO,gd];refine⟨by rw [DL]; lia,?_⟩;rw [RD];intro pl fl;have npl:pl≠pd:=fun z=>by rw [z,gd] at fl; cases fl
      rw [U8,aM];refine gK (xs:=R) (f:=fun r=>D.int r.1) (fun Wp τ G2=>(iH G G2/\G2 pl=some (.lst (R.map fun r=>D.int r.1)))/\G2 pd=some (.jg (bI (Wp.map (fun r=>(r.1,vQ p r.2 (l:Nat) s))++R.drop Wp.length)))/\∃ u,τ=[some (enc es),some (.int (p:Nat)),some (.ref pd),some (enc e),some (enc s),u,some (.int (l:Nat))]) ⟨⟨le.trans (.new fl),aM⟩,by rw [fe (fB npl)]; exact gd,_,rfl⟩ (fun _ _ _ h=>h.1.2) ?_ ?_
      ·rintro pr r po τ G2 N4 e4 ⟨⟨ZU,gl2⟩,V4,u,rfl⟩ hN4;have hr:r∈R:=by rw [e4]; simp
       have nd:=hR.nd;rw [e4,aH,av,cb,cN] at nd;have k1:r.1∉(pr.map fun r=>(r.1,vQ p r.2 (l:Nat) s)).map (·.1):=by
        rw [bU];exact fun z=>nd.2.2 r.1 z r.1 aA rfl
       have ed:R.drop pr.length=r :: po:=by rw [e4,List.drop_left]
       rw [ed] at V4;simp only [aJ,bM,bW,aB,a9,au,ar,ai,ae,aa,bc,oJ];rw [MH];simp only [V4];have lk:look (bI (pr.map (fun r=>(r.1,vQ p r.2 (l:Nat) s))++r :: po)) (.int r.1)=some (enc r.2):=by
        rw [show D.int r.1=enc r.1 from rfl,kj,iG (p:=r) ?_ (by simp)]; rfl;rw [aH,bU,av,cb,cN];exact nd
       refine⟨gz (κ:=Int) _ r.1,?_⟩;rw [lk];refine⟨p,n,r.2,s,(l:Nat),rfl,⟨hp,hn,(hR.ok r hr).2,v2,by lia,by rw [<-i1.1]; lia⟩,?_⟩;refine K2.kO V4 (Kx (by
        have:R.length=pr.length+(r :: po).length:=by rw [e4,aw]
        rw [aw,ag]; lia)) ?_
       rw [show (r :: po)=(r.1,r.2) :: po from rfl,Ta k1 nd.2.1.1];refine hN4 _ _ ⟨⟨ZU.put fd,by rw [fe npl]; exact gl2⟩,?_,_,rfl⟩;rw [aM,aH,aw,bg];have:R.drop (pr.length+1)=po:=by rw [<-List.drop_drop,ed]; rfl
       rw [this,cG]; rfl
      ·rintro τ G2 ⟨⟨ZU,_⟩,V4,u,rfl⟩;rw [List.drop_length,bL] at V4;exact xi _ _ ⟨⟨ZU,V4⟩,_,rfl⟩
     ·rintro _ G2 ⟨⟨ZU,V4⟩,u,rfl⟩;simp only [bM,au,ae,aa,oJ];refine K2.kO V4 (Kx (by rw [ag]; lia)) ?_;rw [tW (by
       rw [bU];intro z;obtain⟨r,hr,e⟩:=List.mem_map.mp z;exact ne r hr e)]
      exact oI _ _ ⟨⟨ZU.put fd,aM⟩,⟨hS.1,by rw [aw,ag,aw]; exact Nat.add_le_add Vg (aK 1)⟩,_,_,_,_,rfl⟩
  ·rintro τ G2 ⟨h1,_,h3⟩;exact hN _ _ ⟨h1,h3⟩
 ·rintro _ G2 ⟨⟨le,gd⟩,a,b,c,d,rfl⟩;simp only [cT,fQ,au,ae,aa];exact yA le fd gd qq
end xN
end K2
end
section
namespace K2
open PySem (Str)
open Enc (enc)
namespace xN
open K2.P
open K2.Am (NB fE fC dD dM cq eq_int eR gr)
open K2.JH (lW dQ qN pQ P3 eW In)
theorem GX{p:Nat}(hp:Pr p):p < 10:=by rcases hp with rfl | rfl | rfl <;> decide
theorem U6{R:List (Int×List Int)}{G:Gp}{Z:List D->(Gp->Prop)->Gp->Prop}(h:Z (R.map fun r=>.tup [.int r.1,enc r.2]) (fun _=>True) G):HZ (.lI (bI R)) G Z:=by
 refine⟨OR R,?_⟩;have:(bI R).map (fun p=>D.tup [p.1,p.2])=R.map fun r=>.tup [.int r.1,enc r.2]:=by unfold bI; rw [bU]; rfl
 rw [this]; exact h
def pz:iC :=
 (cD (bM (eF 1 [] (oH (au 2)) (aJ 0) none (dC (.int 0))) (aJ 4))
 (cD (bM (dC (.int 1)) (oJ (au 4) (au 1)))
 (cD (gB (Lg (au 0)) (nO (fK (aJ 5) (fK (aJ 6) ng))) (bM (a9 mW (NG Oq (a9 ky (au 6) (au 1))) (au 3)) (oJ (au 4) (au 5))))
 (cT (fQ (au 4))))))
def jb:mw:=fun ds G Q _=>∃ (p n f:Nat) (R:List (Int×List Int)),ds=[.lI (bI R),.int (f:Nat),.int (n:Nat),.int (p:Nat)]/\(Pr p/\n<=100/\f < n/\Red p n R)/\Q (enc (cf p n R f)) G
theorem xK(ds:List D)(G:Gp)(Q:DK)(h:jb ds G Q fun _ _=>False):pz (fun _ _=>False) (ends Q) (bC 7 ds) G:=by
 obtain⟨p,n,f,R,rfl,⟨hp,hn,hf,hR⟩,qq⟩:=h;have p0:=hp.pos;unfold pz;simp only [ends,bC,av,aX,aj,ay,aI,aO,aU,cU,bM,eF,aJ,ar,ai,dC,gW,au,ae,aa,fY,aZ];refine⟨by lia,by lia,B4 (by simp [dB]; lia),?_⟩;refine xA (fun Wp WF τ G'=>G=G'/\(∃ u,τ=[u])/\WF=(aI Wp.length (0:Int)).map D.int) ⟨rfl,⟨_,rfl⟩,rfl⟩ (fun _ _ _ _ _=>trivial) ?_ ?_
 ·rintro Wp x Uf WF τ G' N e ⟨rfl,⟨u,rfl⟩,rfl⟩ hN;simp only [aJ,dC,ai];refine hN _ _ _ ⟨rfl,⟨_,rfl⟩,?_⟩;rw [aw,bg,pP,aH]; rfl
 rintro WF τ G' ⟨rfl,⟨u,rfl⟩,rfl⟩ pa fa;have er:(dB 0 n).length=n:=by simp [dB]
 rw [er];simp only [oJ,au,ae,aa];refine qf aM (by simp; exact hf) ?_;rw [<-xT (f:=D.int)];refine fX (fun τ G'=>(iH G G'/\G' pa=some (.lst ((cf p n R f).map D.int)))/\∃ a b c d e g,τ=[a,b,c,d,some (.ref pa),e,g]) ?_ ?_
 ·intro N hN;simp only [gB,Lg,au,aa];refine U6 ?_;refine gK (xs:=R) (f:=fun r=>D.tup [.int r.1,enc r.2]) (fun Wp τ G'=>(iH G G'/\G' pa=some (.lst ((fs (fun r=>(-(el r.2 (f:Nat))) % (p:Int)) Wp ((aI n 0).set f 1)).map D.int)))/\∃ e g,τ=[some (.lI (bI R)),some (.int (f:Nat)),some (.int (n:Nat)),some (.int (p:Nat)),some (.ref pa),e,g]) ⟨⟨(iH.new fa).put fa,aM⟩,_,_,rfl⟩ (fun _ _ _ _=>trivial) ?_ ?_
  ·rintro Wp r Uf τ G' N2 e ⟨⟨le,gp⟩,e1,e2,rfl⟩ oI;have hr:r∈R:=by rw [e]; simp
   have hv:=(hR.ok r hr).2;have kl:=rm hR hr;simp only [nO,fK,aJ,ng,bM,a9,NG,au,ar,ai,ae,aa,oJ];refine gT (IsL.enc r.2) (Nv ⟨by lia,by rw [hv.1]; lia⟩) ?_;simp only [sY,fk];refine⟨by lia,?_⟩;have ei:r.1=((r.1.toNat:Nat):Int):=by lia
   have go:∀ Z:Gp->Prop,Z (fG G' pa (.lst (((fs (fun r=>(-(el r.2 (f:Nat))) % (p:Int)) Wp ((aI n 0).set f 1)).map D.int).set r.1.toNat (.int (-(el r.2 (f:Nat)) % (p:Int))))))->wy (.ref pa) (.int r.1) (.int (-(el r.2 (f:Nat)) % (p:Int))) G' Z:=fun Z hZ=>by
    rw [ei];exact qf gp (by rw [ag,Ll,bO,bE]; exact kl.2) hZ
   refine go _ ?_;rw [<-xT (f:=D.int)];refine oI _ _ ⟨⟨le.put fa,?_⟩,_,_,rfl⟩;rw [aM];unfold fs;rw [kK]; rfl
  ·rintro τ G' ⟨h1,e1,e2,rfl⟩;exact hN _ _ ⟨h1,_,_,_,_,_,_,rfl⟩
 ·rintro _ G' ⟨⟨le,gp⟩,a,b,c,d,e,g,rfl⟩;simp only [cT,fQ,au,ae,aa];exact jF (xs:=cf p n R f) le fa gp qq
theorem RM{R:List (Int×List Int)}{j:Int}{G:Gp}{Q:DK}(q:Q (.bl (decide (j∉R.map (·.1)))) G):Ou true (.int j) (.lI (bI R)) G Q:=by
 cases hR:R with
 | nil =>
  subst hR;exact⟨⟨j,rfl⟩,by simpa using q⟩
 | cons r R' =>
  rw [<-hR];have ne:bI R≠[]:=by rw [hR]; simp [bI]
  rw [ML (fun z=>ne (by injection z))];refine⟨ne,gz (κ:=Int) R j,?_⟩;have e:(!(look (bI R) (.int j)).isSome)=decide (j∉R.map (·.1)):=by
   rw [show D.int j=enc j from rfl,kj,nA];unfold rL;rw [nA,xW,decide_eq_true_iff,t4,<-Bool.not_eq_true,List.find?_isSome];simp
  rw [if_pos rfl,e]; exact q
def eqT(p n:Nat)(t:T3):List Int:=eqv p n t.a.toNat t.b.toNat t.c.toNat
noncomputable def AJ(p:Nat)(XV:Rows):List (Int×List Int):=(((names XV).map (qN XV)).map (eqT p (cq XV).length)).foldl (uC p) []
def Hn:iC :=
 (cD (i0 (bW eW (aB (au 1) bc)))
 (cD (bM (og nu (aB (bW fE (aB (au 0) bc)) bc)) (aJ 2))
 (cD (bM (bW t7 (aB (fQ (eF 1 [2,1] (lZ (bW dQ (aB (au 0) bc))) (aJ 0) none (bW k8 (aB (au 0) (aB (au 1) (aB (au 2) bc)))))) (aB (fQ (au 1)) bc))) (aJ 3))
 (cT (fQ (eF 1 [3,2,1] (oH (au 2)) (aJ 0) (some (gL (a9 (Ou true) (au 0) (au 1)))) (bW jb (aB (au 1) (aB (au 0) (aB (au 2) (aB (au 3) bc)))))))))))
noncomputable def Je(p:Nat)(XV:Rows):List (List Int):=(frees (AJ p XV) (cq XV).length).map (cf p (cq XV).length (AJ p XV))
theorem qe{p:Nat}(hp:Pr p)(XV:Rows):Red p (cq XV).length (AJ p XV)/\∀ x,DW p ((AJ p XV).map (·.2)) x↔DW p (((names XV).map (qN XV)).map (eqT p (cq XV).length)) x:=by
 obtain⟨a,b⟩:=QD hp (((names XV).map (qN XV)).map (eqT p (cq XV).length)) [] ME fun e he=>by
  obtain⟨t,_,rfl⟩:=List.mem_map.mp he;exact Nq hp
 exact⟨a,fun x=>(b x).trans ⟨fun z=>z.2,fun z=>⟨fun e he=>(by cases he),z⟩⟩⟩
noncomputable def oq:mw:=fun ds G Q _=>∃ (XV:Rows) (p:Nat),ds=[enc XV,.int (p:Nat)]/\(Dr XV/\NB XV/\XV≠[])/\Pr p/\Q (enc (Je p XV)) G
theorem Ti(ds:List D)(G:Gp)(Q:DK)(h:oq ds G Q fun _ _=>False):Hn (fun _ _=>False) (ends Q) (bC 4 ds) G:=by
 obtain⟨XV,p,rfl,⟨dr,nb,kX⟩,hp,qq⟩:=h;have p0:=hp.pos;have p1:=GX hp;have bf:=gr dr;have nf:=lW dr;unfold Hn;simp only [ends,bC,av,aX,aj,ay,aI,aO,aU,qg,i0,bW,aB,au,ae,aa,bc,cU,bM,og,aJ,ar,ai,fQ,eF,cT,gW,fh];refine⟨p,rfl,by rcases hp with rfl | rfl | rfl <;> simp [P3],?_⟩;refine⟨XV,rfl,⟨dr,nb,kX⟩,?_⟩;refine lE (IsL.enc (cq XV)) ?_;simp only [ag,fY];refine⟨XV,rfl,⟨dr,nb,kX⟩,?_⟩;obtain⟨hR,_⟩:=qe hp XV;unfold Je at qq;have inn:∀ t∈(names XV).map (qN XV),(0<=t.a/\t.a < (cq XV).length)/\(0<=t.b/\t.b < (cq XV).length)/\(0<=t.c/\t.c < (cq XV).length):=fun t ht=>by
  obtain⟨m,hm,rfl⟩:=List.mem_map.mp ht;have:=pQ dr (ns:=aI (cq XV).length 0) (by simp) hm;have a:=this.a;have b:=this.b;have c:=this.c;rw [bE] at a b c;exact⟨a,b,c⟩
 have es:AJ p XV=(((names XV).map (qN XV)).map (eqT p (cq XV).length)).foldl (uC p) []:=rfl;have ll:((names XV).map (qN XV)).length<=100:=by rw [ag]; lia
 have hn:(cq XV).length<=100:=by lia
 generalize AJ p XV=R at *;generalize (names XV).map (qN XV)=ts at *;generalize (cq XV).length=n at *;refine iO ⟨B4 (by rw [ag]; lia),?_⟩;refine gI (xs:=ts) (fun Wp WF τ G'=>G=G'/\(∃ u,τ=[u,some (.int (n:Nat)),some (.int (p:Nat))])/\WF=(Wp.map (eqT p n)).map enc) ⟨rfl,⟨_,rfl⟩,rfl⟩ (fun _ _ _ _ _=>trivial) ?_ ?_
 ·rintro Wp t Uf WF τ G' N e ⟨rfl,⟨u,rfl⟩,rfl⟩ hN;obtain⟨t1,t2,t3⟩:=inn t (by rw [e]; simp);simp only [aJ,bW,aB,au,nj,ai,aa,ae,bc];refine⟨p,n,t.a.toNat,t.b.toNat,t.c.toNat,?_,⟨hp,hn,by lia,by lia,by lia⟩,hN _ _ _ ⟨rfl,⟨_,rfl⟩,?_⟩⟩
  ·rw [qI t1.1,qI t2.1,qI t3.1]
  ·rw [aH,aH]; rfl
 rintro WF τ G' ⟨rfl,⟨u,rfl⟩,rfl⟩ pa fa;refine jF (xs:=ts.map (eqT p n)) (.new fa) fa aM ?_;refine lA ?_;refine⟨p,n,_,rfl,⟨hp,hn,by rw [ag]; exact ll,fun e he=>?_⟩,?_⟩
 ·obtain⟨t,_,rfl⟩:=List.mem_map.mp he;exact Nq hp
 rw [<-es];simp only [aZ];refine⟨by lia,by lia,B4 (by simp [dB]; lia),?_⟩;refine xA (fun Wp WF τ G'=>G=G'/\(∃ u,τ=[u,some (.lI (bI R)),some (.int (n:Nat)),some (.int (p:Nat))])/\WF=((frees R Wp.length).map (cf p n R)).map enc) ⟨rfl,⟨_,rfl⟩,rfl⟩ (fun _ _ _ _ _=>trivial) ?_ ?_
 ·rintro Wp x Uf WF τ G' N e ⟨rfl,⟨u,rfl⟩,rfl⟩ hN;obtain⟨rfl,mj⟩:=oA e;simp only [aJ,ai,bW,aB,au,ae,aa,bc,di,a9];refine RM ?_;have ef:frees R (Wp.length+1)=frees R Wp.length++(if (Wp.length:Int)∉R.map (·.1) then [Wp.length] else []):=by
   unfold frees;rw [qA,cS,jK,i5];simp only [decide_eq_true_iff]
  by_cases c:(Wp.length:Int)∈R.map (·.1)
  ·simp only [c,not_true_eq_false,decide_false,bF,aC,if_false];refine hN _ _ _ ⟨rfl,⟨_,rfl⟩,?_⟩;rw [aw,bg,ef,if_neg (fun z=>z c),bL]
  ·simp only [c,not_false_eq_true,decide_true,bF,if_true];refine⟨p,n,Wp.length,R,rfl,⟨hp,hn,by lia,hR⟩,hN _ _ _ ⟨rfl,⟨_,rfl⟩,?_⟩⟩;rw [aw,bg,ef,if_pos c,aH,aH]; rfl
 ·rintro WF τ G' ⟨rfl,⟨u,rfl⟩,rfl⟩ pb fb;have er:(dB 0 n).length=n:=by simp [dB]
  rw [er];exact jF (xs:=(frees R n).map (cf p n R)) (.new fb) fb aM qq
def y9:iC :=
 (cD (bM (dC (.int 1)) (aJ 2))
 (cD (gB (oH (au 1)) (aJ 3) (bM (a9 wQ (au 2) (au 0)) (aJ 2)))
 (cT (fQ (au 2)))))
def fR:mw:=fun ds G Q _=>∃ p k:Nat,ds=[.int (p:Nat),.int (k:Nat)]/\(Pr p/\k<=1000)/\Q (.int ((p:Int) ^ k)) G
theorem zw(ds:List D)(G:Gp)(Q:DK)(h:fR ds G Q fun _ _=>False):y9 (fun _ _=>False) (ends Q) (bC 4 ds) G:=by
 obtain⟨p,k,rfl,⟨hp,hk⟩,qq⟩:=h;have p1:=GX hp;unfold y9;simp only [ends,bC,av,aX,aj,ay,aI,aO,aU,cU,bM,dC,aJ,ar,ai];refine fX (fun τ G'=>G=G'/\∃ a b c,τ=[a,b,some (.int ((p:Int) ^ k)),c]) ?_ ?_
 ·intro N hN;simp only [gB,gW,au,ae,aa,fY,aZ];refine⟨by lia,by lia,?_⟩;refine yD (fun Wp τ G'=>G=G'/\∃ c,τ=[some (.int (p:Nat)),some (.int (k:Nat)),some (.int ((p:Int) ^ Wp.length)),c]) ⟨rfl,_,rfl⟩ (fun _ _ _ _=>trivial) ?_ ?_
  ·rintro Wp x Uf τ G' N2 e ⟨rfl,c,rfl⟩ oI;simp only [aJ,bM,a9,au,ar,ai,ae,aa,kc];refine⟨.inr ⟨by lia,by lia⟩,oI _ _ ⟨rfl,some x,?_⟩⟩;rw [aw,bg,Int.pow_succ]
  ·rintro τ G' ⟨rfl,c,rfl⟩;refine hN _ _ ⟨rfl,some (.int (p:Nat)),some (.int (k:Nat)),c,?_⟩;simp [dB]
 ·rintro _ _ ⟨rfl,a,b,c,rfl⟩;simp only [cT,fQ,au,ae,aa];exact lA qq
def nB:iC :=
 (cT (fQ (bW fR (aB (au 1) (aB (og nu (aB (bW oq (aB (au 0) (aB (au 1) bc))) bc)) bc)))))
noncomputable def gG:mw:=fun ds G Q _=>∃ (XV:Rows) (p:Nat),ds=[enc XV,.int (p:Nat)]/\(Dr XV/\NB XV/\XV≠[])/\Pr p/\Q (.int ((p:Int) ^ (Je p XV).length)) G
theorem FR{p:Nat}{XV:Rows}(dr:Dr XV):(Je p XV).length<=100:=by
 unfold Je frees;rw [ag];refine cw (dU _ _) ?_;rw [cR];have:=gr dr;lia
theorem uL(ds:List D)(G:Gp)(Q:DK)(h:gG ds G Q fun _ _=>False):nB (fun _ _=>False) (ends Q) (bC 2 ds) G:=by
 obtain⟨XV,p,rfl,hd,hp,qq⟩:=h;have bf:=FR (p:=p) hd.1;unfold nB;simp only [cT,fQ,bW,aB,au,bC,av,aX,aj,ay,aO,aU,ae,aa,og,bc,ends];refine⟨XV,p,rfl,hd,hp,?_⟩;refine lE (IsL.enc (Je p XV)) ?_;rw [ag];exact⟨p,_,rfl,⟨hp,by lia⟩,lA qq⟩
end xN
end K2
end
section
namespace K2
open PySem (Str)
open Enc (enc)
namespace xN
open K2.P
open K2.Gz (iJ)
open K2.Am (NB fE fC dD dM cq eq_int eR gr)
open K2.JH (dQ qN pQ P3 eW In)
def zc:iC :=
 (cD (mI (SQ (vO (gL (Pn "list" (au 0)))) (gL (a9 (A1 true) (og nu (aB (au 0) bc)) (au 1)))) (cT (fQ (dC (.bl false)))) eE)
 (cT (fQ (og Vz (aB (eF 1 [2] (lZ (au 0)) (aJ 0) none (IT (bW iJ (aB (au 0) bc)) (LL rLe Zq (dC (.int 0)) (au 0) (au 1)))) bc)))))
def kN:mw:=fun ds G Q _=>∃ (p n:Nat) (a:List Int),ds=[enc a,.int (n:Nat),.int (p:Nat)]/\(qz p n a/\n<=100)/\Q (.bl true) G
theorem Jn(ds:List D)(G:Gp)(Q:DK)(h:kN ds G Q fun _ _=>False):zc (fun _ _=>False) (ends Q) (bC 3 ds) G:=by
 obtain⟨p,n,a,rfl,⟨ha,hn⟩,qq⟩:=h;unfold zc;simp only [ends,bC,av,aX,aj,ay,aO,aU,jy,eR,SQ,vO,cT,fQ,dC,eE,og,aB,eF,bc,fh,au,aa,if_true,di,a9,ae,xw];refine Nc (IsL.enc a) ?_;simp only [bF];rw [if_neg (by simp)];refine lE (IsL.enc a) ?_;refine⟨_,_,.int _,.int _,?_⟩;rw [eq_int,ag,ha.1];simp only [decide_true,bG,if_true,bF,aC,if_false];refine iO ⟨B4 (by rw [ag,ha.1]; lia),?_⟩;refine gI (xs:=a) (fun Wp WF τ G'=>G=G'/\(∃ u,τ=[u,some (.int (p:Nat))])/\WF=(aI Wp.length true).map D.bl) ⟨rfl,⟨_,rfl⟩,rfl⟩ (fun _ _ _ _ _=>trivial) ?_ ?_
 ·rintro Wp x Uf WF τ G' N e ⟨rfl,⟨u,rfl⟩,rfl⟩ hN;have hx:=ha.2 x (by rw [e]; simp);simp only [aJ,ai,xy,bW,aB,au,aa,bc];refine⟨x,rfl,?_⟩;simp only [LL,dC,au,aa,ae,bF,if_true];show rLe (.int 0) (.int x) _ _;simp only [EM];refine⟨_,rfl,?_⟩;simp only [hx.1,decide_true,if_true];show Zq (.int x) (.int (p:Nat)) _ _;simp only [zW,hx.2,decide_true];refine hN _ _ _ ⟨rfl,⟨_,rfl⟩,?_⟩;rw [aw,bg,pP,aH]; rfl
 ·rintro WF τ G' ⟨rfl,⟨u,rfl⟩,rfl⟩ pa fa;refine⟨_,oG (IsL.ref aM),Ah (.new fa) ?_⟩;rw [List.all_replicate];simpa using qq
def EJ:iC :=
 (cD (bM (dC (.int 1)) (aJ 2))
 (cD (gB (oH (au 1)) (aJ 3) (bM (a9 wQ (au 2) (au 0)) (aJ 2)))
 (cT (fQ (au 2)))))
def jN:mw:=fR
theorem FX(ds:List D)(G:Gp)(Q:DK)(h:jN ds G Q fun _ _=>False):EJ (fun _ _=>False) (ends Q) (bC 4 ds) G:=zw ds G Q h
end xN
end K2
end
section
namespace K2
open PySem (Str)
open Enc (enc)
namespace xN
open K2.P
open K2.Gz (iJ)
open K2.Am (NB fE fC dD dM cq eq_int eR gr)
def Hq(n:Nat)(t:T3):List Int:=PX n t.a.toNat t.b.toNat t.c.toNat
def InT(n:Nat)(t:T3):Prop:=(0<=t.a/\t.a < n)/\(0<=t.b/\t.b < n)/\(0<=t.c/\t.c < n)
end xN
end K2
end
section
namespace K2
open PySem (Str)
open Enc (enc)
namespace xN
open K2.P K2.Gz
open K2.Am (NB eR)
theorem MJ{α:Type} [DecidableEq α] [Enc α]{neg:Bool}{x:α}{xs:List α}{a:Nat}{G:Gp}{Q:DK}(hd:Enc.dep α<=7)(h:G a=some (.lst (xs.map enc)))(q:Q (.bl (if neg then !decide (x∈xs) else decide (x∈xs))) G):KO neg (enc x) (.ref a) G Q:=by
 unfold KO;simp only [h];refine⟨_,_,Enc.sn G 8 x (by lia),yh G 7 hd xs,?_⟩;rw [NQ]; exact q
def f0(n:Int):Nat->Int
 | 0=>n
 | k+1=>(f0 n k+1) % 999
theorem Np{n:Int}(h1:0<=n)(h2:n < 999):∀ k:Nat,f0 n k=(n+k) % 999
 | 0=>by show n=_; lia
 | k+1=>by
  show (f0 n k+1) % 999=_;rw [Np h1 h2 k];lia
theorem Vm{n:Int}{ns:List Int}(h1:0<=n)(h2:n < 999)(hl:ns.length<=500):∃ k,k<=ns.length/\f0 n k∉ns:=by
 apply bZ;intro R4;have rn:∀ k,k<=ns.length->f0 n k∈ns:=fun k hk=>bZ fun z=>R4 ⟨k,hk,z⟩;have nd:((aY (ns.length+1)).map fun k=>f0 n k).Nodup:=by
  refine List.pairwise_iff_getElem.mpr fun i j hi hj JF=>?_;simp only [ag,cR] at hi hj;rw [dq,dq,mQ,mQ,Np h1 h2,Np h1 h2];lia
 have:=K17.VT _ ns nd fun x hx=>by
  obtain⟨k,hk,rfl⟩:=List.mem_map.mp hx;exact rn k (by have:=List.mem_range.mp hk; lia)
 simp at this;lia
theorem aaD{n:Int}(h1:0<=n)(h2:n < 999)(k:Nat):0<=f0 n k/\f0 n k < 999:=by
 rw [Np h1 h2]; lia
def BN(uE:List Int):Prop:=∀ x∈uE,0<=x/\x < 999
structure MK(uE:List Int)(L:List T3):Prop where
 nm:∀ p∈L,p.a - 1∈uE
 nd:(L.map T3.s).Nodup
 way:∀ p∈L,p.b=0\/p.b=1
 hand:∀ p∈L,p.c=1\/p.c=-1
 K6:∀ p∈L,(⟨p.a,1 - p.b,p.c⟩:T3)∈L
 len:L.length=2 * uE.length
theorem MK.perm{uE:List Int}{L L':List T3}(h:MK uE L)(p:L'.Perm L):MK uE L' :=
 ⟨fun x hx=>h.nm x (p.mem_iff.mp hx),(p.map _).nodup_iff.mpr h.nd,fun x hx=>h.way x (p.mem_iff.mp hx),fun x hx=>h.hand x (p.mem_iff.mp hx),
  fun x hx=>p.mem_iff.mpr (h.K6 x (p.mem_iff.mp hx)),by rw [p.length_eq]; exact h.len⟩
theorem MK.more{uE:List Int}{L:List T3}(h:MK uE L){m hh:Int}(hm:m∉uE)(hc:hh=1\/hh=-1) :
  MK (uE++[m]) (⟨m+1,1,hh⟩ :: ⟨m+1,0,hh⟩ :: L):=by
 have nin:∀ w:Int,(⟨m+1,w⟩:T2)∉L.map T3.s:=by
  intro w hw;obtain⟨p,hp,e⟩:=List.mem_map.mp hw;have h1:p.a=m+1:=congrArg T2.a e;have h2:=h.nm p hp;rw [h1] at h2;exact hm (by rw [show m=m+1 - 1 by lia]; exact h2)
 refine⟨?_,?_,?_,?_,?_,by rw [aj,aj,h.len,aw]; simp; lia⟩
 ·intro p hp;rcases List.mem_cons.mp hp with rfl | hp
  ·simp
  ·rcases List.mem_cons.mp hp with rfl | hp
   ·simp
   ·exact eK _ (h.nm p hp)
 ·rw [av,av,cN,cN];refine⟨fun z=>?_,nin 0,h.nd⟩;rcases List.mem_cons.mp z with z | z
  ·have:=congrArg T2.b z; exact absurd this (by show ¬ (1:Int)=0; decide)
  ·exact nin 1 z
 ·intro p hp;rcases List.mem_cons.mp hp with rfl | hp
  ·exact .inr rfl
  ·rcases List.mem_cons.mp hp with rfl | hp
   ·exact .inl rfl
   ·exact h.way p hp
 ·intro p hp;rcases List.mem_cons.mp hp with rfl | hp
  ·exact hc
  ·rcases List.mem_cons.mp hp with rfl | hp
   ·exact hc
   ·exact h.hand p hp
 ·intro p hp;rcases List.mem_cons.mp hp with rfl | hp
  ·exact ax _ (aA ..)
  ·rcases List.mem_cons.mp hp with rfl | hp
   ·exact aA ..
   ·exact ax _ (ax _ (h.K6 p hp))
theorem RX{G G':Gp}{p0 pn:Nat}{as:List Nat}{rs:Rows}{o:GO}(h:HR G G' p0 as rs)(h1:G pn=none)(h2:pn≠p0)(h3:pn∉as):HR G (fG G' pn o) p0 as rs :=
 ⟨h.le.put h1,h.fp,by rw [fe (fB h2)]; exact h.gp,h.np,h.nd,h.fr,h.len,fun i b r hb hr=>by
  rw [fe (by rintro rfl; exact h3 (dJ hb))]; exact h.at' i b r hb hr⟩
def zb:iC :=
 (cD (bM (eF 1 [] (oH (au 1)) (aJ 0) none (nq bc)) (aJ 2))
 (cD (bM (nq bc) (aJ 3))
 (cD (gB (lZ (au 0)) (aJ 4) (cD (bM (a9 mW (au 4) (dC (.int 999))) (aJ 5))
 (cD (SO (gL (a9 (KO false) (au 5) (au 3))) (bM (a9 mW (a9 se (au 5) (dC (.int 1))) (dC (.int 999))) (aJ 5)))
 (cD (bM (a9 u3 (au 4) (dC (.int 1998))) (aJ 6))
 (cD (mI (gL (a9 (A1 false) (a9 mW (au 4) (dC (.int 2))) (dC (.int 1)))) (bM (a9 mW (a9 wQ (a9 mW (a9 wQ (a9 se (au 4) (a9 wQ (dC (.int 7919)) (og nu (aB (au 3) bc)))) (dC (.int 48271))) (dC (.int 2147483647))) (dC (.int 69621))) (dC (.int 2147483629))) (aJ 6)) eE)
 (cD (i0 (BI Ce uf (au 3) (aB (au 5) bc)))
 (cD (bM (a9 vo (dC (.int 1)) (a9 wQ (dC (.int 2)) (a9 mW (au 6) (dC (.int 2))))) (aJ 7))
 (cD (bM (a9 u3 (au 6) (dC (.int 2))) (aJ 6))
 (gB (oH (dC (.int 2))) (aJ 8) (cD (bM (a9 ky (au 2) (a9 mW (au 6) (au 1))) (aJ 9))
 (cD (bM (a9 u3 (au 6) (au 1)) (aJ 6))
 (cD (bM (a9 mW (au 6) (a9 se (og nu (aB (au 9) bc)) (dC (.int 1)))) (aJ 10))
 (cD (bM (a9 u3 (au 6) (a9 se (og nu (aB (au 9) bc)) (dC (.int 1)))) (aJ 6))
 (i0 (BI Ce z0 (au 9) (aB (au 10) (aB (iZ (aB (a9 se (au 5) (dC (.int 1))) (aB (au 8) (aB (au 7) bc)))) bc)))))))))))))))))
 (cT (fQ (au 2))))))
def mz:mw:=fun ds G Q _=>∃ (d:D) (cs:List Int) (k:Int),ds=[d,.int k]/\IsL G d (cs.map D.int)/\(cs.length<=12/\1<=k/\k<=3)/\∀ XV:Rows,Dr XV->NB XV->XV≠[]->Q (enc XV) G
theorem Jm(ds:List D)(G:Gp)(Q:DK)(h:mz ds G Q fun _ _=>False):zb (fun _ _=>False) (ends Q) (bC 11 ds) G:=by
 obtain⟨d,cs,k,rfl,hd,⟨hc,hk1,hk3⟩,q⟩:=h;unfold zb;simp only [ends,bC,av,aX,aj,ay,aI,aO,aU,cU,bM,eF,aJ,ar,ai,nq,bc,gW,au,ae,aa,fY];refine⟨by lia,by lia,B4 (by unfold dB; rw [ag,cR]; lia),?_⟩;unfold dB;refine gI (xs:=aY k.toNat) (fun Wp WF τ G'=>(∃ a,τ=[a])/\∃ as:List Nat,WF=as.map D.ref/\as.length=Wp.length/\as.Nodup/\(∀ a∈as,G a=none/\G' a=some (.lst []))/\iH G G') ⟨⟨_,rfl⟩,[],rfl,rfl,df,(fun a h=>by cases h),.refl G⟩ (fun _ _ _ _ _=>trivial) ?_ ?_
 ·rintro Wp x Uf WF τ G' N e ⟨⟨a,rfl⟩,as,rfl,hl,hn,ha,le⟩ hN;simp only [aJ,nq,bc,ay,ai];refine⟨by decide,fun p hp=>?_⟩;refine hN _ _ _ ⟨⟨_,rfl⟩,as++[p],by simp,by simp [hl],?_,?_,le.trans (.new hp)⟩
  ·rw [cb];refine⟨hn,by simp,fun a h b hb e=>?_⟩;rw [mP] at hb;subst hb e;rw [(ha a h).2] at hp; cases hp
  ·intro a h0;rcases List.mem_append.mp h0 with h | h
   ·refine⟨(ha a h).1,?_⟩;rw [fe (fun z=>by rw [<-z,(ha a h).2] at hp; cases hp)];exact(ha a h).2
   ·rw [mP] at h;subst h;exact⟨le.free hp,aM⟩
 rintro WF τ G1 ⟨⟨a,rfl⟩,as,rfl,hl,hn,ha,le⟩ p0 JE;rw [cR] at hl;have Vb:HR G (fG G1 p0 (.lst (as.map D.ref))) p0 as (aI as.length []):=by
  refine⟨le.trans (.new JE),le.free JE,aM,fun z=>?_,hn,fun a h=>(ha a h).1,by simp,fun i b r hb hr=>?_⟩
  ·rw [(ha p0 z).2] at JE; cases JE
  ·have Ii:=dJ hb;have:r=[]:=by
    have:=dJ hr;exact NY this
   subst this;rw [fe (by rintro rfl; rw [(ha b Ii).2] at JE; cases JE)];exact(ha b Ii).2
 have mi0:MK [] (aI as.length ([]:List T3)).flatten:=by
  have:(aI as.length ([]:List T3)).flatten=[]:=by simp
  rw [this];exact⟨(fun p h=>by cases h),df,(fun p h=>by cases h),(fun p h=>by cases h),(fun p h=>by cases h),rfl⟩
 generalize fG G1 p0 (.lst (as.map D.ref))=G2 at *;refine⟨by decide,fun pn RZ=>?_⟩;have n0:pn≠p0:=fun z=>by rw [z,Vb.gp] at RZ; cases RZ
 have nas:pn∉as:=fun z=>by
  obtain⟨i,hi,e⟩:=c8 z;have:=Vb.at' i pn [] (by rw [ah hi,e]) (by rw [gZ,if_pos hi]);rw [this] at RZ; cases RZ
 have gn:G pn=none:=Vb.le.free RZ;refine fX (fun τ G'=>(∃ x1 x2 x3 x4 x5 x6 x7,τ=[some d,some (.int k),some (.ref p0),some (.ref pn),x1,x2,x3,x4,x5,x6,x7])/\∃ rs uE,HR G G' p0 as rs/\(MK uE rs.flatten/\BN uE)/\uE.length=cs.length) ?_ ?_
 ·intro N hN;simp only [gB,fh,au,aa];refine U9 hd (Vb.le.trans (.new RZ)) fun ok cB=>?_;refine gK (xs:=cs) (fun Wp τ G'=>(∃ x1 x2 x3 x4 x5 x6 x7,τ=[some d,some (.int k),some (.ref p0),some (.ref pn),x1,x2,x3,x4,x5,x6,x7])/\∃ rs uE,HR G G' p0 as rs/\(MK uE rs.flatten/\BN uE)/\uE.length=Wp.length/\G' pn=some (.lst (uE.map enc))) ⟨⟨_,_,_,_,_,_,_,rfl⟩,_,[],RX Vb gn n0 nas,⟨mi0,fun x h=>by cases h⟩,rfl,by rw [aM]; rfl⟩ (fun _ _ _ h=>by obtain⟨_,_,_,h,_⟩:=h; exact cB _ h.le) ?_ ?_
  ·rintro Wp c Uf τ G' N2 e ⟨⟨x1,x2,x3,x4,x5,x6,x7,rfl⟩,rs,uE,hr,⟨mk,bn⟩,hnl,gpn⟩ oI;have OW:Wp.length < 12:=by have:=congrArg dF e; simp at this; lia
   simp only [aJ,ar,ai,cU,bM,a9,au,ae,aa,dC,fk];refine⟨by decide,?_⟩;have c1:0<=c % 999:=dP _ (by decide);have c2:c % 999 < 999:=c7 _ (by decide);generalize c % 999=n at *;refine fX (fun τ G3=>G'=G3/\∃ m:Int,(m∉uE/\0<=m/\m < 999)/\τ=[some d,some (.int k),some (.ref p0),some (.ref pn),some (.int c),some (.int m),x3,x4,x5,x6,x7]) ?_ ?_
   ·intro N3 xi;obtain⟨kk,hk,rS⟩:=Vm (ns:=uE) c1 c2 (by lia);have main:∀ (j:Nat),j<=kk->GS (gL (a9 (KO false) (au 5) (au 3))) (bM (a9 mW (a9 se (au 5) (dC (.int 1))) (dC (.int 999))) (aJ 5)) (j+1) (fun _ _=>False) { nx:=N3,rt:=Q,bk:=N,ct:=N2 } [some d,some (.int k),some (.ref p0),some (.ref pn),some (.int c),some (.int (f0 n (kk - j))),x3,x4,x5,x6,x7] G':=by
     intro j;induction j with
     | zero =>
      intro _;show GS _ _ (0+1) _ _ _ _;rw [GS];simp only [bM,a9,au,ae,aa,dC,aJ,ar,ai,kd,fk,di];refine MJ (x:=f0 n (kk - 0)) (by decide) gpn ?_;simp only [aC,T8,rS,decide_false,cW,if_false,bF];exact xi _ _ ⟨rfl,_,⟨rS,aaD c1 c2 _⟩,rfl⟩
     | succ j ih =>
      intro hj;rw [GS];simp only [bM,a9,au,ae,aa,dC,aJ,ar,ai,kd,fk,di];refine MJ (x:=f0 n (kk - (j+1))) (by decide) gpn ?_;by_cases hm:f0 n (kk - (j+1))∈uE
      ·simp only [aC,hm,decide_true,bG,if_false,bF,if_true];refine⟨by decide,?_⟩;have e:(f0 n (kk - (j+1))+1) % 999=f0 n (kk - j):=by
        rw [show kk - j=(kk - (j+1))+1 by lia]; rfl
       rw [e];exact ih (by lia)
      ·simp only [aC,hm,decide_false,cW,if_false,bF];exact xi _ _ ⟨rfl,_,⟨hm,aaD c1 c2 _⟩,rfl⟩
    have:=main kk (aK _);rw [Gh] at this;exact⟨kk+1,this⟩
   rintro _ _ ⟨rfl,m,⟨hm,bm⟩,rfl⟩;simp only [cU,bM,a9,au,ae,aa,dC,aJ,ar,ai,kP];refine⟨by decide,by decide,?_⟩;refine fX (fun τ G3=>G'=G3/\∃ re:Int,τ=[some d,some (.int k),some (.ref p0),some (.ref pn),some (.int c),some (.int m),some (.int re),x4,x5,x6,x7]) ?_ ?_
   ·intro N3 xi;simp only [eR,bM,a9,au,ae,aa,dC,og,aB,bc,aJ,ar,ai,eE,di,fk];refine⟨by decide,MN (α:=Int) (by decide) ?_⟩;rw [bF,if_neg eV];by_cases h:c % 2=1
    ·rw [if_pos (decide_eq_true h)];simp only [Jd,gpn,kc,kd,fk];refine⟨.inl ⟨by decide,by decide⟩,.inr ⟨by decide,by decide⟩,by decide,.inr ⟨by decide,by decide⟩,by decide,?_⟩;exact xi _ _ ⟨rfl,_,rfl⟩
    ·rw [if_neg (by simp [h])];exact xi _ _ ⟨rfl,_,rfl⟩
   rintro _ _ ⟨rfl,re,rfl⟩;simp only [qg,i0,BI,au,ae,aa,o7,gpn,aB,bc,cU,bM,a9,dC,aJ,ar,ai,kP,fk,kc,iX,mB,true_and];refine⟨Kx (by rw [ag]; lia),by decide,.inl ⟨by decide,by decide⟩,by decide,by decide,?_⟩;have hr1:HR G (fG G' pn (.lst (uE.map enc++[D.int m]))) p0 as rs:=RX hr gn n0 nas;have gp1:fG G' pn (.lst (uE.map enc++[D.int m])) pn=some (.lst ((uE++[m]).map enc)):=by rw [aM,aH]; rfl
   have h01:1 - 2 * (re % 2)=1\/1 - 2 * (re % 2)=-1:=by lia
   have more:=mk.more hm h01;generalize 1 - 2 * (re % 2)=hh at *;generalize re / 2=re1 at *;generalize fG G' pn (.lst (uE.map enc++[D.int m]))=G3 at *;simp only [gB];simp only [gW,dC,fY];refine⟨by decide,by decide,?_⟩;unfold dB;refine gK (xs:=aY (2:Int).toNat) (fun pw τ G4=>∃ UB re,(∃ e f g,τ=[some d,some (.int k),some (.ref p0),some (.ref pn),some (.int c),some (.int m),some (.int re),some (.int hh),e,f,g])/\HR G G4 p0 as UB/\G4 pn=some (.lst ((uE++[m]).map enc))/\UB.flatten.Perm ((pw.map fun (i:Nat)=>(⟨m+1,0+(i:Int),hh⟩:T3)).reverse++rs.flatten)) ⟨rs,re1,⟨_,_,_,rfl⟩,hr1,gp1,.refl _⟩ (fun _ _ _ _=>trivial) ?_ ?_
   ·rintro pw w Zt τ G4 N3 e3 ⟨UB,Zo,⟨f1,f2,f3,rfl⟩,XI,gp3,hp3⟩ xi;have hw:w < 2:=List.mem_range.mp (show w∈aY 2 by show w∈aY (2:Int).toNat; rw [e3]; simp);simp only [aJ,ar,ai,cU,bM,a9,au,ae,aa,og,aB,bc,dC,i0,BI,iZ,aj,ay,kd,kP,fk];refine⟨by lia,?_⟩;have j1:0<=Zo % k:=dP _ (by lia);have j2:Zo % k < k:=c7 _ (by lia);generalize Zo % k=j at *;have hj:j.toNat < as.length:=by lia
    have ea:as[j.toNat]?=some as[j.toNat]:=ah hj;have er:UB[j.toNat]?=some (UB[j.toNat]'(by have:=XI.len; lia)):=ah _;generalize as[j.toNat]=a at *;generalize (UB[j.toNat]'(by have:=XI.len; lia))=r at *;have ga:=XI.at' _ _ _ ea er;refine gT (x:=.ref a) (IsL.ref XI.gp) (by
     rw [lG _ j1 (by rw [ag]; lia)];rw [dq];have:=List.getElem?_eq_some_iff.mp ea;rw [this.2]) ?_
    have hrl:r.length<=1000:=by
     have h1:=HK (dJ er);have h2:=hp3.length_eq;rw [aw,jk,ag,mk.len] at h2;have h3:=congrArg dF e3;rw [cR,aw,aj] at h3;have h4:(2:Int).toNat=2:=rfl;lia
    simp only [o7,Jd,kd,kP,ga,ag,fk,tF,true_and];refine⟨by lia,by lia,by lia,by lia,by lia,?_⟩;generalize Zo / k=re3 at *;have i1:0<=re3 % ((r.length:Int)+1):=dP _ (by lia);have i2:re3 % ((r.length:Int)+1) < (r.length:Int)+1:=c7 _ (by lia);generalize re3 % ((r.length:Int)+1)=i at *;refine⟨by decide,i1,by lia,Kx hrl,?_⟩;have ein:(r.map enc).take i.toNat++D.tup [.int (m+1),.int (0+(w:Int)),.int hh] :: (r.map enc).drop i.toNat=(r.take i.toNat++(⟨m+1,0+(w:Int),hh⟩:T3) :: r.drop i.toNat).map enc:=by
     rw [aH,av,PL,List.map_drop]; rfl
    rw [ein];have han:pn≠a:=fun z=>nas (z ▸ dJ ea);refine xi _ _ ⟨_,_,⟨_,_,_,rfl⟩,XI.put ea,by rw [fe han]; exact gp3,?_⟩;refine(Hd (Qr _ _ _) UB _ er).trans ?_;rw [aH,zO];exact .cons _ hp3
   ·rintro τ G4 ⟨UB,Zo,⟨f1,f2,f3,rfl⟩,XI,gp3,hp3⟩;refine oI _ _ ⟨⟨_,_,_,_,_,_,_,rfl⟩,UB,uE++[m],XI,⟨more.perm hp3,fun x hx=>by
     rcases List.mem_append.mp hx with hx | hx
     ·exact bn x hx
     ·rw [List.mem_singleton.mp hx]; exact bm⟩,by simp [hnl],gp3⟩
  ·rintro τ G' ⟨⟨x1,x2,x3,x4,x5,x6,x7,rfl⟩,rs,uE,hr,⟨mk,bn⟩,hnl,gpn⟩;exact hN _ _ ⟨⟨_,_,_,_,_,_,_,rfl⟩,rs,uE,hr,⟨mk,bn⟩,hnl⟩
 ·rintro _ G' ⟨⟨x1,x2,x3,x4,x5,x6,x7,rfl⟩,rs,uE,hr,⟨mk,bn⟩,hnl⟩;simp only [cT,fQ,au,ae,aa];refine hr.fz (q rs ⟨mk.nd,mk.way,mk.hand,mk.K6,by rw [mk.len]; lia,?_⟩ (fun p hp=>?_) fun z=>?_)
  ·rw [<-hr.len,hl]; lia
  ·have:=bn _ (mk.nm p hp); lia
  ·have:=hr.len;rw [z,ay] at this; lia
end xN
end K2
end
section
namespace K2
open PySem (Str)
open Enc (enc)
namespace xN
open K2.P
open K2.Gz (ic tV iJ)
open K2.Am (NB fE fC dD dM cq eq_int eR gr xx)
open K2.JH (dQ qN pQ P3 zv iK i6 vk xI sL kp In)
variable {XV:Rows}
theorem E7{n:Nat}{t:T3}(h:InT n t){p:Nat}(x:List Int):kp x (p:Int) t=decide (dot (Hq n t) x % (p:Int)=0):=by
 unfold kp Hq;obtain⟨h1,h2,h3⟩:=h;rw [Vq (by lia) (by lia) (by lia)]; rfl
theorem Mq(d:Dr XV){m:Int}(hm:m∈names XV):InT (cq XV).length (qN XV m):=by
 have:=pQ d (ns:=aI (cq XV).length 0) (by simp) hm;have a:=this.a;have b:=this.b;have c:=this.c;rw [bE] at a b c;exact⟨a,b,c⟩
def CW(XV:Rows):List T3:=(vk XV).map fun p=>qN XV p.a
theorem vj(d:Dr XV):∀ t∈CW XV,InT (cq XV).length t:=fun t ht=>by
 obtain⟨x,hx,rfl⟩:=List.mem_map.mp ht;obtain⟨h1,h2⟩:=List.mem_filter.mp hx;exact Mq d (sL d h1 (by simpa using h2))
theorem AI(d:Dr XV){p:Nat}(hp:Pr p)(x:List Int):DW p ((AJ p XV).map (·.2)) x↔DW p ((CW XV).map (Hq (cq XV).length)) x:=by
 rw [(qe hp XV).2];have h:=xI d fun t=>decide (dot (Hq (cq XV).length t) x % (p:Int)=0);have e1:DW p (((names XV).map (qN XV)).map (eqT p (cq XV).length)) x↔((names XV).map (qN XV)).all (fun t=>decide (dot (Hq (cq XV).length t) x % (p:Int)=0))=true:=by
  rw [eB];constructor
  ·intro z t ht;rw [decide_eq_true_iff];have:=z _ (aW ht);unfold eqT at this;rw [Nx] at this; exact this
  ·intro z e he;obtain⟨t,ht,rfl⟩:=List.mem_map.mp he;have:=z t ht;rw [decide_eq_true_iff] at this;unfold eqT;rw [Nx]; exact this
 have e2:DW p ((CW XV).map (Hq (cq XV).length)) x↔(CW XV).all (fun t=>decide (dot (Hq (cq XV).length t) x % (p:Int)=0))=true:=by
  rw [eB];constructor
  ·intro z t ht;rw [decide_eq_true_iff];exact z _ (aW ht)
  ·intro z e he;obtain⟨t,ht,rfl⟩:=List.mem_map.mp he;have:=z t ht;rw [decide_eq_true_iff] at this;exact this
 rw [e1,e2,h]; rfl
theorem DV(d:Dr XV){p f:Nat}(hp:Pr p)(hf:f∈frees (AJ p XV) (cq XV).length):(CW XV).all (kp (cf p (cq XV).length (AJ p XV) f) (p:Int))=true:=by
 have s:=(AI d hp _).mp (Yi (qe hp XV).1 hf);rw [eB];intro t ht;rw [E7 (vj d t ht),decide_eq_true_iff];exact s _ (aW ht)
end xN
end K2
end
section
namespace K2
open PySem (Str)
open Enc (enc)
namespace YQ
open K2.P
open K2.Am (NB fE cq eq_int eR gr)
open K2.JH (lW dQ qN pQ P3 zv eW gh kp In Sm)
open K2.xN (vs vh t6 Pr qz GX fR)
variable {XV:Rows}
theorem szm{n:Nat}(h:n<=100000):n<=SZ:=by unfold SZ; lia
def Gr(a:List Int):D:=.fx (a.map D.int)
def rD(p:Nat):D:=.fx (dB 0 p)
def WJ(a:List Int)(x:Nat):List Int:=a++[(x:Int)]
def Zi(p:Nat)(a:List Int):List (List Int):=(aY p).map (WJ a)
theorem Wn(p n:Nat):vs p (n+1)=(vs p n).flatMap (Zi p):=t6 n
theorem Ey{p:Nat}:∀ l:List (List Int),(l.flatMap (Zi p)).length=p * l.length
 | []=>by simp
 | a :: l=>by
  rw [hX,aw,Ey l,aj,Nat.mul_succ];unfold Zi;rw [ag,cR]; lia
theorem Eg{p:Nat}:∀ n,(vs p n).length=p ^ n
 | 0=>rfl
 | n+1=>by rw [Wn,Ey,Eg n,T9,Ua]
theorem Ko{p:Nat}:∀ {n:Nat} {y:List Int},y∈vs p n->qz p n y
 | 0,y,h=>by
  obtain rfl:y=[]:=by simpa [vs] using h
  exact⟨rfl,by simp⟩
 | n+1,y,h=>by
  rw [Wn] at h;obtain⟨a,ha,h⟩:=List.mem_flatMap.mp h;obtain⟨x,hx,rfl⟩:=List.mem_map.mp h;have v:=Ko ha;have:=List.mem_range.mp hx;refine⟨by unfold WJ; rw [aw,v.1]; rfl,fun z hz=>?_⟩;rcases List.mem_append.mp hz with hz | hz
  ·exact v.2 z hz
  ·obtain rfl:=List.mem_singleton.mp hz;lia
theorem nE{p k j:Nat}(hp:Pr p)(h:p ^ k<=2500)(hj:j<=k):(vs p j).length<=2500:=by
 rw [Eg];exact cw (Nat.pow_le_pow_right hp.pos hj) h
def sV:iC :=
 (cD (bM (fQ (nq (aB (nq bc) bc))) (aJ 1))
 (cD (gB (lZ (au 0)) (aJ 2) (cD (bM (nq bc) (aJ 3))
 (cD (gB (lZ (au 1)) (aJ 4) (i0 (BI Ce wX (au 3) (aB (eF 1 [4] (lZ (au 2)) (aJ 0) none (fQ (a9 se (au 1) (nq (aB (au 0) bc))))) bc))))
 (bM (fQ (au 3)) (aJ 1)))))
 (cT (fQ (au 1)))))
def iy:mw:=fun ds G Q _=>∃ p k:Nat,ds=[.fx (aI k (rD p))]/\(Pr p/\p ^ k<=2500/\k<=100)/\Q (.fx ((vs p k).map Gr)) G
theorem BP(ds:List D)(G:Gp)(Q:DK)(h:iy ds G Q fun _ _=>False):sV (fun _ _=>False) (ends Q) (bC 5 ds) G:=by
 obtain⟨p,k,rfl,⟨hp,hk,aie⟩,q⟩:=h;have p10:=GX hp;unfold sV;simp only [ends,bC,av,aX,aj,ay,aI,aO,aU,cU,bM,fQ,nq,aB,bc,aJ,ar,ai];refine⟨by decide,fun pa fa=>⟨by decide,fun pb fb=>?_⟩⟩;have la:iH G (fG (fG G pa (.lst [])) pb (.lst [.ref pa])):=(iH.new fa).trans (.new fb);have fb':G pb=none:=by
  cases e:G pb with
  | none=>rfl
  | some o=>have:=(iH.new (o:=.lst []) fa) _ _ e; rw [this] at fb; cases fb
 refine tP la fb' aM (.cons (.ref ((iH.new fb) _ _ aM) (by simp [fa]) .nil) .nil) ?_;refine fX (fun τ G'=>G=G'/\∃ a b c,τ=[some (.fx (aI k (rD p))),some (.fx ((vs p k).map Gr)),a,b,c]) ?_ ?_
 ·intro N hN;simp only [gB,fh,au,aa,ui];refine yD (fun Wp τ G'=>G=G'/\∃ a b c,τ=[some (.fx (aI k (rD p))),some (.fx ((vs p Wp.length).map Gr)),a,b,c]) ⟨rfl,_,_,_,rfl⟩ (fun _ _ _ _=>trivial) ?_ ?_
  ·rintro Wp x Uf τ G' N2 e ⟨rfl,a,b,c,rfl⟩ oI;have hx:x=rD p:=NY (n:=k) (by rw [e]; simp);have hj:Wp.length < k:=by have:=congrArg dF e; simp at this; lia
   subst hx;simp only [aJ,ar,ai,jy,bM,nq,bc,ay];refine⟨by decide,fun p3 f3=>?_⟩;simp only [gB];simp only [fh,au,ae,aa,ui];have hz:=nE hp hk (x9 hj);refine gK (xs:=vs p Wp.length) (f:=Gr) (fun Q4 τ G2=>iH G G2/\G2 p3=some (.lst ((Q4.flatMap (Zi p)).map Gr))/\∃ c,τ=[some (.fx (aI k (rD p))),some (.fx ((vs p Wp.length).map Gr)),some (rD p),some (.ref p3),c]) ⟨.new f3,aM,_,rfl⟩ (fun _ _ _ _=>trivial) ?_ ?_
   ·rintro Q4 a2 Zt τ G2 N3 e2 ⟨l2,g2,c,rfl⟩ xi;have hlp:Q4.length<=(vs p Wp.length).length:=by rw [e2]; simp
    have hal:a2.length=Wp.length:=vh (p:=p) (by rw [e2]; simp);simp only [aJ,i0,BI,au,ar,ai,ae,aa,o7,g2,aB,eF,bc,pC,fh,true_and];unfold rD dB;simp only [ui];refine⟨szm (by rw [ag,cR]; lia),?_⟩;refine gI (xs:=aY p) (f:=fun i:Nat=>D.int (0+(i:Int))) (fun pr WF τ G3=>G2=G3/\(∃ a,τ=[a,some (Gr a2)])/\WF=(pr.map (WJ a2)).map Gr) ⟨rfl,⟨_,rfl⟩,rfl⟩ (fun _ _ _ _ _=>trivial) ?_ ?_
    ·rintro pr w po WF τ G3 N4 e3 ⟨rfl,⟨a,rfl⟩,rfl⟩ hN4;unfold Gr;simp only [aJ,fQ,a9,au,Int.zero_add,ai,ae,aa,nq,aB,bc,aj,ay,sZ];refine⟨by decide,fun pc fc=>?_⟩;refine NR IsL.fx (IsL.ref aM) (szm (by rw [ag,hal]; show _+1<=100000; lia)) fun pd fd=>?_;have fd':G2 pd=none:=by
      cases e:G2 pd with
      | none=>rfl
      | some o=>have:=(iH.new (o:=.lst [.int (w:Nat)]) fc) _ _ e; rw [this] at fd; cases fd
     refine tP ((iH.new fc).trans (.new fd)) fd' aM (GA.same _) ?_;refine hN4 _ _ _ ⟨rfl,⟨_,rfl⟩,?_⟩;rw [aH,aH];unfold Gr WJ;simp only [av,aX,aH]
    ·rintro WF τ G3 ⟨rfl,⟨a,rfl⟩,rfl⟩ pc fc;have n3:p3≠pc:=fun z=>by rw [<-z,g2] at fc; cases fc
     have g3:(fG G2 pc (.lst (((aY p).map (WJ a2)).map Gr))) p3=some (.lst ((Q4.flatMap (Zi p)).map Gr)):=by rw [fe n3]; exact g2
     have lo:pD (.ref pc) (fG G2 pc (.lst (((aY p).map (WJ a2)).map Gr)))=some (((aY p).map (WJ a2)).map Gr):=by unfold pD; simp only [aM]
     simp only [g3,lo];refine⟨szm ?_,?_⟩
     ·rw [ag,ag,ag,cR,Ey];have:p * Q4.length<=9 * 2500:=Nat.mul_le_mul (by lia) (by lia);lia
     ·refine xi _ _ ⟨(l2.trans (.new fc)).put f3,?_,_,rfl⟩;rw [aM,List.flatMap_append,List.flatMap_singleton,aH]; rfl
   ·rintro τ G2 ⟨l2,g2,c,rfl⟩;simp only [bM,fQ,au,ae,aa,aJ,ar,ai];refine tP l2 f3 g2 (GA.same _) ?_;refine oI _ _ ⟨rfl,some (rD p),some (.ref p3),c,?_⟩;rw [aw,bg,Wn]
  ·rintro τ G' ⟨rfl,a,b,c,rfl⟩;rw [bE];exact hN _ _ ⟨rfl,_,_,_,rfl⟩
 ·rintro _ _ ⟨rfl,a,b,c,rfl⟩;simp only [cT,fQ,au,ae,aa];exact lA q
theorem Mm{p n:Nat}(hp:Pr p){a:List Int}(h:qz p n a):Sm a:=fun i=>by
 have:=h.el hp i;have:=GX hp;unfold xN.el at *;unfold JH.num;lia
theorem p3{p:Nat}(hp:Pr p):P3 (p:Int):=by rcases hp with rfl | rfl | rfl <;> simp [P3]
def fit(p:Nat)(ts:List T3)(y:List Int):Bool:=ts.all (kp y (p:Int))
noncomputable def cols(p:Nat)(XV:Rows):List (List Int):=(vs p (cq XV).length).filter (fit p ((names XV).map (qN XV)))
def pA:iC :=
 (cD (i0 (bW eW (aB (au 1) bc)))
 (cD (bM (og nu (aB (bW fE (aB (au 0) bc)) bc)) (aJ 2))
 (cD (mI (gL (a9 Yw (bW fR (aB (au 1) (aB (au 2) bc))) (dC (.int 2500)))) LJ eE)
 (cD (bM (bW dQ (aB (au 0) bc)) (aJ 3))
 (cD (bM (bW iy (aB (fQ (eF 1 [1] (oH (au 2)) (aJ 0) none (fQ (xu (au 1))))) bc)) (aJ 4))
 (cT (fQ (eF 1 [3,1] (lZ (au 4)) (aJ 0) (some (gL (bW gh (aB (au 1) (aB (au 2) (aB (au 0) bc)))))) (fQ (au 0))))))))))
noncomputable def jc:mw:=fun ds G Q _=>∃ (XV:Rows) (p:Nat),ds=[enc XV,.int (p:Nat)]/\(Dr XV/\NB XV/\XV≠[])/\(Pr p/\p ^ (cq XV).length<=2500)/\Q (.fx ((cols p XV).map Gr)) G
theorem xM(ds:List D)(G:Gp)(Q:DK)(h:jc ds G Q fun _ _=>False):pA (fun _ _=>False) (ends Q) (bC 5 ds) G:=by
 obtain⟨XV,p,rfl,⟨dr,nb,kX⟩,⟨hp,hle⟩,qq⟩:=h;have p0:=hp.pos;have p1:=GX hp;have bf:=gr dr;have nf:=lW dr;unfold pA;simp only [ends,bC,av,aX,aj,ay,aI,aO,aU,qg,i0,bW,aB,au,ae,aa,bc,cU,bM,og,aJ,ar,ai];refine⟨p,rfl,p3 hp,?_⟩;refine⟨XV,rfl,⟨dr,nb,kX⟩,?_⟩;refine lE (IsL.enc (cq XV)) ?_;simp only [ag,jy,eR,eE,bM,bW,aB,au,aa,bc,aJ,ar,ai,fQ,eF,cT,fh,ae,gW,fY,di,a9,dC];refine⟨p,(cq XV).length,rfl,⟨hp,by lia⟩,?_⟩;have adQ:¬ ((2500:Int) < (p:Int) ^ (cq XV).length):=by
  have:((p ^ (cq XV).length:Nat):Int)<=2500:=by exact_mod_cast hle
  rw [yc] at this;lia
 simp only [uc,gt_iff_lt,adQ,decide_false,bF,aC,if_false];refine⟨XV,rfl,⟨dr,nb,kX⟩,?_⟩;unfold cols at qq;have inn:∀ y:List Int,y.length=(cq XV).length->∀ t∈(names XV).map (qN XV),In y t:=fun y hy t ht=>by
  obtain⟨m,hm,rfl⟩:=List.mem_map.mp ht;exact pQ dr hy hm
 have ll:((names XV).map (qN XV)).length<=100:=by rw [ag]; lia
 generalize (names XV).map (qN XV)=ts at *;have hn:(cq XV).length<=100:=by lia
 generalize (cq XV).length=n at *;simp only [aZ];refine⟨by lia,by lia,B4 (by simp [dB]; lia),?_⟩;refine xA (fun Wp WF τ G'=>G=G'/\(∃ u,τ=[u,some (.int (p:Nat))])/\WF=aI Wp.length (rD p)) ⟨rfl,⟨_,rfl⟩,rfl⟩ (fun _ _ _ _ _=>trivial) ?_ ?_
 ·rintro Wp x Uf WF τ G' N e ⟨rfl,⟨u,rfl⟩,rfl⟩ hN;simp only [aJ,fQ,xu,au,ai,ae,aa,Rv,jH];refine⟨⟨by lia,by lia⟩,fun pc fc=>tP (.new fc) fc aM (GA.same _) ?_⟩;refine hN _ _ _ ⟨rfl,⟨_,rfl⟩,?_⟩;rw [aw,bg,pP]; rfl
 rintro WF τ G' ⟨rfl,⟨u,rfl⟩,rfl⟩ pa fa;refine tP (.new fa) fa aM (GA.same _) ?_;have er:(dB 0 n).length=n:=by simp [dB]
 rw [er];refine⟨p,n,rfl,⟨hp,hle,hn⟩,?_⟩;simp only [ui];have hv:=nE hp hle (aK _);refine⟨szm (by rw [ag]; lia),?_⟩;refine gI (xs:=vs p n) (f:=Gr) (fun Wp WF τ G'=>G=G'/\(∃ u,τ=[u,some (enc ts),some (.int (p:Nat))])/\WF=(Wp.filter (fit p ts)).map Gr) ⟨rfl,⟨_,rfl⟩,rfl⟩ (fun _ _ _ _ _=>trivial) ?_ ?_
 ·rintro Wp y Uf WF τ G' N e ⟨rfl,⟨u,rfl⟩,rfl⟩ hN;have v:=Ko (p:=p) (n:=n) (y:=y) (by rw [e]; simp);simp only [aJ,ai,fQ,au,aa,di,bW,aB,ae,bc];refine⟨ts,(p:Nat),Gr y,y,rfl,IsL.fx,⟨ll,by lia,Mm hp v,inn y v.1⟩,?_⟩;have ef:(Wp++[y]).filter (fit p ts)=Wp.filter (fit p ts)++(if fit p ts y=true then [y] else []):=by rw [cS,jK,i5]
  show _;cases c:ts.all (kp y (p:Int)) with
  | false =>
   have c':fit p ts y=false:=c;simp only [bF,aC,if_false];refine hN _ _ _ ⟨rfl,⟨_,rfl⟩,?_⟩;rw [ef,c',if_neg (by decide),bL]
  | true =>
   have c':fit p ts y=true:=c;simp only [bF,if_true];refine lA (hN _ _ _ ⟨rfl,⟨_,rfl⟩,?_⟩);rw [ef,if_pos c',aH]; rfl
 ·rintro WF τ G' ⟨rfl,⟨u,rfl⟩,rfl⟩ pb fb;exact tP (.new fb) fb aM (GA.same _) qq
def qh:iC :=
 (mI (gL (Po true [3,5,7] (au 0))) (BG "NoPrime" (aB (dC (.str "colourings are by 3, 5 or 7")) bc)) eE)
def jM:mw:=fun ds G Q E=>∃ p:Int,ds=[.int p]/\(P3 p->Q .dh G)/\(¬ P3 p->E ⟨"NoPrime",[]⟩ (fun _=>none))
theorem yT(ds:List D)(G:Gp)(Q:DK)(E:md)(h:jM ds G Q E):qh E (ends Q) (bC 1 ds) G:=by
 obtain⟨p,rfl,q,qx⟩:=h;unfold qh;simp only [ends,bC,av,aX,aj,ay,aO,aU,eR,eE,di,Po,au,aa,if_true,bF];refine⟨p,rfl,?_⟩;cases c:([3,5,7]:List Int).contains p with
 | false =>
  simp only [cW,if_true];unfold BG;simp only [aB,dC,bc,aj,ay];refine⟨by decide,qx fun z=>?_⟩;rw [zv.mpr z] at c; cases c
 | true =>
  simp only [bG,aC,if_false];exact q (zv.mp c)
def oz:iC :=
 (cD (i0 (LM jM (aB (au 1) bc)))
 (cD (bM (og nu (aB (bW fE (aB (au 0) bc)) bc)) (aJ 2))
 (cD (mI (gL (a9 Yw (bW fR (aB (au 1) (aB (au 2) bc))) (dC (.int 2500)))) (BG "TooMany" (aB (dC (.str "too many lists of numbers to go through")) bc)) eE)
 (cD (bM (bW dQ (aB (au 0) bc)) (aJ 3))
 (cD (bM (bW iy (aB (fQ (eF 1 [1] (oH (au 2)) (aJ 0) none (fQ (xu (au 1))))) bc)) (aJ 4))
 (cT (fQ (eF 1 [3,1] (lZ (au 4)) (aJ 0) (some (gL (bW gh (aB (au 1) (aB (au 2) (aB (au 0) bc)))))) (fQ (au 0))))))))))
noncomputable def iL:mw:=fun ds G Q E=>∃ (XV:Rows) (p:Int),ds=[enc XV,.int p]/\(Dr XV/\NB XV/\XV≠[])/\(¬ P3 p->E ⟨"NoPrime",[]⟩ (fun _=>none))/\(P3 p->∃ n:Nat,p=(n:Nat)/\Pr n/\2500 < n ^ (cq XV).length/\E ⟨"TooMany",[]⟩ (fun _=>none))
theorem vU(ds:List D)(G:Gp)(Q:DK)(E:md)(h:iL ds G Q E):oz E (ends Q) (bC 5 ds) G:=by
 obtain⟨XV,p,rfl,⟨dr,nb,kX⟩,h1,h2⟩:=h;have bf:=gr dr;unfold oz;simp only [ends,bC,av,aX,aj,ay,aI,aO,aU,qg,i0,LM,aB,au,ae,aa,bc,cU,bM,og,bW,aJ,ar,ai];refine⟨p,rfl,fun z=>?_,h1⟩;obtain⟨n,rfl,hp,mj,qx⟩:=h2 z;refine⟨XV,rfl,⟨dr,nb,kX⟩,?_⟩;refine lE (IsL.enc (cq XV)) ?_;simp only [ag,jy,eR,eE,bM,bW,aB,au,aa,bc,aJ,ar,ai,fQ,eF,cT,fh,ae,gW,fY,di,a9,dC];refine⟨n,(cq XV).length,rfl,⟨hp,by lia⟩,?_⟩;have adO:(2500:Int) < (n:Int) ^ (cq XV).length:=by
  have:(2500:Int) < ((n ^ (cq XV).length:Nat):Int):=by exact_mod_cast mj
  rwa [yc] at this
 simp only [uc,gt_iff_lt,adO,decide_true,bF,if_true];unfold BG;simp only [aB,dC,bc,aj,ay];exact⟨by decide,qx⟩
end YQ
end K2
end
section
namespace K2
open PySem (Str)
open Enc (enc)
namespace YQ
open K2.P
open K2.Am (NB fE cq eq_int eR gr xx)
open K2.JH (lW dQ qN pQ P3 zv gh iK kp In Sm)
open K2.xN (vs vh t6 Pr qz GX fR kN sF)
variable {XV:Rows}
def sW:iC :=
 (cD (bM (dC .dh) (aJ 2))
 (cD (NH iL (aB (au 0) (aB (au 1) bc)) 3 ["NoPrime","TooMany"] (bM (au 3) (aJ 2)))
 (cT (fQ (iZ (aB (IS ["NoPrime","TooMany"] ["NoPrime"] (au 2)) (aB (IS ["NoPrime","TooMany"] ["TooMany"] (au 2)) bc)))))))
noncomputable def jx:mw:=fun ds G Q _=>∃ (XV:Rows) (p:Int),ds=[enc XV,.int p]/\(Dr XV/\NB XV/\XV≠[])/\(¬ P3 p->Q (.tup [.bl true,.bl false]) G)/\(P3 p->∃ n:Nat,p=(n:Nat)/\Pr n/\2500 < n ^ (cq XV).length/\Q (.tup [.bl false,.bl true]) G)
theorem BQ(ds:List D)(G:Gp)(Q:DK)(h:jx ds G Q fun _ _=>False):sW (fun _ _=>False) (ends Q) (bC 4 ds) G:=by
 obtain⟨XV,p,rfl,hr,h1,h2⟩:=h;unfold sW;simp only [ends,bC,av,aX,aj,ay,aI,aO,aU,cU,bM,dC,aJ,ar,ai];have e1:(["NoPrime","TooMany"]:List Str).contains "NoPrime" = true:=by decide
 have e2:(["NoPrime"]:List Str).contains "NoPrime" = true:=by decide
 have e3:(["TooMany"]:List Str).contains "NoPrime" = false:=by decide
 have f1:(["NoPrime","TooMany"]:List Str).contains "TooMany" = true:=by decide
 have f2:(["NoPrime"]:List Str).contains "TooMany" = false:=by decide
 have f3:(["TooMany"]:List Str).contains "TooMany" = true:=by decide
 by_cases c:P3 p
 ·obtain⟨n,rfl,hn,mj,q⟩:=h2 c;refine fX (fun τ G'=>G=G'/\τ=[some (enc XV),some (.int (n:Nat)),some (.exc "TooMany"),none]) ?_ ?_
  ·intro N hN;simp only [NH,aB,au,aa,ae,bc,bM,ar,ai,aJ];exact⟨XV,_,rfl,hr,fun z=>absurd c z,fun _=>⟨n,rfl,hn,mj,f1,hN _ _ ⟨rfl,rfl⟩⟩⟩
  ·rintro _ _ ⟨rfl,rfl⟩;simp only [cT,fQ,iZ,aB,IS,au,ae,aa,f1,bc,f2,f3,aj,ay,true_and];exact⟨by decide,lA q⟩
 ·refine fX (fun τ G'=>G=G'/\τ=[some (enc XV),some (.int p),some (.exc "NoPrime"),none]) ?_ ?_
  ·intro N hN;simp only [NH,aB,au,aa,ae,bc,bM,ar,ai,aJ];exact⟨XV,_,rfl,hr,fun _=>⟨e1,hN _ _ ⟨rfl,rfl⟩⟩,fun z=>absurd z c⟩
  ·rintro _ _ ⟨rfl,rfl⟩;simp only [cT,fQ,iZ,aB,IS,au,ae,aa,e1,bc,e2,e3,aj,ay,true_and];exact⟨by decide,lA (h1 c)⟩
def ltI(a b:List Int):Bool:=cg.lt a b
def Ris:List (List Int)->Prop
 | a :: b :: l=>ltI a b=true/\Ris (b :: l)
 | _=>True
theorem QN:∀ {Wp:List (List Int)} {a b:List Int} {Uf:List (List Int)},Ris (Wp++a :: b :: Uf)->ltI a b=true
 | [],_,_,_,h=>h.1
 | [x],_,_,_,h=>h.2.1
 | x :: y :: Wp,_,_,_,h=>QN (Wp:=y :: Wp) h.2
theorem QL{F:List (List Int)}(h:Ris F){Wp Uf:List (List Int)}{y:List Int}(e:F=Wp++y :: Uf)(hp:0 < Wp.length):∃ x,F[Wp.length - 1]?=some x/\ltI x y=true:=by
 obtain⟨pr,x,rfl⟩:∃ pr x,Wp=pr++[x]:=by
  cases z:Wp.reverse with
  | nil=>rw [List.reverse_eq_nil_iff] at z; subst z; cases hp
  | cons x r=>exact⟨r.reverse,x,by rw [<-List.reverse_reverse Wp,z,List.reverse_cons]⟩
 subst e;refine⟨x,?_,QN (Wp:=pr) (Uf:=Uf) (by simpa using h)⟩;simp
def uX:iC :=
 (cD (mI (vO (gL (Pn "list" (au 0)))) (cT (fQ (dC (.bl false)))) eE)
 (cD (gB (tJ (au 0)) (nO (fK (aJ 4) (fK (aJ 5) ng))) (cD (mI (SQ (vO (gL (bW kN (aB (au 5) (aB (au 2) (aB (au 3) bc)))))) (vO (gL (bW iK (aB (au 1) (aB (au 3) (aB (au 5) bc))))))) (cT (fQ (dC (.bl false)))) eE)
 (mI (IU (gL (a9 Yw (au 4) (dC (.int 0)))) (vO (gL (a9 WW (a9 ky (au 0) (a9 vo (au 4) (dC (.int 1)))) (au 5))))) (cT (fQ (dC (.bl false)))) eE)))
 (cT (fQ (dC (.bl true))))))
def mf:mw:=fun ds G Q _=>∃ (p n:Nat) (F:List (List Int)) (ts:List T3),ds=[enc F,enc ts,.int (n:Nat),.int (p:Nat)]/\(Pr p/\n<=100/\F.length<=2500)/\((∀ y∈F,qz p n y/\ts.all (kp y (p:Int))=true)/\Ris F)/\(ts.length<=100/\∀ y:List Int,y.length=n->∀ t∈ts,In y t)/\Q (.bl true) G
theorem Nu:∀ (a:List (List Int)) (k:Nat),lC k (a.map (enc:List Int->D))=(a.zipIdx k).map fun x=>.tup [.int (x.2:Nat),enc x.1]
 | [],_=>rfl
 | a :: as,k=>by
  rw [av,o6,av,lC,Nu as (k+1)]
theorem GQ:∀ {a:List (List Int)} {k:Nat} {Wp Uf:List (List Int×Nat)} {x:List Int×Nat},a.zipIdx k=Wp++x :: Uf->x.2=k+Wp.length/\∃ p2,a=Wp.map (·.1)++x.1 :: p2
 | [],k,Wp,Uf,x,h=>by cases Wp <;> cases h
 | b :: a,k,[],Uf,x,h=>by
  rw [o6] at h;cases h;exact⟨rfl,a,rfl⟩
 | b :: a,k,y :: Wp,Uf,x,h=>by
  rw [o6] at h;injection h with h1 h2
  obtain⟨e1,p2,e2⟩:=GQ h2;subst h1;exact⟨by rw [e1,aj]; lia,p2,by rw [e2]; rfl⟩
theorem CJ(ds:List D)(G:Gp)(Q:DK)(h:mf ds G Q fun _ _=>False):uX (fun _ _=>False) (ends Q) (bC 6 ds) G:=by
 obtain⟨p,n,F,ts,rfl,⟨hp,hn,hF⟩,⟨hv,hr⟩,⟨ht,R7⟩,qq⟩:=h;have p0:=hp.pos;unfold uX;rw [jy,eR];simp only [vO,bC,av,aX,aj,ay,aI,aO,aU,cT,fQ,dC,ends,eE,di,xw,au,aa];refine Nc (IsL.enc F) ?_;simp only [bF];rw [if_neg (by simp)];refine fX (fun τ G'=>G=G'/\∃ a b,τ=[some (enc F),some (enc ts),some (.int (n:Nat)),some (.int (p:Nat)),a,b]) ?_ ?_
 ·intro N hN;simp only [gB,tJ,au,aa];refine mC ?_;rw [Nu];refine gK (xs:=F.zipIdx 0) (fun Wp τ G'=>G=G'/\∃ a b,τ=[some (enc F),some (enc ts),some (.int (n:Nat)),some (.int (p:Nat)),a,b]) ⟨rfl,_,_,rfl⟩ (fun _ _ _ _=>trivial) ?_ ?_
  ·rintro Wp ⟨y,j⟩ Uf τ G' N2 e ⟨rfl,a,b,rfl⟩ oI;obtain⟨e1,p2,e2⟩:=GQ e;obtain rfl:j=Wp.length:=by simpa using e1
   have hy:y∈F:=by rw [e2]; simp
   obtain⟨v,hk⟩:=hv y hy;simp only [nO,fK,aJ,ng,ar,ai,jy,eR,SQ,vO,cT,fQ,dC,eE,IU,di,a9,au,aa,ae,iX,aC,if_false,uc,bF,if_true,bW,aB,bc];refine⟨p,n,y,rfl,⟨v,hn⟩,?_⟩;simp only [bF,bG,aC,if_false];refine⟨ts,(p:Nat),_,y,rfl,IsL.enc y,⟨ht,by lia,Mm hp v,R7 y v.1⟩,?_⟩;rw [hk];simp only [bF,bG,aC,if_false];by_cases c:Wp.length=0
   ·rw [decide_eq_false (by lia)];simp only [aC,if_false];exact oI _ _ ⟨rfl,_,_,rfl⟩
   ·rw [decide_eq_true (by lia)];simp only [if_true];obtain⟨x,ex,hx⟩:=QL hr e2 (by rw [ag]; lia);rw [ag] at ex;have Gv:pL (F.map enc) ((Wp.length:Int) - 1)=some (enc x):=by
     have h1:Wp.length - 1 < F.length:=by
      rcases Nat.lt_or_ge (Wp.length - 1) F.length with z | z
      ·exact z
      ·rw [dW z] at ex; cases ex
     rw [show (Wp.length:Int) - 1=((Wp.length - 1:Nat):Int) by lia,lG _ (by lia) (by rw [ag]; lia)];rw [ah h1] at ex;cases ex;simp only [dq,aZ]
    refine gT (IsL.enc F) Gv ?_;refine QW (by decide) ?_;rw [show cg.lt x y=true from hx];simp only [bF,bG,aC,if_false];exact oI _ _ ⟨rfl,_,_,rfl⟩
  ·rintro τ G' ⟨rfl,a,b,rfl⟩;exact hN _ _ ⟨rfl,_,_,rfl⟩
 ·rintro _ _ ⟨rfl,a,b,rfl⟩;simp only [cT,fQ,dC];exact lA qq
def Jj(p:Nat)(a b:List Int):List Int:=(a.zip b).map fun x=>(x.1+x.2) % (p:Int)
def uY:iC :=
 (cD (gB (lZ (CB (au 0) gM (qw (dC (.int 4))))) (aJ 3) (gB (lZ (au 1)) (aJ 4) (cD (Vs 5 (bM (eF 2 [2] (Lf (au 3) (au 4)) (nO (fK (aJ 0) (fK (aJ 1) ng))) none (a9 mW (a9 se (au 0) (au 1)) (au 2))) (aJ 5)))
 (mI (gL (a9 (KO true) (au 5) (au 0))) (cT (fQ (dC (.bl false)))) eE))))
 (cT (fQ (dC (.bl true)))))
def mh:mw:=fun ds G Q _=>∃ (p n:Nat) (F S:List (List Int)),ds=[enc F,enc S,.int (p:Nat)]/\(Pr p/\n<=100)/\((∀ y∈F,qz p n y)/\(∀ y∈S,qz p n y)/\∀ y∈F,∀ z∈S,Jj p y z∈F)/\∀ G',Q (.bl true) G'
theorem CK(ds:List D)(G:Gp)(Q:DK)(h:mh ds G Q fun _ _=>False):uY (fun _ _=>False) (ends Q) (bC 6 ds) G:=by
 obtain⟨p,n,F,S,rfl,⟨hp,hn⟩,⟨hF,hS,aeb⟩,qq⟩:=h;have p0:=hp.pos;unfold uY;refine fX (fun τ G'=>∃ a b c,τ=[some (enc F),some (enc S),some (.int (p:Nat)),a,b,c]) ?_ ?_
 ·intro N hN;simp only [gB,bC,av,aX,aj,ay,aI,aO,aU,ends,fh,CB,au,aa,gM,ko,dC,gU];intro p1 h1;refine RQ (IsL.ref aM) fun ok cB=>?_;rw [uo] at cB ⊢;refine gK (xs:=cut F none (some 4)) (fun Wp τ G'=>∃ a b c,τ=[some (enc F),some (enc S),some (.int (p:Nat)),a,b,c]/\iH (fG G p1 (GO.lst ((cut F none (some 4)).map enc))) G') ⟨_,_,_,rfl,iH.refl _⟩ (fun _ _ G' h=>let ⟨_,_,_,_,z⟩:=h; cB _ z) ?_ ?_
  ·rintro Wp y Uf τ G2 N2 e ⟨a,b,c,rfl,l2⟩ oI;have hy:y∈F:=by
    have:y∈cut F none (some 4):=by rw [e]; simp
    exact List.mem_of_mem_drop (List.mem_of_mem_take this)
   simp only [aJ,gB,ar,ai,fh,au,ae,aa];refine iO ?_;refine gK (xs:=S) (fun Wp τ G'=>G2=G'/\∃ b c,τ=[some (enc F),some (enc S),some (.int (p:Nat)),some (enc y),b,c]) ⟨rfl,_,_,rfl⟩ (fun _ _ _ _=>trivial) ?_ ?_
   ·rintro pr z po τ G3 N3 e3 ⟨rfl,b,c,rfl⟩ xi;have hz:z∈S:=by rw [e3]; simp
    have vy:=hF y hy;have vz:=hS z hz;simp only [aJ,ar,ai,jy,xx,bM,eF,ae,aa,eR,cT,fQ,dC,eE,di,a9,au];simp only [Lf,au,ae,aa];refine Dx (IsL.enc y) (IsL.enc z) fun ok2 adH=>?_;rw [show y.map (enc:Int->D)=y.map D.int from rfl,show z.map (enc:Int->D)=z.map D.int from rfl,sF];refine⟨B4 (by rw [ag,qB,vy.1,vz.1]; lia),?_⟩;refine gI (xs:=y.zip z) (fun Wp WF τ G'=>G2=G'/\(∃ u v,τ=[u,v,some (.int (p:Nat))])/\WF=(Wp.map fun x=>(x.1+x.2) % (p:Int)).map D.int) ⟨rfl,⟨_,_,rfl⟩,rfl⟩ (fun _ _ _ G' h=>adH _ (h.1 ▸ iH.refl _)) ?_ ?_
    ·rintro Wp x Uf WF τ G' N e ⟨rfl,⟨u,v,rfl⟩,rfl⟩ hN;simp only [nO,fK,aJ,ng,a9,au,ai,ar,aa,ae,kd,fk];refine⟨by lia,hN _ _ _ ⟨rfl,⟨_,_,rfl⟩,?_⟩⟩;rw [aH,aH]; rfl
    ·rintro WF τ G' ⟨rfl,⟨u,v,rfl⟩,rfl⟩ pa fa;refine jF (xs:=Jj p y z) (.new fa) fa aM ?_;refine UH (by decide) ?_;have hm:=aeb y hy z hz;simp only [hm,decide_true,bG,if_true,bF,aC,if_false];exact xi _ _ ⟨rfl,_,_,rfl⟩
   ·rintro τ G3 ⟨rfl,b,c,rfl⟩;exact oI _ _ ⟨_,_,_,rfl,l2⟩
  ·rintro τ G2 ⟨a,b,c,rfl,l2⟩;exact hN _ _ ⟨_,_,_,rfl⟩
 ·rintro _ G' ⟨a,b,c,rfl⟩;simp only [cT,fQ,dC,ends];exact lA (qq _)
end YQ
end K2
end
section
namespace K2
open PySem (Str)
open Enc (enc)
namespace YQ
open K2.P
open K2.Gz (ic tV)
open K2.Am (NB fE cq eq_int eR gr xx dM)
open K2.JH (lW dQ qN pQ P3 zv gh iK kp In Sm i6 vk xI sL num)
open K2.xN (vs vh t6 Pr qz GX fR kN sF E7 Mq CW vj AI DV Je AJ qe frees cf SY qk Red MF DW dot Hq InT oq gG jN mz)
variable {XV:Rows}
theorem MY{a b:Int}{x y:List Int}:ltI (a :: x) (b :: y)=if a=b then ltI x y else decide (a < b):=rfl
theorem VJ{p:Nat}:∀ n,(vs p n).Pairwise fun x y=>ltI x y=true
 | 0=>uP _ _
 | n+1=>by
  show ((aY p).flatMap fun a:Nat=>(vs p n).map ((a:Int) :: ·)).Pairwise _;rw [List.pairwise_flatMap];refine⟨fun a _=>?_,?_⟩
  ·rw [hV];refine(VJ n).imp fun h=>?_;rw [MY,if_pos rfl]; exact h
  ·refine List.pairwise_lt_range.imp fun {a b} h x hx y hy=>?_;obtain⟨x',_,rfl⟩:=List.mem_map.mp hx;obtain⟨y',_,rfl⟩:=List.mem_map.mp hy;rw [MY,if_neg (by lia),decide_eq_true_iff]; lia
theorem QM:∀ {l:List (List Int)},l.Pairwise (fun x y=>ltI x y=true)->Ris l
 | [],_=>trivial
 | [_],_=>trivial
 | a :: b :: l,h=>by
  rw [List.pairwise_cons] at h;exact⟨h.1 b (by simp),QM h.2⟩
theorem Rp{p:Nat}:∀ {n:Nat} {y:List Int},qz p n y->y∈vs p n
 | 0,y,h=>by
  obtain rfl:=List.length_eq_zero_iff.mp h.1;simp [vs]
 | n+1,[],h=>by cases h.1
 | n+1,a :: y,h=>by
  have ha:=h.2 a (by simp);show a :: y∈(aY p).flatMap fun a:Nat=>(vs p n).map ((a:Int) :: ·);rw [List.mem_flatMap];refine⟨a.toNat,List.mem_range.mpr (by lia),List.mem_map.mpr ⟨y,Rp ⟨by simpa using h.1,fun v hv=>h.2 v (by simp [hv])⟩,?_⟩⟩;rw [qI ha.1]
theorem Fq(d:Dr XV)(p:Nat)(y:List Int):fit p ((names XV).map (qN XV)) y=(CW XV).all (kp y (p:Int)):=xI d _
theorem Vl(d:Dr XV){p:Nat}(hp:Pr p)(y:List Int):fit p ((names XV).map (qN XV)) y=true↔DW p ((AJ p XV).map (·.2)) y:=by
 rw [Fq d,AI d hp,eB];constructor
 ·intro z e he;obtain⟨t,ht,rfl⟩:=List.mem_map.mp he;have:=z t ht
  rwa [E7 (vj d t ht),decide_eq_true_iff] at this
 ·intro z t ht;rw [E7 (vj d t ht),decide_eq_true_iff];exact z _ (aW ht)
theorem SV(d:Dr XV){p:Nat}(hp:Pr p):(cols p XV).length=p ^ (Je p XV).length:=by
 have h:=MF hp (qe hp XV).1;unfold cols Je;rw [<-List.countP_eq_length_filter,ag,<-h];refine tZ fun y _=>?_;rw [Vl d hp,decide_eq_true_iff]
theorem A7{p:Nat}{n:Nat}{y z:List Int}(hy:y.length=n)(hz:z.length=n)(i:Int):num (Jj p y z) i=(num y i+num z i) % (p:Int):=by
 have e:Jj p y z=xR (fun a b=>(a+b) % (p:Int)) y z:=by
  unfold Jj;rw [<-nW]; rfl
 rw [e];exact xN.Sz (f:=fun a b=>(a+b) % (p:Int)) (by simp) (by lia) i
theorem Tc{p n:Nat}(hp:Pr p){y z:List Int}(hy:qz p n y)(hz:qz p n z):qz p n (Jj p y z):=by
 have p0:=hp.pos;refine⟨by unfold Jj; rw [ag,qB,hy.1,hz.1,Nat.min_self],fun v hv=>?_⟩;obtain⟨x,_,rfl⟩:=List.mem_map.mp hv;exact⟨dP _ (by lia),c7 _ (by lia)⟩
theorem Td{p n:Nat}{y z:List Int}(hy:y.length=n)(hz:z.length=n){ts:List T3}(h1:fit p ts y=true)(h2:fit p ts z=true):fit p ts (Jj p y z)=true:=by
 unfold fit at *;rw [eB] at *;intro t ht;have a:=h1 t ht;have b:=h2 t ht;unfold kp at *;rw [decide_eq_true_iff] at *;rw [A7 hy hz,A7 hy hz,A7 hy hz];generalize num y t.a=a1 at *; generalize num y t.b=a2 at *; generalize num y t.c=a3 at *;generalize num z t.a=b1 at *; generalize num z t.b=b2 at *; generalize num z t.c=b3 at *;have e:(2 * ((a1+b1) % (p:Int)) - (a2+b2) % (p:Int) - (a3+b3) % (p:Int)) % (p:Int)=((2 * a1 - a2 - a3)+(2 * b1 - b2 - b3)) % (p:Int):=by
  rw [oW,oW (2 * _),fP,zC _ (Ue _),zC _ (Ue _),zC _ (Ue _),<-fP,<-oW (2 * _),<-oW];congr 1; lia
 rw [e,jm,a,b]; rfl
theorem SU(d:Dr XV){p:Nat}{y:List Int}:y∈cols p XV↔qz p (cq XV).length y/\fit p ((names XV).map (qN XV)) y=true:=by
 unfold cols;rw [xS];exact⟨fun h=>⟨Ko h.1,h.2⟩,fun h=>⟨Rp h.1,h.2⟩⟩
theorem NN(d:Dr XV){p:Nat}(hp:Pr p){z:List Int}(hz:z∈Je p XV):qz p (cq XV).length z/\fit p ((names XV).map (qN XV)) z=true:=by
 obtain⟨f,hf,rfl⟩:=List.mem_map.mp hz;exact⟨SY hp (qe hp XV).1 (qk.mp hf).1,by rw [Fq d]; exact DV d hp hf⟩
theorem FR(d:Dr XV)(p:Nat):(Je p XV).length<=100:=by
 have:=gr d;unfold Je frees;rw [ag];refine cw (dU _ _) ?_;rw [cR]; lia
noncomputable def WI:mw:=C0
def QR:iC :=
 (cD (bM (bW ic (aB (au 0) (aB (dC (.int 0)) bc))) (aJ 1))
 (cD (bM (bW mz (aB (CB (au 0) (qw (dC (.int 1))) (qw (a9 se (dC (.int 1)) (a9 mW (a9 u3 (au 1) (dC (.int 3))) (dC (.int 8)))))) (aB (a9 se (dC (.int 1)) (a9 mW (a9 u3 (au 1) (dC (.int 24))) (dC (.int 3)))) bc))) (aJ 2))
 (cD (Vs 3 (bM (eF 1 [] (lZ (au 2)) (aJ 0) none (fQ (og BK (aB (au 0) bc)))) (aJ 3)))
 (cD (bM (og nu (aB (bW dM (aB (au 2) bc)) bc)) (aJ 4))
 (cD (bM (a9 vo (a9 mW (bW ic (aB (au 0) (aB (dC (.int 1)) bc))) (dC (.int 2001))) (dC (.int 1000))) (aJ 5))
 (cD (mI (IU (gL (a9 (A1 false) (a9 mW (a9 u3 (au 1) (dC (.int 72))) (dC (.int 8))) (dC (.int 5)))) (gL (a9 (KO true) (au 5) (iZ (aB (dC (.int 3)) (aB (dC (.int 5)) (aB (dC (.int 7)) bc))))))) (cT (fQ (a9 (A1 false) (bW jx (aB (au 3) (aB (au 5) bc))) (iZ (aB (dC (.bl true)) (aB (dC (.bl false)) bc)))))) eE)
 (cD (bM (a9 ky (iZ (aB (dC (.int 3)) (aB (dC (.int 5)) (aB (dC (.int 7)) bc)))) (a9 mW (au 1) (dC (.int 3)))) (aJ 6))
 (cD (mI (gL (a9 Yw (bW jN (aB (au 6) (aB (au 4) bc))) (dC (.int 2500)))) (cT (fQ (a9 (A1 false) (bW jx (aB (au 3) (aB (au 6) bc))) (iZ (aB (dC (.bl false)) (aB (dC (.bl true)) bc)))))) eE)
 (cD (bM (bW jc (aB (au 3) (aB (au 6) bc))) (aJ 7))
 (cD (mI (SQ (gL (a9 (A1 true) (au 3) (au 2))) (vO (gL (bW mf (aB (au 7) (aB (bW i6 (aB (au 2) bc)) (aB (au 4) (aB (au 6) bc)))))))) (cT (fQ (dC (.bl false)))) eE)
 (cD (bM (bW oq (aB (au 3) (aB (au 6) bc))) (aJ 8))
 (cD (mI (SQ (gL (a9 (A1 true) (og nu (aB (au 7) bc)) (bW gG (aB (au 3) (aB (au 6) bc))))) (gL (a9 (A1 true) (og nu (aB (au 7) bc)) (bW jN (aB (au 6) (aB (og nu (aB (au 8) bc)) bc)))))) (cT (fQ (dC (.bl false)))) eE)
 (cT (fQ (bW mh (aB (au 7) (aB (au 8) (aB (au 6) bc))))))))))))))))))
theorem Yr(ds:List D)(G:Gp)(Q:DK)(h:WI ds G Q fun _ _=>False):QR (fun _ _=>False) (ends Q) (bC 9 ds) G:=by
 obtain⟨ns,rfl,hl,hG,q⟩:=h;unfold QR;simp only [ends,bC,av,aX,aj,ay,aI,aO,aU,cU,bM,bW,aB,au,aa,dC,bc,aJ,ar,ai,CB,a9,ae,EK,ko,gU];refine⟨ns,0,rfl,JW _,?_⟩;generalize tV ns 0=fi;simp only [kP,fk,kd,gU];rw [uo];have m1:=dP (fi / 3) (show (8:Int)≠0 by decide);have m2:=c7 (fi / 3) (show (0:Int) < 8 by decide);have n1:=dP (fi / 24) (show (3:Int)≠0 by decide);have n2:=c7 (fi / 24) (show (0:Int) < 3 by decide);generalize fi / 3 % 8=mn at m1 m2;refine⟨by decide,by decide,by decide,fun p1 h1=>⟨by decide,by decide,by decide,.ref p1,cut ns (some 1) (some (1+mn)),_,rfl,IsL.ref aM,⟨?_,by lia,by lia⟩,fun XV dr nb kX=>?_⟩⟩
 ·unfold cut;refine cw (List.length_take_le _ _) ?_;show (if 1+mn < 0 then (1+mn+(ns.length:Int)).toNat else min (1+mn).toNat ns.length) - min 1 ns.length<=12;rw [if_neg (by lia)];lia
 generalize fG G p1 (.lst ((cut ns (some 1) (some (1+mn))).map D.int))=G2;have ahd:=dr.str;have bf:=gr dr;simp only [jy,xx,bM,eF,aJ,ar,ai,ae,aa,og,aB,bW,au,bc,a9,dC,fh];refine iO ⟨B4 (by rw [ag]; lia),?_⟩;refine gI (xs:=XV) (fun Wp WF τ G'=>G2=G'/\(∃ a,τ=[a])/\WF=Wp.map enc) ⟨rfl,⟨_,rfl⟩,rfl⟩ (fun _ _ _ _ _=>trivial) ?_ ?_
 ·rintro Wp r Uf WF τ G' N e ⟨rfl,⟨a,rfl⟩,rfl⟩ hN;simp only [aJ,fQ,og,aB,au,ai,aa,bc];refine S1 (IsL.enc r) fun p3 h3=>?_;refine jF (.new h3) h3 aM ?_;exact hN _ _ _ ⟨rfl,⟨_,rfl⟩,by simp⟩
 rintro WF τ G' ⟨rfl,⟨a,rfl⟩,rfl⟩ p3 h3;refine jF (xs:=XV) (.new h3) h3 aM ?_;clear h3 p3 a;refine⟨XV,rfl,⟨dr,nb,kX⟩,?_⟩;refine lE (IsL.enc (cq XV)) ?_;rw [ag];refine⟨ns,1,rfl,by decide,by decide,?_⟩;simp only [iX];generalize tV ns 1 % 2001 - 1000=odd;rw [eR];have test:∀ R:Bool->Gp->Prop,(¬ P3 odd->R true G2)->R false G2->IU (gL (a9 (A1 false) (a9 mW (a9 u3 (au 1) (dC (.int 72))) (dC (.int 8))) (dC (.int 5)))) (gL (a9 (KO true) (au 5) (iZ (aB (dC (.int 3)) (aB (dC (.int 5)) (aB (dC (.int 7)) bc)))))) (fun _ _=>False) [some (.fx (ns.map D.int)),some (.int fi),some (enc XV),some (enc XV),some (.int ((cq XV).length:Int)),some (.int odd),none,none,none] G2 R:=by
  intro R hT hF;simp only [IU,di,a9,au,ae,aa,iZ,aB,dC,bc,aj,ay,kP,fk];refine⟨by decide,by decide,by decide,_,_,.int _,.int _,?_⟩;rw [eq_int];by_cases c1:fi / 72 % 8=5
  ·simp only [aC,c1,decide_true,bG,if_false,bF,if_true];refine⟨by decide,.int odd,[.int 3,.int 5,.int 7],.int _,.zh (.int _) (.zh (.int _) (.zh (.int _) .EG)),?_⟩;have e:([D.int 3,D.int 5,D.int 7].any fun x=>jf x (.int odd))=([3,5,7]:List Int).contains odd:=by
    simp only [kL,List.any_nil,eq_int,rZ,List.contains_nil,Bool.or_false];have:∀ i:Int,(odd == i)=decide (i=odd):=fun i=>by
     rw [show (odd == i)=decide (odd=i) from rfl];by_cases z:odd=i
     ·rw [z]
     ·rw [decide_eq_false z,decide_eq_false fun y=>z y.symm]
    rw [this,this,this]
   rw [e];cases hc:([3,5,7]:List Int).contains odd with
   | true =>
    simp only [bG,if_true,bF];exact hF
   | false =>
    simp only [cW,if_true,bF];exact hT fun z=>by rw [zv.mpr z] at hc; cases hc
  ·simp only [aC,c1,decide_false,cW,if_false,bF];exact hF
 have two:∀ (a b:Bool) (G':Gp),A1 false (.tup [.bl a,.bl b]) (.tup [.bl a,.bl b]) G' fun d G1=>TZ G1 d Q:=fun a b G'=>by
  refine⟨.tup [.bl a,.bl b],.tup [.bl a,.bl b],.om (.bl _) (.om (.bl _) .Er),.om (.bl _) (.om (.bl _) .Er),?_⟩;rw [show jf (.tup [.bl a,.bl b]) (.tup [.bl a,.bl b])=true from by cases a <;> cases b <;> rfl];exact lA (q _)
 refine test _ (fun R4=>?_) ?_
 ·rw [if_pos rfl];simp only [cT,fQ,a9,bW,aB,au,ae,aa,bc,iZ,dC,aj,ay];refine⟨XV,odd,rfl,⟨dr,nb,kX⟩,fun _=>?_,fun z=>absurd z R4⟩;exact⟨by decide,two _ _ _⟩
 rw [if_neg eV];simp only [eE,jy,bM,a9,iZ,aB,dC,bc,aj,ay,au,ae,aa,aJ,ar,ai,fk,iz];have i1:=dP fi (show (3:Int)≠0 by decide);have i2:=c7 fi (show (0:Int) < 3 by decide);generalize fi % 3=ii at i1 i2;obtain⟨p,hp,ha⟩:∃ p:Nat,Pr p/\pL [D.int 3,D.int 5,D.int 7] ii=some (.int (p:Nat)):=by
  have:ii=0\/ii=1\/ii=2:=by lia
  rcases this with rfl | rfl | rfl
  ·exact⟨3,.inl rfl,rfl⟩
  ·exact⟨5,.inr (.inl rfl),rfl⟩
  ·exact⟨7,.inr (.inr rfl),rfl⟩
 have p0:=hp.pos;rw [ha];refine⟨by decide,by decide,?_⟩;dsimp only;rw [eR];simp only [cT,fQ,a9,bW,aB,au,ae,aa,bc,iZ,dC,aj,ay,eE,cU,bM,aJ,ar,ai,di];refine⟨p,(cq XV).length,rfl,⟨hp,by lia⟩,?_⟩;simp only [uc,gt_iff_lt,bF];have cst:((p ^ (cq XV).length:Nat):Int)=(p:Int) ^ (cq XV).length:=yc _ _;by_cases c:2500 < p ^ (cq XV).length
 ·rw [decide_eq_true (by lia)];simp only [if_true];refine⟨XV,(p:Nat),rfl,⟨dr,nb,kX⟩,fun z=>absurd (p3 hp) z,fun _=>⟨p,rfl,hp,c,?_⟩⟩;exact⟨by decide,two _ _ _⟩
 rw [decide_eq_false (by lia)];simp only [aC,jy,if_false];refine⟨XV,p,rfl,⟨dr,nb,kX⟩,⟨hp,by lia⟩,?_⟩;dsimp only;rw [eR];simp only [SQ,cT,fQ,dC,eE,cU,bM,bW,aB,au,ae,aa,bc,aJ,ar,ai,if_true,vO,di,a9];refine MN (by decide) ?_;simp only [decide_true,bG,if_true,bF,aC,if_false];refine⟨XV,rfl,⟨dr,nb,kX⟩,?_⟩;have cm:=fun y=>SU dr (p:=p) (y:=y);have cl:=SV dr hp;have bl:=FR dr p;have fl:(cols p XV).length<=2500:=by
  unfold cols;refine cw (dU _ _) ?_;rw [Eg]; lia
 have ul:(CW XV).length<=100:=by
  unfold CW vk;rw [ag];have:=dU (fun p:T3=>p.b == 1) XV.flatten;have:=dr.nE;lia
 refine⟨p,(cq XV).length,cols p XV,CW XV,rfl,⟨hp,by lia,fl⟩,⟨fun y hy=>?_,QM ((VJ _).filter _)⟩,⟨ul,fun y hy t ht=>?_⟩,?_⟩
 ·obtain⟨v,f⟩:=(cm y).mp hy;rw [Fq dr] at f;exact⟨v,f⟩
 ·obtain⟨h1,h2,h3⟩:=vj dr t ht;exact⟨by rw [hy]; exact h1,by rw [hy]; exact h2,by rw [hy]; exact h3⟩
 simp only [bF,bG,aC,if_false];refine⟨XV,p,rfl,⟨dr,nb,kX⟩,hp,?_⟩;dsimp only;rw [jy,eR];simp only [SQ,cT,fQ,dC,eE,bW,aB,au,ae,aa,bc,if_true,di,a9,og,xE];refine⟨XV,p,rfl,⟨dr,nb,kX⟩,hp,?_⟩;refine⟨_,_,.int _,.int _,?_⟩;have aaM:((p ^ (Je p XV).length:Nat):Int)=(p:Int) ^ (Je p XV).length:=yc _ _;rw [eq_int,ag,cl,decide_eq_true aaM];simp only [bG,if_true,bF,aC,if_false];refine lE (IsL.enc (Je p XV)) ?_;rw [ag];refine⟨p,(Je p XV).length,rfl,⟨hp,by lia⟩,?_⟩;refine⟨_,_,.int _,.int _,?_⟩;rw [eq_int,decide_eq_true aaM];simp only [bG,if_true,bF,aC,if_false];refine⟨p,(cq XV).length,cols p XV,Je p XV,rfl,⟨hp,by lia⟩,⟨fun y hy=>((cm y).mp hy).1,fun y hy=>(NN dr hp hy).1,fun y hy z hz=>?_⟩,fun G'=>lA (q _)⟩;obtain⟨v1,f1⟩:=(cm y).mp hy;obtain⟨v2,f2⟩:=NN dr hp hz;exact(cm _).mpr ⟨Tc hp v1 v2,Td v1.1 v2.1 f1 f2⟩
end YQ
end K2
end
namespace Fin
open PySem PySem.Spec PyProof.Rows L2 K2
open K2.Gz
open K2.Am
open K2.JH
open K2.xN
open K2.YQ
open K2.P
def top(i:Nat):Stmt:=PySem.Challenge.pw_knotwise_k54_whole_trying_and_eliminatio.main.body.getD i (.Pass ⟨0,0,0,0⟩)
section
variable {P:bT} {w:World} {K:ak} {mg:Str->Option Value} {base:Heap}
theorem Hh:cx ["_law_script","_law_k"] ["_law_script","_law_k"] (aT (top 33)):=rO
theorem Iw {f:Addr} {fd:aG} (F:oj K "_law_cell" "_law_cell" (top 33) f fd) (dS:mg "len" = none):gf P w K mg base gP 1 f fd ["_law_script","_law_k"] (cX K ic) :=
 so F Hh Jo fun _ _ _ _ _ _ hr=>have hu:=hr.units; have hu0:=hr.Qo; (aE (hU (ff (Rg hu0) (bw 1) (eY fO rfl dS j3 (ao (bw 0) aL)) (gy _)) (aP (ck (cj (cQ hu (bw 0) (bw 1) (fun _ _=>rfl))))) e8)
 (aP (ck (cj aS))))
theorem yZ:cx ["_law_cells","_law_strings","_law_rows","_law_names","_law_cell_here","_law_name","_law_rest","_law_hand","_law_way","_law_row","_law_at"] ["_law_cells","_law_strings"] (aT (top 35)):=rO
theorem Ir {f:Addr} {fd:aG} (F:oj K "_law_made" "_law_made" (top 35) f fd) (dS:mg "len" = none) (cv:mg "range" = none):gf P w K mg base gP 1 f fd ["_law_cells","_law_strings"] (cX K mz) :=
 so F yZ Jm fun _ _ _ _ _ _ hr=>have nd:=yZ.nd; have hu:=hr.units; (aE (oB ["_law_k"] (sc:=aT (top 35)) (XN:=["_law_cells","_law_strings","_law_rows","_law_names","_law_cell_here","_law_name","_law_rest","_law_hand","_law_way","_law_row","_law_at"]) (i:=2) nd rfl rfl (fZ rfl cv (bw 1)) (fun _ _ _ _=>(kW (i:=0) (show (["_law_k"]:List Str).Nodup by decide +kernel) rfl)) (fun _ _ _ _=>.none) (fun _ _ _ _=>(lj aL)))
 (aE (kQ (i:=3) nd rfl (lj aL))
 (aE (ft bK rfl (fF (bw 0)) (kW (i:=4) nd rfl) (aE (kQ (i:=5) nd rfl (cc gi (bw 4) aS))
 (aE (Oy bK (ff (Xg hu) (bw 5) (bw 3) (by with_unfolding_all rfl)) (aP (kQ (i:=5) nd rfl (cc gi (cc lr (bw 5) aS) aS))))
 (aE (kQ (i:=6) nd rfl (cc oE (bw 4) aS))
 (aE (hU (ff (mX hu) (cc gi (bw 4) aS) aS (gy _)) (aP (kQ (i:=6) nd rfl (cc gi (cc lq (cc gi (cc lq (cc lr (bw 4) (cc lq aS (eY fO rfl dS j3 (ao (bw 3) aL)))) aS) aS) aS) aS))) e8)
 (aE (kg (lU cI rY rX iW vq (bw 3) (ao (bw 5) aL)))
 (aE (kQ (i:=7) nd rfl (cc jO aS (cc lq aS (cc gi (bw 6) aS))))
 (aE (kQ (i:=6) nd rfl (cc oE (bw 6) aS))
 (aP (ft bK rfl (fZ rfl cv aS) (kW (i:=8) nd rfl) (aE (kQ (i:=9) nd rfl (cQ hu (bw 2) (cc gi (bw 6) (bw 1)) (fun _ _=>rfl)))
 (aE (kQ (i:=6) nd rfl (cc oE (bw 6) (bw 1)))
 (aE (kQ (i:=10) nd rfl (cc gi (bw 6) (cc lr (eY fO rfl dS j3 (ao (bw 9) aL)) aS)))
 (aE (kQ (i:=6) nd rfl (cc oE (bw 6) (cc lr (eY fO rfl dS j3 (ao (bw 9) aL)) aS)))
 (aP (kg (lU cI PySem.F.slot_list_insert PySem.F.type_list_insert iW K4 (bw 9) (ao (bw 10) (ao (gY (ao (cc lr (bw 5) aS) (ao (bw 8) (ao (bw 7) aL)))) aL)))))))))))))))))))
 (aP (ck (cj (bw 2)))))))
theorem AO:cx ["_law_row","_law_at","_law_k","_law_back"] ["_law_row","_law_at","_law_k"] (aT (top 36)):=rO
theorem Lo {f:Addr} {fd:aG} (F:oj K "_law_bow" "_law_bow" (top 36) f fd) (dS:mg "len" = none) (cv:mg "range" = none):gf P w K mg base gP 1 f fd ["_law_row","_law_at","_law_k"] (cX K kD) :=
 so F AO LW fun _ _ _ _ _ _ hr=>have nd:=AO.nd; have hu:=hr.units; (aE (ft bK rfl (fZ rfl cv (eY fO rfl dS j3 (ao (bw 0) aL))) (kW (i:=3) nd rfl) (aP (hU (ff (mX hu) (cQ hu (cQ hu (bw 0) (cc jO (bw 2) (bw 3)) (fun _ _=>rfl)) aS (fun _ _=>rfl)) aS (gy _)) (aP (ck (cj (i8 (cQ hu (bw 0) (cc jO (bw 2) (bw 3)) (fun _ _=>rfl)) lg (jB aS))))) e8)))
 (aP (ck (cj (gY (ao (bw 1) (ao aS aL)))))))
theorem wC:cx ["_law_rows","_law_homes_here","_law_at","_law_row","_law_k"] ["_law_rows"] (aT (top 37)):=rO
theorem Fn {f:Addr} {fd:aG} (F:oj K "_law_homes" "_law_homes" (top 37) f fd) (dR:mg "enumerate" = none) (dS:mg "len" = none) (cv:mg "range" = none) {yG:Addr} {yL:aG} (jR:mT P w K mg base gP 1 yG yL "_law_bow" ["_law_row","_law_at","_law_k"] (cX K kD)):gf P w K mg base gP 2 f fd ["_law_rows"] (cX K dD) :=
 so F wC FZ fun _ _ _ _ _ _ hr=>have nd:=wC.nd; have hu:=hr.units; (aE (kQ (i:=1) nd rfl ud)
 (aE (ft bK rfl (tj rfl dR (bw 0)) (lh rfl (du (kW (i:=2) nd rfl) (du (kW (i:=3) nd rfl) jC)) (dv (dv jE))) (aE (hU (ff (mX hu) (bw 3) (lj aL) (gy _)) (aP (kz (gY (ao (bw 2) (ao aS aL))) (kA hu (bw 1) (gY (ao (bw 2) (ao aS aL)))))) e8)
 (aP (ft bK rfl (fZ rfl cv (eY fO rfl dS j3 (ao (bw 3) aL))) (kW (i:=4) nd rfl) (aP (kz (bh jR.ok (hr.mono (by decide)) rfl jR.mg jR.kp jR.bi (ao (bw 3) (ao (bw 2) (ao (bw 4) aL)))) (kA hu (bw 1) (i8 (cQ hu (bw 3) (bw 4) (fun _ _=>rfl)) lg (jB aS)))))))))
 (aP (ck (cj (bw 1))))))
theorem y7:cx ["_law_rows","_law_homes_here"] ["_law_rows"] (aT (top 38)):=rO
theorem Iy {f:Addr} {fd:aG} (F:oj K "_law_bows" "_law_bows" (top 38) f fd) (yr:mg "set" = none) (jP:mg "sorted" = none) {tQ:Addr} {tT:aG} (ie:mT P w K mg base gP 2 tQ tT "_law_homes" ["_law_rows"] (cX K dD)):gf P w K mg base gP 3 f fd ["_law_rows"] (cX K dM) :=
 so F y7 Jp fun _ _ _ _ _ _ hr=>have nd:=y7.nd; have hu:=hr.units; (aE (kQ (i:=1) nd rfl (bh ie.ok (hr.mono (by decide)) rfl ie.mg ie.kp ie.bi (ao (bw 0) aL)))
 (aP (ck (cj (tm rfl hu rfl jP rfl yr (ao (gH ["_law_spot","_law_homes_here"] (sc:=aT (top 38)) (XN:=["_law_rows","_law_homes_here"]) (A2 (bw 1)) (fun _ _ _ _=>(kW (i:=0) (show (["_law_spot","_law_homes_here"]:List Str).Nodup by decide +kernel) rfl)) (fun _ _ _ _=>.none) (fun _ _ _ _=>(cQ hu (bw 1) (bw 0) (fun _ _=>rfl)))) aL))))))
theorem yk:cx ["p"] ["p"] (aT (top 19)):=rO
theorem yF {f:Addr} {fd:aG} (F:oj K "refuse_other" "refuse_other" (top 19) f fd) {cz:Addr} (iN:cJ K bP "NoPrime" = some (some (.ref cz))) (vt:mg "NoPrime" = some (.ref cz)) (l8:fT K cz [.type "ValueError",.type "Exception",.type "BaseException",.type "object"] "ValueError.__new__" = true) (lR:vb K cz) {mD:Addr} (yz:mg "PRIMES" = some (.ref mD)) (oa:AF K mD [3,5,7]=true):gf P w K mg base (L9 P w) 1 f fd ["p"] (uR K mg jM) :=
 foX F yk yT fun _ _ _ _ _ _ hr=>have hu:=hr.units; (aP (hU (Hu hu rfl yz oa (bw 0)) (aP (Df rfl vt l8 Ge rfl (ao MT aL))) e8))
theorem He:cx ["row","string"] ["row","string"] (aT (top 7)):=rO
theorem Io {f:Addr} {fd:aG} (F:oj K "spots_on" "spots_on" (top 7) f fd):gf P w K mg base gP 1 f fd ["row","string"] (cX K o9) :=
 so F He Jk fun _ _ _ _ _ _ hr=>(aE (hU (qU (i7 (bw 0))) (aP (ck (cj (lj (ao (gY (ao (bw 1) (ao aS aL))) aL))))) e8)
 (aP (ck (cj (gH ["passing"] (sc:=aT (top 7)) (XN:=["row","string"]) (fF (bw 0)) (fun _ _ _ _=>(kW (i:=0) (show (["passing"]:List Str).Nodup by decide +kernel) rfl)) (fun _ _ _ _=>.none) (fun _ _ _ _=>(i8 (bw 0) lg (jB aS))))))))
theorem AQ:cx ["row","string","spots","unders","bow","found","spot"] ["row","string"] (aT (top 16)):=rO
theorem Lq {f:Addr} {fd:aG} (F:oj K "bows_on" "bows_on" (top 16) f fd) {Lr:Addr} {LC:aG} (rE:mT P w K mg base gP 1 Lr LC "spots_on" ["row","string"] (cX K o9)):gf P w K mg base gP 2 f fd ["row","string"] (cX K qR) :=
 so F AQ LY fun _ _ _ _ _ _ hr=>have nd:=AQ.nd; have hu:=hr.units; (aE (kQ (i:=2) nd rfl (bh rE.ok (hr.mono (by decide)) rfl rE.mg rE.kp rE.bi (ao (bw 0) (ao (bw 1) aL))))
 (aE (oB ["spot"] (sc:=aT (top 16)) (XN:=["row","string","spots","unders","bow","found","spot"]) (i:=3) nd rfl rfl (fF (bw 2)) (fun _ _ _ _=>(kW (i:=0) (show (["spot"]:List Str).Nodup by decide +kernel) rfl)) (fun _ _ _ _=>(.some (ff (mX hu) (cQ hu (bw 0) aS (fun _ _=>rfl)) aS (gy _)))) (fun _ _ _ _=>(bw 0)))
 (aE (kQ (i:=4) nd rfl (Ra (i7 (bw 3)) (cQ hu (bw 3) (KR Ei aS) (fun _ _=>rfl)) (gY (ao (bw 1) (ao aS aL)))))
 (aE (kQ (i:=5) nd rfl ud)
 (aE (ft bK rfl (fF (bw 2)) (kW (i:=6) nd rfl) (aE (hU (ff (mX hu) (cQ hu (bw 6) aS (fun _ _=>rfl)) aS (gy _)) (aP (kQ (i:=4) nd rfl (bw 6))) e8)
 (aP (kz (bw 4) (kA hu (bw 5) (bw 6))))))
 (aP (ck (cj (bw 5)))))))))
theorem C7:cx ["drawing","found","string","row"] ["drawing"] (aT (top 17)):=rO
theorem Pa {f:Addr} {fd:aG} (F:oj K "bow_at" "bow_at" (top 17) f fd) (dR:mg "enumerate" = none) {Pe:Addr} {Pl:aG} (ur:mT P w K mg base gP 2 Pe Pl "bows_on" ["row","string"] (cX K qR)):gf P w K mg base gP 3 f fd ["drawing"] (cX K fC) :=
 so F C7 Px fun _ _ _ _ _ _ hr=>have nd:=C7.nd; have hu:=hr.units; (aE (kQ (i:=1) nd rfl ud)
 (aE (ft bK rfl (tj rfl dR (bw 0)) (lh rfl (du (kW (i:=2) nd rfl) (du (kW (i:=3) nd rfl) jC)) (dv (dv jE))) (aP (kg (lU sC Jv PySem.F.type_dict_update AD (Ro hu) (bw 1) (ao (cj (bh ur.ok (hr.mono (by decide)) rfl ur.mg ur.kp ur.bi (ao (bw 3) (ao (bw 2) aL)))) aL)))))
 (aP (ck (cj (bw 1))))))
theorem Uy:cx ["drawing"] ["drawing"] (aT (top 18)):=rO
theorem Vk {f:Addr} {fd:aG} (F:oj K "bows" "bows" (top 18) f fd) (gk:mg "list" = none) (yr:mg "set" = none) (jP:mg "sorted" = none) {BB:Addr} {BF:aG} (lD:mT P w K mg base gP 3 BB BF "bow_at" ["drawing"] (cX K fC)):gf P w K mg base gP 4 f fd ["drawing"] (cX K fE) :=
 so F Uy VI fun _ _ _ _ _ _ hr=>have hu:=hr.units; (aP (ck (cj (tm rfl hu rfl jP rfl yr (ao (OC rfl rfl gk (bh lD.ok (hr.mono (by decide)) rfl lD.mg lD.kp lD.bi (ao (bw 0) aL))) aL)))))
theorem yY:cx ["p","count","product","step"] ["p","count"] (aT (top 22)):=rO
theorem Ip {f:Addr} {fd:aG} (F:oj K "power_of" "power_of" (top 22) f fd) (cv:mg "range" = none):gf P w K mg base gP 1 f fd ["p","count"] (cX K fR) :=
 so F yY zw fun _ _ _ _ _ _ hr=>have nd:=yY.nd; (aE (kQ (i:=2) nd rfl aS)
 (aE (ft bK rfl (fZ rfl cv (bw 1)) (kW (i:=3) nd rfl) (aP (kQ (i:=2) nd rfl (cc lq (bw 2) (bw 0)))))
 (aP (ck (cj (bw 2))))))
theorem AN:cx ["drawing","behind","row","passing","follower"] ["drawing"] (aT (top 8)):=rO
theorem Ln {f:Addr} {fd:aG} (F:oj K "next_of" "next_of" (top 8) f fd) (qY:mg "zip" = none):gf P w K mg base gP 1 f fd ["drawing"] (cX K qQ) :=
 so F AN LV fun _ _ _ _ _ _ hr=>have nd:=AN.nd; have hu:=hr.units; (aE (kQ (i:=1) nd rfl ud)
 (aE (ft bK rfl (fF (bw 0)) (kW (i:=2) nd rfl) (aP (ft bK rfl (ER rfl qY (bw 2) (cc lr (i8 (bw 2) (jB aS) lg) (i8 (bw 2) lg (jB aS)))) (lh rfl (du (kW (i:=3) nd rfl) (du (kW (i:=4) nd rfl) jC)) (dv (dv jE))) (aP (kz (i8 (bw 4) lg (jB aS)) (kA hu (bw 1) (i8 (bw 3) lg (jB aS))))))))
 (aP (ck (cj (bw 1))))))
theorem wD:cx ["drawing","behind","coming","spot"] ["drawing"] (aT (top 12)):=rO
theorem Fp {f:Addr} {fd:aG} (F:oj K "coming_of" "coming_of" (top 12) f fd) {Pc:Addr} {Pj:aG} (uq:mT P w K mg base gP 1 Pc Pj "next_of" ["drawing"] (cX K qQ)):gf P w K mg base gP 2 f fd ["drawing"] (cX K nK) :=
 so F wD Gb fun _ _ _ _ _ _ hr=>have nd:=wD.nd; have hu:=hr.units; (aE (kQ (i:=1) nd rfl (bh uq.ok (hr.mono (by decide)) rfl uq.mg uq.kp uq.bi (ao (bw 0) aL)))
 (aE (kQ (i:=2) nd rfl ud)
 (aE (ft bK rfl (A2 (bw 1)) (kW (i:=3) nd rfl) (aP (kz (bw 3) (kA hu (bw 2) (cQ hu (bw 1) (bw 3) (fun _ _=>rfl))))))
 (aP (ck (cj (bw 2)))))))
theorem sP:cx ["rows","passings","row"] ["rows"] (aT (top 5)):=rO
theorem Bw {f:Addr} {fd:aG} (F:oj K "passings_of" "passings_of" (top 5) f fd):gf P w K mg base gP 1 f fd ["rows"] (cX K k7) :=
 so F sP BO fun _ _ _ _ _ _ hr=>have nd:=sP.nd; (aE (kQ (i:=1) nd rfl (lj aL))
 (aE (ft bK rfl (fF (bw 0)) (kW (i:=2) nd rfl) (aP (kg (lU cI Jt Js iW Bb (bw 1) (ao (bw 2) aL)))))
 (aP (ck (cj (bw 1))))))
theorem Hf:cx ["drawing"] ["drawing"] (aT (top 6)):=rO
theorem Iq {f:Addr} {fd:aG} (F:oj K "names_of" "names_of" (top 6) f fd) (jP:mg "sorted" = none) {Ct:Addr} {Cy:aG} (mq:mT P w K mg base gP 1 Ct Cy "passings_of" ["rows"] (cX K k7)):gf P w K mg base gP 2 f fd ["drawing"] (cX K pf) :=
 so F Hf Jl fun _ _ _ _ _ _ hr=>have hu:=hr.units; (aP (ck (cj (eY (FN rfl hu) rfl jP DQ (ao (gH ["passing"] (sc:=aT (top 6)) (XN:=["drawing"]) (fF (bh mq.ok (hr.mono (by decide)) rfl mq.mg mq.kp mq.bi (ao (bw 0) aL))) (fun _ _ _ _=>(kW (i:=0) (show (["passing"]:List Str).Nodup by decide +kernel) rfl)) (fun _ _ _ _=>(.some (ff (mX hu) (cQ hu (bw 0) aS (fun _ _=>rfl)) aS (gy _)))) (fun _ _ _ _=>(cQ hu (bw 0) aS (fun _ _=>rfl)))) aL)))))
theorem wz:cx ["drawing","order","bow","coming","places","name","three"] ["drawing"] (aT (top 20)):=rO
theorem Fh {f:Addr} {fd:aG} (F:oj K "places_at" "places_at" (top 20) f fd) {vI:Addr} {vN:aG} (iR:mT P w K mg base gP 4 vI vN "bows" ["drawing"] (cX K fE)) {BB:Addr} {BF:aG} (lD:mT P w K mg base gP 3 BB BF "bow_at" ["drawing"] (cX K fC)) {ID:Addr} {IQ:aG} (pK:mT P w K mg base gP 2 ID IQ "coming_of" ["drawing"] (cX K nK)) {Ls:Addr} {LD:aG} (rF:mT P w K mg base gP 2 Ls LD "names_of" ["drawing"] (cX K pf)):gf P w K mg base gP 5 f fd ["drawing"] (cX K dQ) :=
 so F wz FV fun _ _ _ _ _ _ hr=>have nd:=wz.nd; have hu:=hr.units; (aE (kQ (i:=1) nd rfl (bh iR.ok (hr.mono (by decide)) rfl iR.mg iR.kp iR.bi (ao (bw 0) aL)))
 (aE (kQ (i:=2) nd rfl (bh lD.ok (hr.mono (by decide)) rfl lD.mg lD.kp lD.bi (ao (bw 0) aL)))
 (aE (kQ (i:=3) nd rfl (bh pK.ok (hr.mono (by decide)) rfl pK.mg pK.kp pK.bi (ao (bw 0) aL)))
 (aE (kQ (i:=4) nd rfl (lj aL))
 (aE (ft bK rfl (fF (bh rF.ok (hr.mono (by decide)) rfl rF.mg rF.kp rF.bi (ao (bw 0) aL))) (kW (i:=5) nd rfl) (aE (kQ (i:=6) nd rfl (gY (ao (cQ hu (bw 2) (gY (ao (bw 5) (ao aS aL))) (fun _ _=>rfl)) (ao (cQ hu (bw 2) (cQ hu (bw 3) (gY (ao (bw 5) (ao aS aL))) (fun _ _=>rfl)) (fun _ _=>rfl)) (ao (cQ hu (bw 2) (gY (ao (bw 5) (ao aS aL))) (fun _ _=>rfl)) aL)))))
 (aP (kg (lU cI rY rX iW vq (bw 4) (ao (gY (ao (lU cI fU gR iW (nZ hu) (bw 1) (ao (cQ hu (bw 6) aS (fun _ _=>rfl)) aL)) (ao (lU cI fU gR iW (nZ hu) (bw 1) (ao (cQ hu (bw 6) aS (fun _ _=>rfl)) aL)) (ao (lU cI fU gR iW (nZ hu) (bw 1) (ao (cQ hu (bw 6) aS (fun _ _=>rfl)) aL)) aL)))) aL))))))
 (aP (ck (cj (bw 4)))))))))
theorem sQ:cx ["lists","picked","members","longer","ahead"] ["lists"] (aT (top 10)):=rO
theorem Bx {f:Addr} {fd:aG} (F:oj K "one_of_each" "one_of_each" (top 10) f fd):gf P w K mg base gP 1 f fd ["lists"] (cX K iy) :=
 so F sQ BP fun _ _ _ _ _ _ hr=>have nd:=sQ.nd; (aE (kQ (i:=1) nd rfl (cj (lj (ao (lj aL) aL))))
 (aE (ft bK rfl (fF (bw 0)) (kW (i:=2) nd rfl) (aE (kQ (i:=3) nd rfl (lj aL))
 (aE (ft bK rfl (fF (bw 1)) (kW (i:=4) nd rfl) (aP (kg (lU cI Jt Js iW Bb (bw 3) (ao (gH ["member","ahead"] (sc:=aT (top 10)) (XN:=["lists","picked","members","longer","ahead"]) (fF (bw 2)) (fun _ _ _ _=>(kW (i:=0) (show (["member","ahead"]:List Str).Nodup by decide +kernel) rfl)) (fun _ _ _ _=>.none) (fun _ _ _ _=>(cj (cc lr (bw 1) (lj (ao (bw 0) aL)))))) aL)))))
 (aP (kQ (i:=1) nd rfl (cj (bw 3)))))))
 (aP (ck (cj (bw 1))))))
theorem EC:cx ["places","p","numbers"] ["places","p","numbers"] (aT (top 21)):=rO
theorem Fo {f:Addr} {fd:aG} (F:oj K "keeps_all" "keeps_all" (top 21) f fd) (yt:mg "all" = none):gf P w K mg base gP 1 f fd ["places","p","numbers"] (cX K gh) :=
 so F EC Ga fun _ _ _ _ _ _ hr=>have hu:=hr.units; (aP (ck (cj (eY (DO rfl) rfl yt S4 (ao (gH ["over","comes","leaves","numbers","p"] (sc:=aT (top 21)) (XN:=["places","p","numbers"]) (fF (bw 0)) (fun _ _ _ _=>(lh rfl (du (kW (i:=0) (show (["over","comes","leaves","numbers","p"]:List Str).Nodup by decide +kernel) rfl) (du (kW (i:=1) (show (["over","comes","leaves","numbers","p"]:List Str).Nodup by decide +kernel) rfl) (du (kW (i:=2) (show (["over","comes","leaves","numbers","p"]:List Str).Nodup by decide +kernel) rfl) jC))) (dv (dv (dv jE))))) (fun _ _ _ _=>.none) (fun _ _ _ _=>(ET (mX hu) (cc gi (cc jO (cc jO (cc lq aS (cQ hu (bw 3) (bw 0) (fun _ _=>rfl))) (cQ hu (bw 3) (bw 1) (fun _ _=>rfl))) (cQ hu (bw 3) (bw 2) (fun _ _=>rfl))) (bw 4)) aS (gy _)))) aL)))))
theorem ot:cx ["drawing","p","count","places","lists"] ["drawing","p"] (aT (top 23)):=rO
theorem vF {f:Addr} {fd:aG} (F:oj K "all_colourings" "all_colourings" (top 23) f fd) (dS:mg "len" = none) (gk:mg "list" = none) (cv:mg "range" = none) {cy:Addr} (iM:cJ K bP "TooMany" = some (some (.ref cy))) (vr:mg "TooMany" = some (.ref cy)) (l7:fT K cy [.type "ValueError",.type "Exception",.type "BaseException",.type "object"] "ValueError.__new__" = true) (lQ:vb K cy) {gF:Tok} (jI:mg "MOST_GONE_THROUGH" = some (.int 2500 gF)) {zK:Addr} {zL:aG} (kB:mT P w K mg base (L9 P w) 1 zK zL "refuse_other" ["p"] (uR K mg jM)) {vI:Addr} {vN:aG} (iR:mT P w K mg base gP 4 vI vN "bows" ["drawing"] (cX K fE)) {oM:Addr} {oO:aG} (fM:mT P w K mg base gP 1 oM oO "power_of" ["p","count"] (cX K fR)) {mE:Addr} {mH:aG} (fj:mT P w K mg base gP 5 mE mH "places_at" ["drawing"] (cX K dQ)) {pU:Addr} {pV:aG} (gm:mT P w K mg base gP 1 pU pV "one_of_each" ["lists"] (cX K iy)) {tR:Addr} {tU:aG} (ig:mT P w K mg base gP 1 tR tU "keeps_all" ["places","p","numbers"] (cX K gh)):gf P w K mg base (L9 P w) 6 f fd ["drawing","p"] (uR K mg iL) :=
 foX F ot vU fun _ _ _ _ _ _ hr=>have nd:=ot.nd; (aE (kg (OF kB.ok (hr.mono (by decide)) rfl kB.mg kB.kp kB.bi (ao (bw 1) aL)))
 (aE (kQ (i:=2) nd rfl (eY fO rfl dS j3 (ao (bh iR.ok (hr.mono (by decide)) rfl iR.mg iR.kp iR.bi (ao (bw 0) aL)) aL)))
 (aE (hU (ff EW (bh fM.ok (hr.mono (by decide)) rfl fM.mg fM.kp fM.bi (ao (bw 1) (ao (bw 2) aL))) (MV rfl jI) (gy _)) (aP (Df rfl vr l7 Ge rfl (ao MT aL))) e8)
 (aE (kQ (i:=3) nd rfl (bh fj.ok (hr.mono (by decide)) rfl fj.mg fj.kp fj.bi (ao (bw 0) aL)))
 (aE (kQ (i:=4) nd rfl (bh gm.ok (hr.mono (by decide)) rfl gm.mg gm.kp gm.bi (ao (cj (gH ["bow","p"] (sc:=aT (top 23)) (XN:=["drawing","p","count","places","lists"]) (fZ rfl cv (bw 2)) (fun _ _ _ _=>(kW (i:=0) (show (["bow","p"]:List Str).Nodup by decide +kernel) rfl)) (fun _ _ _ _=>.none) (fun _ _ _ _=>(cj (A3 rfl rfl gk rfl cv (bw 1)))))) aL)))
 (aP (ck (cj (gH ["numbers","places","p"] (sc:=aT (top 23)) (XN:=["drawing","p","count","places","lists"]) (fF (bw 4)) (fun _ _ _ _=>(kW (i:=0) (show (["numbers","places","p"]:List Str).Nodup by decide +kernel) rfl)) (fun _ _ _ _=>(.some (i7 (bh ig.ok (hr.mono (by decide)) rfl ig.mg ig.kp ig.bi (ao (bw 1) (ao (bw 2) (ao (bw 0) aL))))))) (fun _ _ _ _=>(cj (bw 0))))))))))))
theorem sR:cx ["_law_rows","_law_p","_law_error","e"] ["_law_rows","_law_p"] (aT (top 43)):=rO
theorem By {f:Addr} {fd:aG} (F:oj K "_law_refused" "_law_refused" (top 43) f fd) (dH:mg "isinstance" = none) {cz:Addr} (iN:cJ K bP "NoPrime" = some (some (.ref cz))) (vt:mg "NoPrime" = some (.ref cz)) (l8:fT K cz [.type "ValueError",.type "Exception",.type "BaseException",.type "object"] "ValueError.__new__" = true) (lR:vb K cz) {cy:Addr} (iM:cJ K bP "TooMany" = some (some (.ref cy))) (vr:mg "TooMany" = some (.ref cy)) (l7:fT K cy [.type "ValueError",.type "Exception",.type "BaseException",.type "object"] "ValueError.__new__" = true) (lQ:vb K cy) {cY:Addr} (qW:cJ K bP "KnotError" = some (some (.ref cY))) (E4:mg "KnotError" = some (.ref cY)) (rB:fT K cY [.type "ValueError",.type "Exception",.type "BaseException",.type "object"] "ValueError.__new__" = true) (wg:vb K cY) (vB:dN K (.type "NoneType") (.ref cy)=some false) (vC:dN K (.type "NoneType") (.ref cz)=some false) (kI:dN K (.ref cz) (.ref cy)=some false) (kG:dN K (.ref cy) (.ref cy)=some true) (kJ:dN K (.ref cz) (.ref cz)=some true) (kH:dN K (.ref cy) (.ref cz)=some false) (jz:subIn K cy (.ref cY)=true) (jA:subIn K cz (.ref cY)=true) {xp:Addr} {xt:aG} (jd:mT P w K mg base (L9 P w) 6 xp xt "all_colourings" ["drawing","p"] (uR K mg iL)):gf P w K mg base gP 7 f fd ["_law_rows","_law_p"] (cX K jx) :=
 so F sR BQ fun _ _ _ _ _ _ hr=>have nd:=sR.nd; (aE (kQ (i:=2) nd rfl ES)
 (aE (UK ⟨rfl,rfl,rfl⟩ ⟨nd,rfl,rfl,rfl,E4,⟨_,_,rB,rfl⟩,(qy ⟨_,_,_,iN,l8,jA⟩ (qy ⟨_,_,_,iM,l7,jz⟩ FK))⟩ jd.ok (hr.mono (by decide)) rfl jd.mg jd.kp jd.bi (fun EX=>(ao (bw 0) (ao (bw 1) aL))) (fun v=>(aP (kQ (i:=2) nd rfl (bw 3)))))
 (aP (ck (cj (gY (ao (Hy D3 rfl dH rfl vt vC (qy ⟨_,iN,kJ,lR⟩ (qy ⟨_,iM,kH,lQ⟩ FK)) (bw 2)) (ao (Hy D3 rfl dH rfl vr vB (qy ⟨_,iN,kI,lR⟩ (qy ⟨_,iM,kG,lQ⟩ FK)) (bw 2)) aL))))))))
theorem wA:cx ["_law_p","_law_count","_law_found","_law_k"] ["_law_p","_law_count"] (aT (top 42)):=rO
theorem Fj {f:Addr} {fd:aG} (F:oj K "_law_times" "_law_times" (top 42) f fd) (cv:mg "range" = none):gf P w K mg base gP 1 f fd ["_law_p","_law_count"] (cX K jN) :=
 so F wA FX fun _ _ _ _ _ _ hr=>have nd:=wA.nd; (aE (kQ (i:=2) nd rfl aS)
 (aE (ft bK rfl (fZ rfl cv (bw 1)) (kW (i:=3) nd rfl) (aP (kQ (i:=2) nd rfl (cc lq (bw 2) (bw 0)))))
 (aP (ck (cj (bw 2))))))
theorem zG:cx ["p"] ["p"] (aT (top 19)):=rO
theorem zJ {f:Addr} {fd:aG} (F:oj K "refuse_other" "refuse_other" (top 19) f fd) {mD:Addr} (yz:mg "PRIMES" = some (.ref mD)) (oa:AF K mD [3,5,7]=true):gf P w K mg base gP 1 f fd ["p"] (cX K eW) :=
 so F zG zN fun _ _ _ _ _ _ hr=>have hu:=hr.units; (aP (hU (Hu hu rfl yz oa (bw 0)) (aP Dg) e8))
theorem pv:cx ["drawing","p","count","places","lists"] ["drawing","p"] (aT (top 23)):=rO
theorem xn {f:Addr} {fd:aG} (F:oj K "all_colourings" "all_colourings" (top 23) f fd) (dS:mg "len" = none) (gk:mg "list" = none) (cv:mg "range" = none) {gF:Tok} (jI:mg "MOST_GONE_THROUGH" = some (.int 2500 gF)) {oK:Addr} {oN:aG} (fL:mT P w K mg base gP 1 oK oN "refuse_other" ["p"] (cX K eW)) {vI:Addr} {vN:aG} (iR:mT P w K mg base gP 4 vI vN "bows" ["drawing"] (cX K fE)) {oM:Addr} {oO:aG} (fM:mT P w K mg base gP 1 oM oO "power_of" ["p","count"] (cX K fR)) {mE:Addr} {mH:aG} (fj:mT P w K mg base gP 5 mE mH "places_at" ["drawing"] (cX K dQ)) {pU:Addr} {pV:aG} (gm:mT P w K mg base gP 1 pU pV "one_of_each" ["lists"] (cX K iy)) {tR:Addr} {tU:aG} (ig:mT P w K mg base gP 1 tR tU "keeps_all" ["places","p","numbers"] (cX K gh)):gf P w K mg base gP 6 f fd ["drawing","p"] (cX K jc) :=
 so F pv xM fun _ _ _ _ _ _ hr=>have nd:=pv.nd; (aE (kg (bh fL.ok (hr.mono (by decide)) rfl fL.mg fL.kp fL.bi (ao (bw 1) aL)))
 (aE (kQ (i:=2) nd rfl (eY fO rfl dS j3 (ao (bh iR.ok (hr.mono (by decide)) rfl iR.mg iR.kp iR.bi (ao (bw 0) aL)) aL)))
 (aE (hU (ff EW (bh fM.ok (hr.mono (by decide)) rfl fM.mg fM.kp fM.bi (ao (bw 1) (ao (bw 2) aL))) (MV rfl jI) (gy _)) (aP Dg) e8)
 (aE (kQ (i:=3) nd rfl (bh fj.ok (hr.mono (by decide)) rfl fj.mg fj.kp fj.bi (ao (bw 0) aL)))
 (aE (kQ (i:=4) nd rfl (bh gm.ok (hr.mono (by decide)) rfl gm.mg gm.kp gm.bi (ao (cj (gH ["bow","p"] (sc:=aT (top 23)) (XN:=["drawing","p","count","places","lists"]) (fZ rfl cv (bw 2)) (fun _ _ _ _=>(kW (i:=0) (show (["bow","p"]:List Str).Nodup by decide +kernel) rfl)) (fun _ _ _ _=>.none) (fun _ _ _ _=>(cj (A3 rfl rfl gk rfl cv (bw 1)))))) aL)))
 (aP (ck (cj (gH ["numbers","places","p"] (sc:=aT (top 23)) (XN:=["drawing","p","count","places","lists"]) (fF (bw 4)) (fun _ _ _ _=>(kW (i:=0) (show (["numbers","places","p"]:List Str).Nodup by decide +kernel) rfl)) (fun _ _ _ _=>(.some (i7 (bh ig.ok (hr.mono (by decide)) rfl ig.mg ig.kp ig.bi (ao (bw 1) (ao (bw 2) (ao (bw 0) aL))))))) (fun _ _ _ _=>(cj (bw 0))))))))))))
theorem EB:cx ["_law_found"] ["_law_found"] (aT (top 34)):=rO
theorem Fi {f:Addr} {fd:aG} (F:oj K "_law_whole" "_law_whole" (top 34) f fd) (EZ:mg "bool" = none) (K1:mg "int" = none) (dH:mg "isinstance" = none):gf P w K mg base gP 1 f fd ["_law_found"] (cX K iJ) :=
 so F EB FW fun _ _ _ _ _ _ hr=>(aP (ck (cj (MW (zY "int" (by decide) rfl dH rfl K1 Yn (bw 0)) (MU (UQ (zY "bool" (by decide) rfl dH rfl EZ VB (bw 0))))))))
theorem Hg:cx ["_law_found","_law_wide","_law_p"] ["_law_found","_law_wide","_law_p"] (aT (top 41)):=rO
theorem Iu {f:Addr} {fd:aG} (F:oj K "_law_list" "_law_list" (top 41) f fd) (yt:mg "all" = none) (dH:mg "isinstance" = none) (dS:mg "len" = none) (gk:mg "list" = none) {IA:Addr} {IL:aG} (pI:mT P w K mg base gP 1 IA IL "_law_whole" ["_law_found"] (cX K iJ)):gf P w K mg base gP 2 f fd ["_law_found","_law_wide","_law_p"] (cX K kN) :=
 so F Hg Jn fun _ _ _ _ _ _ hr=>have hu:=hr.units; have hu0:=hr.Qo; (aE (hU (NT.pt (EN (qU (i7 (zY "list" (by decide) rfl dH rfl gk xF (bw 0)))) (zX (ff (yp hu) (eY fO rfl dS j3 (ao (bw 0) aL)) (bw 1) (gy _))))) (aP (ck (cj kF))) e8)
 (aP (ck (cj (eY (DO rfl) rfl yt S4 (ao (gH ["_law_one","_law_p"] (sc:=aT (top 41)) (XN:=["_law_found","_law_wide","_law_p"]) (fF (bw 0)) (fun _ _ _ _=>(kW (i:=0) (show (["_law_one","_law_p"]:List Str).Nodup by decide +kernel) rfl)) (fun _ _ _ _=>.none) (fun _ _ _ _=>(MW (bh pI.ok (hr.mono (by decide)) rfl pI.mg pI.kp pI.bi (ao (bw 0) aL)) (MU (OE Xf (Rg hu0) aS (bw 0) (bw 1)))))) aL))))))
theorem wB:cx ["_law_rules","_law_p","_law_numbers","_law_over","_law_comes","_law_leaves"] ["_law_rules","_law_p","_law_numbers"] (aT (top 40)):=rO
theorem Fm {f:Addr} {fd:aG} (F:oj K "_law_keeps" "_law_keeps" (top 40) f fd):gf P w K mg base gP 1 f fd ["_law_rules","_law_p","_law_numbers"] (cX K iK) :=
 so F wB FY fun _ _ _ _ _ _ hr=>have nd:=wB.nd; have hu:=hr.units; (aE (ft bK rfl (fF (bw 0)) (lh rfl (du (kW (i:=3) nd rfl) (du (kW (i:=4) nd rfl) (du (kW (i:=5) nd rfl) jC))) (dv (dv (dv jE)))) (aP (hU (ff (yp hu) (cc gi (cc jO (cc jO (cc lq aS (cQ hu (bw 2) (bw 3) (fun _ _=>rfl))) (cQ hu (bw 2) (bw 4) (fun _ _=>rfl))) (cQ hu (bw 2) (bw 5) (fun _ _=>rfl))) (bw 1)) aS (gy _)) (aP (ck (cj kF))) e8)))
 (aP (ck (cj kF))))
theorem uT:cx ["_law_found","_law_rules","_law_wide","_law_p","_law_at","_law_numbers"] ["_law_found","_law_rules","_law_wide","_law_p"] (aT (top 44)):=rO
theorem Cq {f:Addr} {fd:aG} (F:oj K "_law_rising" "_law_rising" (top 44) f fd) (dR:mg "enumerate" = none) (dH:mg "isinstance" = none) (gk:mg "list" = none) {Lv:Addr} {LG:aG} (rH:mT P w K mg base gP 2 Lv LG "_law_list" ["_law_found","_law_wide","_law_p"] (cX K kN)) {IC:Addr} {IP:aG} (pJ:mT P w K mg base gP 1 IC IP "_law_keeps" ["_law_rules","_law_p","_law_numbers"] (cX K iK)):gf P w K mg base gP 3 f fd ["_law_found","_law_rules","_law_wide","_law_p"] (cX K mf) :=
 so F uT CJ fun _ _ _ _ _ _ hr=>have nd:=uT.nd; have hu:=hr.units; (aE (hU (qU (i7 (zY "list" (by decide) rfl dH rfl gk xF (bw 0)))) (aP (ck (cj kF))) e8)
 (aE (ft bK rfl (tj rfl dR (bw 0)) (lh rfl (du (kW (i:=4) nd rfl) (du (kW (i:=5) nd rfl) jC)) (dv (dv jE))) (aE (hU (NT.pt (EN (qU (i7 (bh rH.ok (hr.mono (by decide)) rfl rH.mg rH.kp rH.bi (ao (bw 5) (ao (bw 2) (ao (bw 3) aL)))))) (zX (qU (i7 (bh pJ.ok (hr.mono (by decide)) rfl pJ.mg pJ.kp pJ.bi (ao (bw 1) (ao (bw 3) (ao (bw 5) aL))))))))) (aP (ck (cj kF))) e8)
 (aP (hU (NT.pt (MO (ff EW (bw 4) aS (gy _)) (Hs (qU (ff (UX hu) (cQ hu (bw 0) (cc jO (bw 4) aS) (fun _ _=>rfl)) (bw 5) (gy _)))))) (aP (ck (cj kF))) e8))))
 (aP (ck (cj kF)))))
theorem uS:cx ["_law_rows","_law_homes_here","_law_order","_law_found","_law_at","_law_row","_law_k","_law_over","_law_comes"] ["_law_rows"] (aT (top 39)):=rO
theorem Cp {f:Addr} {fd:aG} (F:oj K "_law_threes" "_law_threes" (top 39) f fd) (dR:mg "enumerate" = none) (dS:mg "len" = none) (cv:mg "range" = none) {tQ:Addr} {tT:aG} (ie:mT P w K mg base gP 2 tQ tT "_law_homes" ["_law_rows"] (cX K dD)) {vG:Addr} {vL:aG} (iP:mT P w K mg base gP 3 vG vL "_law_bows" ["_law_rows"] (cX K dM)) {yG:Addr} {yL:aG} (jR:mT P w K mg base gP 1 yG yL "_law_bow" ["_law_row","_law_at","_law_k"] (cX K kD)):gf P w K mg base gP 4 f fd ["_law_rows"] (cX K i6) :=
 so F uS CI fun _ _ _ _ _ _ hr=>have nd:=uS.nd; have hu:=hr.units; (aE (kQ (i:=1) nd rfl (bh ie.ok (hr.mono (by decide)) rfl ie.mg ie.kp ie.bi (ao (bw 0) aL)))
 (aE (kQ (i:=2) nd rfl (bh iP.ok (hr.mono (by decide)) rfl iP.mg iP.kp iP.bi (ao (bw 0) aL)))
 (aE (kQ (i:=3) nd rfl (lj aL))
 (aE (ft bK rfl (tj rfl dR (bw 0)) (lh rfl (du (kW (i:=4) nd rfl) (du (kW (i:=5) nd rfl) jC)) (dv (dv jE))) (aP (ft bK rfl (fZ rfl cv (eY fO rfl dS j3 (ao (bw 5) aL))) (kW (i:=6) nd rfl) (aP (hU (ff (mX hu) (cQ hu (cQ hu (bw 5) (bw 6) (fun _ _=>rfl)) aS (fun _ _=>rfl)) aS (gy _)) (aE (kQ (i:=7) nd rfl (lU cI fU gR iW (nZ hu) (bw 2) (ao (cQ hu (bw 1) (gY (ao (cQ hu (cQ hu (bw 5) (bw 6) (fun _ _=>rfl)) aS (fun _ _=>rfl)) (ao aS aL))) (fun _ _=>rfl)) aL)))
 (aE (kQ (i:=8) nd rfl (lU cI fU gR iW (nZ hu) (bw 2) (ao (bh jR.ok (hr.mono (by decide)) rfl jR.mg jR.kp jR.bi (ao (bw 5) (ao (bw 4) (ao (cc jO (bw 6) aS) aL)))) aL)))
 (aP (kg (lU cI rY rX iW vq (bw 3) (ao (gY (ao (bw 7) (ao (bw 8) (ao (lU cI fU gR iW (nZ hu) (bw 2) (ao (i8 (cQ hu (bw 5) (bw 6) (fun _ _=>rfl)) lg (jB aS)) aL)) aL)))) aL)))))) e8)))))
 (aP (ck (cj (bw 3))))))))
theorem AP:cx ["factors","place","other","p","number"] ["factors","place","other","p"] (aT (top 27)):=rO
theorem Lp {f:Addr} {fd:aG} (F:oj K "cleared" "cleared" (top 27) f fd) (qY:mg "zip" = none):gf P w K mg base gP 1 f fd ["factors","place","other","p"] (cX K lS) :=
 so F AP LX fun _ _ _ _ _ _ hr=>have nd:=AP.nd; have hu:=hr.units; (aE (kQ (i:=4) nd rfl (cQ hu (bw 0) (bw 1) (fun _ _=>rfl)))
 (aP (ck (cj (gH ["factor","less","number","p"] (sc:=aT (top 27)) (XN:=["factors","place","other","p","number"]) (ER rfl qY (bw 0) (bw 2)) (fun _ _ _ _=>(lh rfl (du (kW (i:=0) (show (["factor","less","number","p"]:List Str).Nodup by decide +kernel) rfl) (du (kW (i:=1) (show (["factor","less","number","p"]:List Str).Nodup by decide +kernel) rfl) jC)) (dv (dv jE)))) (fun _ _ _ _=>.none) (fun _ _ _ _=>(cc gi (cc jO (bw 0) (cc lq (bw 2) (bw 1))) (bw 3))))))))
theorem uV:cx ["factors","places"] ["factors"] (aT (top 25)):=rO
theorem Cs {f:Addr} {fd:aG} (F:oj K "last_place" "last_place" (top 25) f fd) (dR:mg "enumerate" = none):gf P w K mg base gP 1 f fd ["factors"] (cX K mi) :=
 so F uV CL fun _ _ _ _ _ _ hr=>have nd:=uV.nd; have hu:=hr.units; (aE (oB ["place","factor"] (sc:=aT (top 25)) (XN:=["factors","places"]) (i:=1) nd rfl rfl (tj rfl dR (bw 0)) (fun _ _ _ _=>(lh rfl (du (kW (i:=0) (show (["place","factor"]:List Str).Nodup by decide +kernel) rfl) (du (kW (i:=1) (show (["place","factor"]:List Str).Nodup by decide +kernel) rfl) jC)) (dv (dv jE)))) (fun _ _ _ _=>(.some (ff (yp hu) (bw 1) aS (gy _)))) (fun _ _ _ _=>(bw 0)))
 (aP (ck (cj (Ra (i7 (bw 1)) (cQ hu (bw 1) (KR Ei aS) (fun _ _=>rfl)) ES)))))
theorem C6:cx ["factors","place","p","inverse"] ["factors","place","p"] (aT (top 26)):=rO
theorem O9 {f:Addr} {fd:aG} (F:oj K "scaled" "scaled" (top 26) f fd) (cv:mg "range" = none):gf P w K mg base gP 1 f fd ["factors","place","p"] (cX K t8) :=
 so F C6 Pw fun _ _ _ _ _ _ hr=>have nd:=C6.nd; have hu:=hr.units; (aE (kQ (i:=3) nd rfl (cQ hu (gH ["number","factors","place","p"] (sc:=aT (top 26)) (XN:=["factors","place","p","inverse"]) (fZ rfl cv (bw 2)) (fun _ _ _ _=>(kW (i:=0) (show (["number","factors","place","p"]:List Str).Nodup by decide +kernel) rfl)) (fun _ _ _ _=>(.some (ff (mX hu) (cc gi (cc lq (bw 0) (cQ hu (bw 1) (bw 2) (fun _ _=>rfl))) (bw 3)) aS (gy _)))) (fun _ _ _ _=>(bw 0))) aS (fun _ _=>rfl)))
 (aP (ck (cj (gH ["factor","inverse","p"] (sc:=aT (top 26)) (XN:=["factors","place","p","inverse"]) (fF (bw 0)) (fun _ _ _ _=>(kW (i:=0) (show (["factor","inverse","p"]:List Str).Nodup by decide +kernel) rfl)) (fun _ _ _ _=>.none) (fun _ _ _ _=>(cc gi (cc lq (bw 0) (bw 1)) (bw 2))))))))
theorem C5:cx ["equations","p","by_place","equation","left","place","last"] ["equations","p"] (aT (top 28)):=rO
theorem O8 {f:Addr} {fd:aG} (F:oj K "solved" "solved" (top 28) f fd) (gk:mg "list" = none) {Pd:Addr} {Pk:aG} (kR:mT P w K mg base gP 1 Pd Pk "cleared" ["factors","place","other","p"] (cX K lS)) {Fv:Addr} {FH:aG} (nT:mT P w K mg base gP 1 Fv FH "last_place" ["factors"] (cX K mi)) {Sw:Addr} {SM:aG} (xD:mT P w K mg base gP 1 Sw SM "scaled" ["factors","place","p"] (cX K t8)):gf P w K mg base gP 2 f fd ["equations","p"] (cX K t7) :=
 so F C5 Pu fun _ _ _ _ _ _ hr=>have nd:=C5.nd; have hu:=hr.units; (aE (kQ (i:=2) nd rfl ud)
 (aE (ft bK rfl (fF (bw 0)) (kW (i:=3) nd rfl) (aE (kQ (i:=4) nd rfl (bw 3))
 (aE (QZ (j:=5) (k:=4) bK rfl nd (bw 2) rfl rfl (bh kR.ok (hr.mono (by decide)) rfl kR.mg kR.kp kR.bi (ao (bw 4) (ao (bw 5) (ao (cQ hu (bw 2) (bw 5) (fun _ _=>rfl)) (ao (bw 1) aL))))))
 (aE (kQ (i:=6) nd rfl (bh nT.ok (hr.mono (by decide)) rfl nT.mg nT.kp nT.bi (ao (bw 4) aL)))
 (aP (hU (Ox (bw 6)) (aE (kQ (i:=4) nd rfl (bh xD.ok (hr.mono (by decide)) rfl xD.mg xD.kp xD.bi (ao (bw 4) (ao (bw 6) (ao (bw 1) aL)))))
 (aE (ft bK rfl (fF (A4 (Jb rfl) rfl gk xF (ao (bw 2) aL))) (kW (i:=5) nd rfl) (aP (kz (bh kR.ok (hr.mono (by decide)) rfl kR.mg kR.kp kR.bi (ao (cQ hu (bw 2) (bw 5) (fun _ _=>rfl)) (ao (bw 6) (ao (bw 4) (ao (bw 1) aL))))) (kA hu (bw 2) (bw 5)))))
 (aP (kz (bw 4) (kA hu (bw 2) (bw 6)))))) e8))))))
 (aP (ck (cj (bw 2))))))
theorem sS:cx ["three","count","p","factors"] ["three","count","p"] (aT (top 24)):=rO
theorem Bz {f:Addr} {fd:aG} (F:oj K "equation_of" "equation_of" (top 24) f fd) (cv:mg "range" = none):gf P w K mg base gP 1 f fd ["three","count","p"] (cX K k8) :=
 so F sS BR fun _ _ _ _ _ _ hr=>have nd:=sS.nd; have hu:=hr.units; (aE (oB ["place"] (sc:=aT (top 24)) (XN:=["three","count","p","factors"]) (i:=3) nd rfl rfl (fZ rfl cv (bw 1)) (fun _ _ _ _=>(kW (i:=0) (show (["place"]:List Str).Nodup by decide +kernel) rfl)) (fun _ _ _ _=>.none) (fun _ _ _ _=>aS))
 (aE (kz (cc lr (cQ hu (bw 3) (cQ hu (bw 0) aS (fun _ _=>rfl)) (fun _ _=>rfl)) aS) (kA hu (bw 3) (cQ hu (bw 0) aS (fun _ _=>rfl))))
 (aE (kz (cc jO (cQ hu (bw 3) (cQ hu (bw 0) aS (fun _ _=>rfl)) (fun _ _=>rfl)) aS) (kA hu (bw 3) (cQ hu (bw 0) aS (fun _ _=>rfl))))
 (aE (kz (cc jO (cQ hu (bw 3) (cQ hu (bw 0) aS (fun _ _=>rfl)) (fun _ _=>rfl)) aS) (kA hu (bw 3) (cQ hu (bw 0) aS (fun _ _=>rfl))))
 (aP (ck (cj (gH ["factor","p"] (sc:=aT (top 24)) (XN:=["three","count","p","factors"]) (fF (bw 3)) (fun _ _ _ _=>(kW (i:=0) (show (["factor","p"]:List Str).Nodup by decide +kernel) rfl)) (fun _ _ _ _=>.none) (fun _ _ _ _=>(cc gi (bw 0) (bw 1)))))))))))
theorem pq:cx ["by_place","free","count","p","numbers","place","equation"] ["by_place","free","count","p"] (aT (top 30)):=rO
theorem xm {f:Addr} {fd:aG} (F:oj K "colouring_from" "colouring_from" (top 30) f fd) (cv:mg "range" = none):gf P w K mg base gP 1 f fd ["by_place","free","count","p"] (cX K jb) :=
 so F pq xK fun _ _ _ _ _ _ hr=>have nd:=pq.nd; have hu:=hr.units; (aE (oB ["place"] (sc:=aT (top 30)) (XN:=["by_place","free","count","p","numbers","place","equation"]) (i:=4) nd rfl rfl (fZ rfl cv (bw 2)) (fun _ _ _ _=>(kW (i:=0) (show (["place"]:List Str).Nodup by decide +kernel) rfl)) (fun _ _ _ _=>.none) (fun _ _ _ _=>aS))
 (aE (kz aS (kA hu (bw 4) (bw 1)))
 (aE (ft bK rfl (OB (bw 0)) (lh rfl (du (kW (i:=5) nd rfl) (du (kW (i:=6) nd rfl) jC)) (dv (dv jE))) (aP (kz (cc gi (KR Ei (cQ hu (bw 6) (bw 1) (fun _ _=>rfl))) (bw 3)) (kA hu (bw 4) (bw 5)))))
 (aP (ck (cj (bw 4)))))))
theorem Hi:cx ["drawing","p","count","by_place"] ["drawing","p"] (aT (top 29)):=rO
theorem So {f:Addr} {fd:aG} (F:oj K "basis" "basis" (top 29) f fd) (dS:mg "len" = none) (cv:mg "range" = none) {oK:Addr} {oN:aG} (fL:mT P w K mg base gP 1 oK oN "refuse_other" ["p"] (cX K eW)) {vI:Addr} {vN:aG} (iR:mT P w K mg base gP 4 vI vN "bows" ["drawing"] (cX K fE)) {Sv:Addr} {SK:aG} (xC:mT P w K mg base gP 2 Sv SK "solved" ["equations","p"] (cX K t7)) {mE:Addr} {mH:aG} (fj:mT P w K mg base gP 5 mE mH "places_at" ["drawing"] (cX K dQ)) {Cv:Addr} {CA:aG} (mr:mT P w K mg base gP 1 Cv CA "equation_of" ["three","count","p"] (cX K k8)) {yH:Addr} {yN:aG} (jS:mT P w K mg base gP 1 yH yN "colouring_from" ["by_place","free","count","p"] (cX K jb)):gf P w K mg base gP 6 f fd ["drawing","p"] (cX K oq) :=
 so F Hi Ti fun _ _ _ _ _ _ hr=>have nd:=Hi.nd; have hu:=hr.units; (aE (kg (bh fL.ok (hr.mono (by decide)) rfl fL.mg fL.kp fL.bi (ao (bw 1) aL)))
 (aE (kQ (i:=2) nd rfl (eY fO rfl dS j3 (ao (bh iR.ok (hr.mono (by decide)) rfl iR.mg iR.kp iR.bi (ao (bw 0) aL)) aL)))
 (aE (kQ (i:=3) nd rfl (bh xC.ok (hr.mono (by decide)) rfl xC.mg xC.kp xC.bi (ao (cj (gH ["three","count","p"] (sc:=aT (top 29)) (XN:=["drawing","p","count","by_place"]) (fF (bh fj.ok (hr.mono (by decide)) rfl fj.mg fj.kp fj.bi (ao (bw 0) aL))) (fun _ _ _ _=>(kW (i:=0) (show (["three","count","p"]:List Str).Nodup by decide +kernel) rfl)) (fun _ _ _ _=>.none) (fun _ _ _ _=>(bh mr.ok (hr.mono (by decide)) rfl mr.mg mr.kp mr.bi (ao (bw 0) (ao (bw 1) (ao (bw 2) aL))))))) (ao (cj (bw 1)) aL))))
 (aP (ck (cj (gH ["free","by_place","count","p"] (sc:=aT (top 29)) (XN:=["drawing","p","count","by_place"]) (fZ rfl cv (bw 2)) (fun _ _ _ _=>(kW (i:=0) (show (["free","by_place","count","p"]:List Str).Nodup by decide +kernel) rfl)) (fun _ _ _ _=>(.some (ff (KY hu) (bw 0) (bw 1) (by with_unfolding_all rfl)))) (fun _ _ _ _=>(bh jS.ok (hr.mono (by decide)) rfl jS.mg jS.kp jS.bi (ao (bw 1) (ao (bw 0) (ao (bw 2) (ao (bw 3) aL)))))))))))))
theorem uD:cx ["drawing","p"] ["drawing","p"] (aT (top 31)):=rO
theorem uJ {f:Addr} {fd:aG} (F:oj K "count_colourings" "count_colourings" (top 31) f fd) (dS:mg "len" = none) {oM:Addr} {oO:aG} (fM:mT P w K mg base gP 1 oM oO "power_of" ["p","count"] (cX K fR)) {Fw:Addr} {FI:aG} (nU:mT P w K mg base gP 6 Fw FI "basis" ["drawing","p"] (cX K oq)):gf P w K mg base gP 7 f fd ["drawing","p"] (cX K gG) :=
 so F uD uL fun _ _ _ _ _ _ hr=>(aP (ck (cj (bh fM.ok (hr.mono (by decide)) rfl fM.mg fM.kp fM.bi (ao (bw 1) (ao (eY fO rfl dS j3 (ao (bh nU.ok (hr.mono (by decide)) rfl nU.mg nU.kp nU.bi (ao (bw 0) (ao (bw 1) aL))) aL)) aL))))))
theorem uU:cx ["_law_found","_law_steps","_law_p","_law_numbers","_law_step","_law_both"] ["_law_found","_law_steps","_law_p"] (aT (top 45)):=rO
theorem Cr {f:Addr} {fd:aG} (F:oj K "_law_closed" "_law_closed" (top 45) f fd) (qY:mg "zip" = none):gf P w K mg base gP 1 f fd ["_law_found","_law_steps","_law_p"] (cX K mh) :=
 so F uU CK fun _ _ _ _ _ _ hr=>have nd:=uU.nd; have hu:=hr.units; (aE (ft bK rfl (fF (i8 (bw 0) lg (jB aS))) (kW (i:=3) nd rfl) (aP (ft bK rfl (fF (bw 1)) (kW (i:=4) nd rfl) (aE (MR (oB ["_law_one","_law_other","_law_p"] (sc:=aT (top 45)) (XN:=["_law_found","_law_steps","_law_p","_law_numbers","_law_step","_law_both"]) (i:=5) nd rfl rfl (ER rfl qY (bw 3) (bw 4)) (fun _ _ _ _=>(lh rfl (du (kW (i:=0) (show (["_law_one","_law_other","_law_p"]:List Str).Nodup by decide +kernel) rfl) (du (kW (i:=1) (show (["_law_one","_law_other","_law_p"]:List Str).Nodup by decide +kernel) rfl) jC)) (dv (dv jE)))) (fun _ _ _ _=>.none) (fun _ _ _ _=>(cc gi (cc lr (bw 0) (bw 1)) (bw 2)))))
 (aP (hU (ff (Dk hu) (bw 5) (bw 0) (by with_unfolding_all rfl)) (aP (ck (cj kF))) e8))))))
 (aP (ck (cj kF))))
theorem QF:cx ["_law_script","_law_first","_law_rows","_law_handed","_law_wide","_law_odd","_law_p","_law_found","_law_steps"] ["_law_script"] (aT (top 46)):=rO
theorem X7 {f:Addr} {fd:aG} (F:oj K "law" "law" (top 46) f fd) (dS:mg "len" = none) (gk:mg "list" = none) {Lw:Addr} {LH:aG} (jJ:mT P w K mg base gP 1 Lw LH "_law_cell" ["_law_script","_law_k"] (cX K ic)) {Lu:Addr} {LF:aG} (rG:mT P w K mg base gP 1 Lu LF "_law_made" ["_law_cells","_law_strings"] (cX K mz)) {vG:Addr} {vL:aG} (iP:mT P w K mg base gP 3 vG vL "_law_bows" ["_law_rows"] (cX K dM)) {Cu:Addr} {Cz:aG} (gO:mT P w K mg base gP 7 Cu Cz "_law_refused" ["_law_rows","_law_p"] (cX K jx)) {IB:Addr} {IM:aG} (iF:mT P w K mg base gP 1 IB IM "_law_times" ["_law_p","_law_count"] (cX K jN)) {yI:Addr} {yO:aG} (jT:mT P w K mg base gP 6 yI yO "all_colourings" ["drawing","p"] (cX K jc)) {Ft:Addr} {FF:aG} (nR:mT P w K mg base gP 3 Ft FF "_law_rising" ["_law_found","_law_rules","_law_wide","_law_p"] (cX K mf)) {Fs:Addr} {FE:aG} (nQ:mT P w K mg base gP 4 Fs FE "_law_threes" ["_law_rows"] (cX K i6)) {Fw:Addr} {FI:aG} (nU:mT P w K mg base gP 6 Fw FI "basis" ["drawing","p"] (cX K oq)) {vH:Addr} {vM:aG} (iQ:mT P w K mg base gP 7 vH vM "count_colourings" ["drawing","p"] (cX K gG)) {Fu:Addr} {FG:aG} (nS:mT P w K mg base gP 1 Fu FG "_law_closed" ["_law_found","_law_steps","_law_p"] (cX K mh)):gf P w K mg base gP 8 f fd ["_law_script"] (cX K K2.C0) :=
 so F QF Yr fun _ _ _ _ _ _ hr=>have nd:=QF.nd; have hu:=hr.units; (aE (kQ (i:=1) nd rfl (bh jJ.ok (hr.mono (by decide)) rfl jJ.mg jJ.kp jJ.bi (ao (bw 0) (ao aS aL))))
 (aE (kQ (i:=2) nd rfl (bh rG.ok (hr.mono (by decide)) rfl rG.mg rG.kp rG.bi (ao (i8 (bw 0) (jB aS) (jB (cc lr aS (cc gi (cc oE (bw 1) aS) aS)))) (ao (cc lr aS (cc gi (cc oE (bw 1) aS) aS)) aL))))
 (aE (MR (oB ["_law_row"] (sc:=aT (top 46)) (XN:=["_law_script","_law_first","_law_rows","_law_handed","_law_wide","_law_odd","_law_p","_law_found","_law_steps"]) (i:=3) nd rfl rfl (fF (bw 2)) (fun _ _ _ _=>(kW (i:=0) (show (["_law_row"]:List Str).Nodup by decide +kernel) rfl)) (fun _ _ _ _=>.none) (fun _ _ _ _=>(cj (A4 LP rfl gk xF (ao (bw 0) aL))))))
 (aE (kQ (i:=4) nd rfl (eY fO rfl dS j3 (ao (bh iP.ok (hr.mono (by decide)) rfl iP.mg iP.kp iP.bi (ao (bw 2) aL)) aL)))
 (aE (kQ (i:=5) nd rfl (cc jO (cc gi (bh jJ.ok (hr.mono (by decide)) rfl jJ.mg jJ.kp jJ.bi (ao (bw 0) (ao aS aL))) aS) aS))
 (aE (hU (NT.pt (MO (ff (mX hu) (cc gi (cc oE (bw 1) aS) aS) aS (gy _)) (Hs (ff (Dk hu) (bw 5) (gY (ao aS (ao aS (ao aS aL)))) (by with_unfolding_all rfl))))) (aP (ck (cj (ET (mX hu) (bh gO.ok (hr.mono (by decide)) rfl gO.mg gO.kp gO.bi (ao (bw 3) (ao (bw 5) aL))) (gY (ao kF (ao kF aL))) (gy _))))) e8)
 (aE (kQ (i:=6) nd rfl (cQ hu (gY (ao aS (ao aS (ao aS aL)))) (cc gi (bw 1) aS) (fun _ _=>rfl)))
 (aE (hU (ff EW (bh iF.ok (hr.mono (by decide)) rfl iF.mg iF.kp iF.bi (ao (bw 6) (ao (bw 4) aL))) aS (gy _)) (aP (ck (cj (ET (mX hu) (bh gO.ok (hr.mono (by decide)) rfl gO.mg gO.kp gO.bi (ao (bw 3) (ao (bw 6) aL))) (gY (ao kF (ao kF aL))) (gy _))))) e8)
 (aE (kQ (i:=7) nd rfl (bh jT.ok (hr.mono (by decide)) rfl jT.mg jT.kp jT.bi (ao (bw 3) (ao (bw 6) aL))))
 (aE (hU (NT.pt (EN (ff (yp hu) (bw 3) (bw 2) (gy _)) (zX (qU (i7 (bh nR.ok (hr.mono (by decide)) rfl nR.mg nR.kp nR.bi (ao (bw 7) (ao (bh nQ.ok (hr.mono (by decide)) rfl nQ.mg nQ.kp nQ.bi (ao (bw 2) aL)) (ao (bw 4) (ao (bw 6) aL)))))))))) (aP (ck (cj kF))) e8)
 (aE (kQ (i:=8) nd rfl (bh nU.ok (hr.mono (by decide)) rfl nU.mg nU.kp nU.bi (ao (bw 3) (ao (bw 6) aL))))
 (aE (hU (NT.pt (EN (ff (yp hu) (eY fO rfl dS j3 (ao (bw 7) aL)) (bh iQ.ok (hr.mono (by decide)) rfl iQ.mg iQ.kp iQ.bi (ao (bw 3) (ao (bw 6) aL))) (gy _)) (zX (ff (yp hu) (eY fO rfl dS j3 (ao (bw 7) aL)) (bh iF.ok (hr.mono (by decide)) rfl iF.mg iF.kp iF.bi (ao (bw 6) (ao (eY fO rfl dS j3 (ao (bw 8) aL)) aL))) (gy _))))) (aP (ck (cj kF))) e8)
 (aP (ck (cj (bh nS.ok (hr.mono (by decide)) rfl nS.mg nS.kp nS.bi (ao (bw 7) (ao (bw 8) (ao (bw 6) aL)))))))))))))))))))
end
theorem all_mk {l:D1} {w:World} {K:ak} {h:Heap} {mg:Str->Option Value} {fa:Addr} (X:K.In h) (G:h.Ns bP mg) (hfa:mg "law" = some (.ref fa))
  {f0:Addr} {d0:aG} (F0:At K "_law_cell" (top 33) f0 d0)
  {f1:Addr} {d1:aG} (F1:At K "_law_made" (top 35) f1 d1)
  {f2:Addr} {d2:aG} (F2:At K "_law_bow" (top 36) f2 d2)
  {f3:Addr} {d3:aG} (F3:At K "_law_homes" (top 37) f3 d3)
  {f4:Addr} {d4:aG} (F4:At K "_law_bows" (top 38) f4 d4)
  {f5:Addr} {d5:aG} (F5:At K "refuse_other" (top 19) f5 d5)
  {f6:Addr} {d6:aG} (F6:At K "spots_on" (top 7) f6 d6)
  {f7:Addr} {d7:aG} (F7:At K "bows_on" (top 16) f7 d7)
  {f8:Addr} {d8:aG} (F8:At K "bow_at" (top 17) f8 d8)
  {f9:Addr} {d9:aG} (F9:At K "bows" (top 18) f9 d9)
  {f10:Addr} {d10:aG} (Wf:At K "power_of" (top 22) f10 d10)
  {f11:Addr} {d11:aG} (F11:At K "next_of" (top 8) f11 d11)
  {f12:Addr} {d12:aG} (F12:At K "coming_of" (top 12) f12 d12)
  {f13:Addr} {d13:aG} (F13:At K "passings_of" (top 5) f13 d13)
  {f14:Addr} {d14:aG} (F14:At K "names_of" (top 6) f14 d14)
  {f15:Addr} {d15:aG} (We:At K "places_at" (top 20) f15 d15)
  {f16:Addr} {d16:aG} (YU:At K "one_of_each" (top 10) f16 d16)
  {f17:Addr} {d17:aG} (YT:At K "keeps_all" (top 21) f17 d17)
  {f18:Addr} {d18:aG} (F18:At K "all_colourings" (top 23) f18 d18)
  {f19:Addr} {d19:aG} (F19:At K "_law_refused" (top 43) f19 d19)
  {f20:Addr} {d20:aG} (F20:At K "_law_times" (top 42) f20 d20)
  {f21:Addr} {d21:aG} (YS:At K "refuse_other" (top 19) f21 d21)
  {f22:Addr} {d22:aG} (F22:At K "all_colourings" (top 23) f22 d22)
  {f23:Addr} {d23:aG} (F23:At K "_law_whole" (top 34) f23 d23)
  {f24:Addr} {d24:aG} (F24:At K "_law_list" (top 41) f24 d24)
  {f25:Addr} {d25:aG} (F25:At K "_law_keeps" (top 40) f25 d25)
  {f26:Addr} {d26:aG} (F26:At K "_law_rising" (top 44) f26 d26)
  {f27:Addr} {d27:aG} (F27:At K "_law_threes" (top 39) f27 d27)
  {f28:Addr} {d28:aG} (F28:At K "cleared" (top 27) f28 d28)
  {f29:Addr} {d29:aG} (F29:At K "last_place" (top 25) f29 d29)
  {f30:Addr} {d30:aG} (F30:At K "scaled" (top 26) f30 d30)
  {f31:Addr} {d31:aG} (F31:At K "solved" (top 28) f31 d31)
  {f32:Addr} {d32:aG} (F32:At K "equation_of" (top 24) f32 d32)
  {f33:Addr} {d33:aG} (F33:At K "colouring_from" (top 30) f33 d33)
  {f34:Addr} {d34:aG} (YR:At K "basis" (top 29) f34 d34)
  {f35:Addr} {d35:aG} (F35:At K "count_colourings" (top 31) f35 d35)
  {f36:Addr} {d36:aG} (F36:At K "_law_closed" (top 45) f36 d36)
  {f37:Addr} {d37:aG} (F37:At K "law" (top 46) f37 d37)
  (YY:cJ K bP "len" = some none:=by k_is) (Uk:cJ K bP "range" = some none:=by k_is) (GR:cJ K bP "enumerate" = some none:=by k_is) (YX:cJ K bP "set" = some none:=by k_is) (Ql:cJ K bP "sorted" = some none:=by k_is) (Wi:cJ K bP "list" = some none:=by k_is) (YW:cJ K bP "zip" = some none:=by k_is) (Y0:cJ K bP "all" = some none:=by k_is) (D7:cJ K bP "isinstance" = some none:=by k_is) (Wj:cJ K bP "bool" = some none:=by k_is) (YZ:cJ K bP "int" = some none:=by k_is) {cz:Addr} (iN:cJ K bP "NoPrime" = some (some (.ref cz)):=by k_is) (l8:fT K cz [.type "ValueError",.type "Exception",.type "BaseException",.type "object"] "ValueError.__new__" = true:=by k_exc) (Kl:autoParam (e7 K (.ref cz) "__getattribute__" = some (some (.builtin "BaseException.__getattribute__"))) Af._auto_1) (Kj:autoParam (e7 K (.ref cz) "__getattr__" = some none) Af._auto_1) (Kh:autoParam (e7 K (.ref cz) "__class__" = some (some (.builtin "object.__class__"))) Af._auto_1) (Ke:autoParam (mU K (.builtin "object.__class__") "__get__" = some (some (.builtin "getset_descriptor.__get__"))) Af._auto_1) (Kc:autoParam (vc K (.builtin "object.__class__")=some true) Af._auto_1) (Ka:autoParam (lO K cz (.type "object")=some true) Af._auto_1) (J8:autoParam (lO K cz (.type "BaseException")=some true) Af._auto_1) (J4:autoParam ((JR K cz).isSome=true) Af._auto_1) {cy:Addr} (iM:cJ K bP "TooMany" = some (some (.ref cy)):=by k_is) (l7:fT K cy [.type "ValueError",.type "Exception",.type "BaseException",.type "object"] "ValueError.__new__" = true:=by k_exc) (Kk:autoParam (e7 K (.ref cy) "__getattribute__" = some (some (.builtin "BaseException.__getattribute__"))) Af._auto_1) (Ki:autoParam (e7 K (.ref cy) "__getattr__" = some none) Af._auto_1) (Kg:autoParam (e7 K (.ref cy) "__class__" = some (some (.builtin "object.__class__"))) Af._auto_1) (Kd:autoParam (mU K (.builtin "object.__class__") "__get__" = some (some (.builtin "getset_descriptor.__get__"))) Af._auto_1) (Kb:autoParam (vc K (.builtin "object.__class__")=some true) Af._auto_1) (J9:autoParam (lO K cy (.type "object")=some true) Af._auto_1) (J7:autoParam (lO K cy (.type "BaseException")=some true) Af._auto_1) (J0:autoParam ((JR K cy).isSome=true) Af._auto_1) {cY:Addr} (qW:cJ K bP "KnotError" = some (some (.ref cY)):=by k_is) (rB:fT K cY [.type "ValueError",.type "Exception",.type "BaseException",.type "object"] "ValueError.__new__" = true:=by k_exc) (Ef:autoParam (e7 K (.ref cY) "__getattribute__" = some (some (.builtin "BaseException.__getattribute__"))) Af._auto_1) (Ee:autoParam (e7 K (.ref cY) "__getattr__" = some none) Af._auto_1) (Ed:autoParam (e7 K (.ref cY) "__class__" = some (some (.builtin "object.__class__"))) Af._auto_1) (Ec:autoParam (mU K (.builtin "object.__class__") "__get__" = some (some (.builtin "getset_descriptor.__get__"))) Af._auto_1) (Eb:autoParam (vc K (.builtin "object.__class__")=some true) Af._auto_1) (Ea:autoParam (lO K cY (.type "object")=some true) Af._auto_1) (D9:autoParam (lO K cY (.type "BaseException")=some true) Af._auto_1) (D8:autoParam ((JR K cY).isSome=true) Af._auto_1) (vB:autoParam (dN K (.type "NoneType") (.ref cy)=some false) Az._auto_1) (vC:autoParam (dN K (.type "NoneType") (.ref cz)=some false) Az._auto_1) (kI:autoParam (dN K (.ref cz) (.ref cy)=some false) Az._auto_1) (kG:autoParam (dN K (.ref cy) (.ref cy)=some true) Az._auto_1) (kJ:autoParam (dN K (.ref cz) (.ref cz)=some true) Az._auto_1) (kH:autoParam (dN K (.ref cy) (.ref cz)=some false) Az._auto_1) {tw:Value} {tu:Option Addr} {mK:ClassData} {sN:Array (Option Value)} (tG:K.lookup cy=some ⟨tw,tu,.cls mK,sN⟩:=by k_is) (tD:autoParam (mK.mro.contains (.ref cY)=true) Ae._auto_1) {tx:Value} {tv:Option Addr} {mL:ClassData} {sO:Array (Option Value)} (tH:K.lookup cz=some ⟨tx,tv,.cls mL,sO⟩:=by k_is) (tE:autoParam (mL.mro.contains (.ref cY)=true) Ae._auto_1) {gF:Tok} (mJ:cJ K bP "MOST_GONE_THROUGH" = some (some (.int 2500 gF)):=by k_is) {mD:Addr} (DB:cJ K bP "PRIMES" = some (some (.ref mD)):=by k_is) (oa:autoParam (AF K mD [3,5,7]=true) Af._auto_1) :
  ∃ fd:aG,(∀ (s:az) (v:Value),Qh s fd ⟨[v],[]⟩ [("_law_script",v)])/\∀ base:Heap,K.In base->base.Ns bP mg->gf l.prog w K mg base gP 8 fa fd ["_law_script"] (cX K K2.C0):=by
 have e:=hfa.symm.trans (gQ X G F37.a);cases e;have b0:=F0.F.binds (ps:=["_law_script","_law_k"]) fun _ _ _ _ _ _ us hl=>by obtain⟨_,_,rfl⟩:=yv hl; rfl
 have b1:=F1.F.binds (ps:=["_law_cells","_law_strings"]) fun _ _ _ _ _ _ us hl=>by obtain⟨_,_,rfl⟩:=yv hl; rfl
 have b2:=F2.F.binds (ps:=["_law_row","_law_at","_law_k"]) fun _ _ _ _ _ _ us hl=>by obtain⟨_,_,_,rfl⟩:=HL hl; rfl
 have b3:=F3.F.binds (ps:=["_law_rows"]) fun _ _ _ _ _ _ us hl=>by obtain⟨_,rfl⟩:=uG hl; rfl
 have b4:=F4.F.binds (ps:=["_law_rows"]) fun _ _ _ _ _ _ us hl=>by obtain⟨_,rfl⟩:=uG hl; rfl
 have b5:=F5.F.binds (ps:=["p"]) fun _ _ _ _ _ _ us hl=>by obtain⟨_,rfl⟩:=uG hl; rfl
 have b6:=F6.F.binds (ps:=["row","string"]) fun _ _ _ _ _ _ us hl=>by obtain⟨_,_,rfl⟩:=yv hl; rfl
 have b7:=F7.F.binds (ps:=["row","string"]) fun _ _ _ _ _ _ us hl=>by obtain⟨_,_,rfl⟩:=yv hl; rfl
 have b8:=F8.F.binds (ps:=["drawing"]) fun _ _ _ _ _ _ us hl=>by obtain⟨_,rfl⟩:=uG hl; rfl
 have b9:=F9.F.binds (ps:=["drawing"]) fun _ _ _ _ _ _ us hl=>by obtain⟨_,rfl⟩:=uG hl; rfl
 have b10:=Wf.F.binds (ps:=["p","count"]) fun _ _ _ _ _ _ us hl=>by obtain⟨_,_,rfl⟩:=yv hl; rfl
 have b11:=F11.F.binds (ps:=["drawing"]) fun _ _ _ _ _ _ us hl=>by obtain⟨_,rfl⟩:=uG hl; rfl
 have b12:=F12.F.binds (ps:=["drawing"]) fun _ _ _ _ _ _ us hl=>by obtain⟨_,rfl⟩:=uG hl; rfl
 have b13:=F13.F.binds (ps:=["rows"]) fun _ _ _ _ _ _ us hl=>by obtain⟨_,rfl⟩:=uG hl; rfl
 have b14:=F14.F.binds (ps:=["drawing"]) fun _ _ _ _ _ _ us hl=>by obtain⟨_,rfl⟩:=uG hl; rfl
 have b15:=We.F.binds (ps:=["drawing"]) fun _ _ _ _ _ _ us hl=>by obtain⟨_,rfl⟩:=uG hl; rfl
 have b16:=YU.F.binds (ps:=["lists"]) fun _ _ _ _ _ _ us hl=>by obtain⟨_,rfl⟩:=uG hl; rfl
 have b17:=YT.F.binds (ps:=["places","p","numbers"]) fun _ _ _ _ _ _ us hl=>by obtain⟨_,_,_,rfl⟩:=HL hl; rfl
 have b18:=F18.F.binds (ps:=["drawing","p"]) fun _ _ _ _ _ _ us hl=>by obtain⟨_,_,rfl⟩:=yv hl; rfl
 have b19:=F19.F.binds (ps:=["_law_rows","_law_p"]) fun _ _ _ _ _ _ us hl=>by obtain⟨_,_,rfl⟩:=yv hl; rfl
 have b20:=F20.F.binds (ps:=["_law_p","_law_count"]) fun _ _ _ _ _ _ us hl=>by obtain⟨_,_,rfl⟩:=yv hl; rfl
 have b21:=YS.F.binds (ps:=["p"]) fun _ _ _ _ _ _ us hl=>by obtain⟨_,rfl⟩:=uG hl; rfl
 have b22:=F22.F.binds (ps:=["drawing","p"]) fun _ _ _ _ _ _ us hl=>by obtain⟨_,_,rfl⟩:=yv hl; rfl
 have b23:=F23.F.binds (ps:=["_law_found"]) fun _ _ _ _ _ _ us hl=>by obtain⟨_,rfl⟩:=uG hl; rfl
 have b24:=F24.F.binds (ps:=["_law_found","_law_wide","_law_p"]) fun _ _ _ _ _ _ us hl=>by obtain⟨_,_,_,rfl⟩:=HL hl; rfl
 have b25:=F25.F.binds (ps:=["_law_rules","_law_p","_law_numbers"]) fun _ _ _ _ _ _ us hl=>by obtain⟨_,_,_,rfl⟩:=HL hl; rfl
 have b26:=F26.F.binds (ps:=["_law_found","_law_rules","_law_wide","_law_p"]) fun _ _ _ _ _ _ us hl=>by obtain⟨_,_,_,_,rfl⟩:=Xy hl; rfl
 have b27:=F27.F.binds (ps:=["_law_rows"]) fun _ _ _ _ _ _ us hl=>by obtain⟨_,rfl⟩:=uG hl; rfl
 have b28:=F28.F.binds (ps:=["factors","place","other","p"]) fun _ _ _ _ _ _ us hl=>by obtain⟨_,_,_,_,rfl⟩:=Xy hl; rfl
 have b29:=F29.F.binds (ps:=["factors"]) fun _ _ _ _ _ _ us hl=>by obtain⟨_,rfl⟩:=uG hl; rfl
 have b30:=F30.F.binds (ps:=["factors","place","p"]) fun _ _ _ _ _ _ us hl=>by obtain⟨_,_,_,rfl⟩:=HL hl; rfl
 have b31:=F31.F.binds (ps:=["equations","p"]) fun _ _ _ _ _ _ us hl=>by obtain⟨_,_,rfl⟩:=yv hl; rfl
 have b32:=F32.F.binds (ps:=["three","count","p"]) fun _ _ _ _ _ _ us hl=>by obtain⟨_,_,_,rfl⟩:=HL hl; rfl
 have b33:=F33.F.binds (ps:=["by_place","free","count","p"]) fun _ _ _ _ _ _ us hl=>by obtain⟨_,_,_,_,rfl⟩:=Xy hl; rfl
 have b34:=YR.F.binds (ps:=["drawing","p"]) fun _ _ _ _ _ _ us hl=>by obtain⟨_,_,rfl⟩:=yv hl; rfl
 have b35:=F35.F.binds (ps:=["drawing","p"]) fun _ _ _ _ _ _ us hl=>by obtain⟨_,_,rfl⟩:=yv hl; rfl
 have b36:=F36.F.binds (ps:=["_law_found","_law_steps","_law_p"]) fun _ _ _ _ _ _ us hl=>by obtain⟨_,_,_,rfl⟩:=HL hl; rfl
 have dS:=eI X G YY;have cv:=eI X G Uk;have dR:=eI X G GR;have yr:=eI X G YX;have jP:=eI X G Ql;have gk:=eI X G Wi;have qY:=eI X G YW;have yt:=eI X G Y0;have dH:=eI X G D7;have EZ:=eI X G Wj;have K1:=eI X G YZ;have lR:vb K cz:=⟨Kl,Kj,Kh,Ke,Kc,Ka,J8,J4⟩;have lQ:vb K cy:=⟨Kk,Ki,Kg,Kd,Kb,J9,J7,J0⟩;have wg:vb K cY:=⟨Ef,Ee,Ed,Ec,Eb,Ea,D9,D8⟩;have jz:subIn K cy (.ref cY)=true:=by unfold subIn; rw [tG]; exact tD
 have jA:subIn K cz (.ref cY)=true:=by unfold subIn; rw [tH]; exact tE
 obtain⟨Fa,Fl⟩:=F37;obtain⟨oc,od,kV,doc,pm,an,oh,ct,PS,rfl,lk,Gs⟩:=Fl.ex;refine⟨lH "law" "law" (pH (top 46)) (jQ (top 46)) (aT (top 46)) .none kV doc pm an oh ct,fun s v=>.of_eq rfl,fun base _ _=>?_⟩;have ok0:=Iw (P:=l.prog) (w:=w) (mg:=mg) (base:=base) F0.F dS;have ok1:=Ir (P:=l.prog) (w:=w) (mg:=mg) (base:=base) F1.F dS cv;have ok2:=Lo (P:=l.prog) (w:=w) (mg:=mg) (base:=base) F2.F dS cv;have Yx:=Fn (P:=l.prog) (w:=w) (mg:=mg) (base:=base) F3.F dR dS cv ⟨ok2,F2.mg X G,F2.F.kp,b2⟩;have ok4:=Iy (P:=l.prog) (w:=w) (mg:=mg) (base:=base) F4.F yr jP ⟨Yx,F3.mg X G,F3.F.kp,b3⟩;have ok5:=yF (P:=l.prog) (w:=w) (mg:=mg) (base:=base) F5.F iN (gQ X G iN) l8 lR (gQ X G DB) oa;have ok6:=Io (P:=l.prog) (w:=w) (mg:=mg) (base:=base) F6.F;have ok7:=Lq (P:=l.prog) (w:=w) (mg:=mg) (base:=base) F7.F ⟨ok6,F6.mg X G,F6.F.kp,b6⟩;have ok8:=Pa (P:=l.prog) (w:=w) (mg:=mg) (base:=base) F8.F dR ⟨ok7,F7.mg X G,F7.F.kp,b7⟩;have ok9:=Vk (P:=l.prog) (w:=w) (mg:=mg) (base:=base) F9.F gk yr jP ⟨ok8,F8.mg X G,F8.F.kp,b8⟩;have Xi:=Ip (P:=l.prog) (w:=w) (mg:=mg) (base:=base) Wf.F cv;have acY:=Ln (P:=l.prog) (w:=w) (mg:=mg) (base:=base) F11.F qY;have acX:=Fp (P:=l.prog) (w:=w) (mg:=mg) (base:=base) F12.F ⟨acY,F11.mg X G,F11.F.kp,b11⟩;have acW:=Bw (P:=l.prog) (w:=w) (mg:=mg) (base:=base) F13.F;have acV:=Iq (P:=l.prog) (w:=w) (mg:=mg) (base:=base) F14.F jP ⟨acW,F13.mg X G,F13.F.kp,b13⟩;have Xh:=Fh (P:=l.prog) (w:=w) (mg:=mg) (base:=base) We.F ⟨ok9,F9.mg X G,F9.F.kp,b9⟩ ⟨ok8,F8.mg X G,F8.F.kp,b8⟩ ⟨acX,F12.mg X G,F12.F.kp,b12⟩ ⟨acV,F14.mg X G,F14.F.kp,b14⟩;have ZG:=Bx (P:=l.prog) (w:=w) (mg:=mg) (base:=base) YU.F;have ZF:=Fo (P:=l.prog) (w:=w) (mg:=mg) (base:=base) YT.F yt;have acU:=vF (P:=l.prog) (w:=w) (mg:=mg) (base:=base) F18.F dS gk cv iM (gQ X G iM) l7 lQ (gQ X G mJ) ⟨ok5,F5.mg X G,F5.F.kp,b5⟩ ⟨ok9,F9.mg X G,F9.F.kp,b9⟩ ⟨Xi,Wf.mg X G,Wf.F.kp,b10⟩ ⟨Xh,We.mg X G,We.F.kp,b15⟩ ⟨ZG,YU.mg X G,YU.F.kp,b16⟩ ⟨ZF,YT.mg X G,YT.F.kp,b17⟩;have acT:=By (P:=l.prog) (w:=w) (mg:=mg) (base:=base) F19.F dH iN (gQ X G iN) l8 lR iM (gQ X G iM) l7 lQ qW (gQ X G qW) rB wg vB vC kI kG kJ kH jz jA ⟨acU,F18.mg X G,F18.F.kp,b18⟩;have acR:=Fj (P:=l.prog) (w:=w) (mg:=mg) (base:=base) F20.F cv;have ZE:=zJ (P:=l.prog) (w:=w) (mg:=mg) (base:=base) YS.F (gQ X G DB) oa;have acQ:=xn (P:=l.prog) (w:=w) (mg:=mg) (base:=base) F22.F dS gk cv (gQ X G mJ) ⟨ZE,YS.mg X G,YS.F.kp,b21⟩ ⟨ok9,F9.mg X G,F9.F.kp,b9⟩ ⟨Xi,Wf.mg X G,Wf.F.kp,b10⟩ ⟨Xh,We.mg X G,We.F.kp,b15⟩ ⟨ZG,YU.mg X G,YU.F.kp,b16⟩ ⟨ZF,YT.mg X G,YT.F.kp,b17⟩;have acP:=Fi (P:=l.prog) (w:=w) (mg:=mg) (base:=base) F23.F EZ K1 dH;have acO:=Iu (P:=l.prog) (w:=w) (mg:=mg) (base:=base) F24.F yt dH dS gk ⟨acP,F23.mg X G,F23.F.kp,b23⟩;have acN:=Fm (P:=l.prog) (w:=w) (mg:=mg) (base:=base) F25.F;have acM:=Cq (P:=l.prog) (w:=w) (mg:=mg) (base:=base) F26.F dR dH gk ⟨acO,F24.mg X G,F24.F.kp,b24⟩ ⟨acN,F25.mg X G,F25.F.kp,b25⟩;have acL:=Cp (P:=l.prog) (w:=w) (mg:=mg) (base:=base) F27.F dR dS cv ⟨Yx,F3.mg X G,F3.F.kp,b3⟩ ⟨ok4,F4.mg X G,F4.F.kp,b4⟩ ⟨ok2,F2.mg X G,F2.F.kp,b2⟩;have acK:=Lp (P:=l.prog) (w:=w) (mg:=mg) (base:=base) F28.F qY;have acJ:=Cs (P:=l.prog) (w:=w) (mg:=mg) (base:=base) F29.F dR;have acI:=O9 (P:=l.prog) (w:=w) (mg:=mg) (base:=base) F30.F cv;have acH:=O8 (P:=l.prog) (w:=w) (mg:=mg) (base:=base) F31.F gk ⟨acK,F28.mg X G,F28.F.kp,b28⟩ ⟨acJ,F29.mg X G,F29.F.kp,b29⟩ ⟨acI,F30.mg X G,F30.F.kp,b30⟩;have acG:=Bz (P:=l.prog) (w:=w) (mg:=mg) (base:=base) F32.F cv;have acF:=xm (P:=l.prog) (w:=w) (mg:=mg) (base:=base) F33.F cv;have ZD:=So (P:=l.prog) (w:=w) (mg:=mg) (base:=base) YR.F dS cv ⟨ZE,YS.mg X G,YS.F.kp,b21⟩ ⟨ok9,F9.mg X G,F9.F.kp,b9⟩ ⟨acH,F31.mg X G,F31.F.kp,b31⟩ ⟨Xh,We.mg X G,We.F.kp,b15⟩ ⟨acG,F32.mg X G,F32.F.kp,b32⟩ ⟨acF,F33.mg X G,F33.F.kp,b33⟩;have acE:=uJ (P:=l.prog) (w:=w) (mg:=mg) (base:=base) F35.F dS ⟨Xi,Wf.mg X G,Wf.F.kp,b10⟩ ⟨ZD,YR.mg X G,YR.F.kp,b34⟩;have acD:=Cr (P:=l.prog) (w:=w) (mg:=mg) (base:=base) F36.F qY;exact X7 Fl dS gk ⟨ok0,F0.mg X G,F0.F.kp,b0⟩ ⟨ok1,F1.mg X G,F1.F.kp,b1⟩ ⟨ok4,F4.mg X G,F4.F.kp,b4⟩ ⟨acT,F19.mg X G,F19.F.kp,b19⟩ ⟨acR,F20.mg X G,F20.F.kp,b20⟩ ⟨acQ,F22.mg X G,F22.F.kp,b22⟩ ⟨acM,F26.mg X G,F26.F.kp,b26⟩ ⟨acL,F27.mg X G,F27.F.kp,b27⟩ ⟨ZD,YR.mg X G,YR.F.kp,b34⟩ ⟨acE,F35.mg X G,F35.F.kp,b35⟩ ⟨acD,F36.mg X G,F36.F.kp,b36⟩
section
open PySem.W PySem.Calls
def hC (n:Str) (t:Nat) (l:List Value):Obj:=⟨.type "code",none,.fields (.str n t :: .str n (t+1) :: .str "/claim/cut.py" (t+2) :: l).toArray,#[]⟩
def hI(n:Int):Value:=.int n 0
def hR(n:Nat):Value:=.ref n
def hN:Value:=.none
def hT:Value:=.bool true
def hS (n:Nat):Value:=.str "/claim/cut.py" n
def hD(n:Str)(t:Nat)(l a:Int)(r:Nat)(x y z:Value)(u:Nat):Obj:=hC n t [hI l,hI a,hI 0,hI 0,hI 3,hR r,hT,hI 181,hR (r+1),hN,x,y,z,hI (u - 1),hI l,hS u]
abbrev hF (i:Nat) (n:Str) (m c:Value):Obj:=⟨.type "function",none,.func (lH n n (pH (top i)) (jQ (top i)) (aT (top i)) .none .none .none m none c .none),#[]⟩
abbrev hE(P:Params)(s:Str)(t:Nat)(v:Value):iV:=⟨PyData.keyHash P s,.str s t,v⟩
def hQ:bT:=PySem.W.view PySem.Challenge.pw_knotwise_k54_whole_trying_and_eliminatio [1,2,3,5,6,7,8,10,12,14,15,16,17,18,19,20,21,22,23,24,25,26,27,28,29,30,31,33,34,35,36,37,38,39,40,41,42,43,44,45,46]
def hK (P:Params):ak:=(nat_lit 3,⟨(.type "dict"),none,(.dict #[hE P "__name__" 165 (.str "law_knotwise_k54_whole_trying_and_eliminatio" 423),hE P "__doc__" 166 .none,hE P "__package__" 167 .none,hE P "__loader__" 168 (.builtin "__main__.__loader__#opaque"),hE P "__spec__" 169 .none,hE P "__annotations__" 170 (.ref 6),hE P "__builtins__" 171 (.ref 4),hE P "__file__" 173 (.str "/claim/cut.py" 172),hE P "__cached__" 174 .none,hE P "KnotError" 206 (.ref 24),hE P "TooMany" 222 (.ref 37),hE P "NoPrime" 238 (.ref 49),hE P "passings_of" 249 (.ref 58),hE P "names_of" 255 (.ref 63),hE P "spots_on" 261 (.ref 68),hE P "next_of" 272 (.ref 75),hE P "one_of_each" 280 (.ref 80),hE P "coming_of" 292 (.ref 87),hE P "PRIMES" 298 (.ref 88),hE P "MOST_GONE_THROUGH" 300 (.int 2500 299),hE P "bows_on" 306 (.ref 93),hE P "bow_at" 316 (.ref 100),hE P "bows" 323 (.ref 107),hE P "refuse_other" 330 (.ref 114),hE P "places_at" 343 (.ref 121),hE P "keeps_all" 349 (.ref 126),hE P "power_of" 359 (.ref 133),hE P "all_colourings" 365 (.ref 138),hE P "equation_of" 371 (.ref 143),hE P "last_place" 377 (.ref 148),hE P "scaled" 383 (.ref 153),hE P "cleared" 389 (.ref 158),hE P "solved" 402 (.ref 165),hE P "basis" 408 (.ref 170),hE P "colouring_from" 414 (.ref 175),hE P "count_colourings" 422 (.ref 182),hE P "_law_cell" 432 (.ref 189),hE P "_law_whole" 439 (.ref 196),hE P "_law_made" 445 (.ref 201),hE P "_law_bow" 455 (.ref 208),hE P "_law_homes" 466 (.ref 215),hE P "_law_bows" 472 (.ref 220),hE P "_law_threes" 487 (.ref 227),hE P "_law_keeps" 499 (.ref 234),hE P "_law_list" 505 (.ref 239),hE P "_law_times" 515 (.ref 246),hE P "_law_refused" 525 (.ref 253),hE P "_law_rising" 537 (.ref 260),hE P "_law_closed" 543 (.ref 265),hE P "law" 549 (.ref 270)] 50),#[]⟩) ::
(nat_lit 15,⟨(.type "tuple"),none,(.seq #[(.type "ValueError")] 0),#[]⟩) ::
(nat_lit 22,⟨(.type "tuple"),none,(.seq #[] 0),#[]⟩) ::
(nat_lit 23,⟨(.type "dict"),none,(.dict #[hE P "__module__" 196 (.str "knotwise.errors" 187),hE P "__firstlineno__" 200 (.int 2 199),hE P "__static_attributes__" 201 (.ref 22),hE P "__weakref__" 203 (.ref 25),hE P "__doc__" 204 .none] 3),#[]⟩) ::
(nat_lit 24,⟨(.type "type"),none,(.cls ⟨"KnotError",[(.type "ValueError")],[(.ref 24),(.type "ValueError"),(.type "Exception"),(.type "BaseException"),(.type "object")],23,"KnotError",.true,[],[(.ref 37),(.ref 49)],.false,none,.false⟩),#[(some (.ref 15)),none,(some (.str "KnotError" 189)),(some (.str "KnotError" 197)),(some (.builtin "ValueError.__new__")),(some (.bool .true))]⟩) ::
(nat_lit 25,⟨(.type "getset_descriptor"),none,(.fields #[(.str "__weakref__" 202),(.ref 24),(.builtin "ExceptionGroup.__weakref__"),.none]),#[]⟩) ::
(nat_lit 28,⟨(.type "tuple"),none,(.seq #[(.ref 24)] 0),#[]⟩) ::
(nat_lit 35,⟨(.type "tuple"),none,(.seq #[] 0),#[]⟩) ::
(nat_lit 36,⟨(.type "dict"),none,(.dict #[hE P "__module__" 214 (.str "knotwise.errors" 187),hE P "__firstlineno__" 218 (.int 4 217),hE P "__static_attributes__" 219 (.ref 35),hE P "__doc__" 220 .none] 2),#[]⟩) ::
(nat_lit 37,⟨(.type "type"),none,(.cls ⟨"TooMany",[(.ref 24)],[(.ref 37),(.ref 24),(.type "ValueError"),(.type "Exception"),(.type "BaseException"),(.type "object")],36,"TooMany",.true,[],[],.false,none,.false⟩),#[(some (.ref 28)),none,(some (.str "TooMany" 207)),(some (.str "TooMany" 215)),(some (.builtin "ValueError.__new__")),(some (.bool .true))]⟩) ::
(nat_lit 40,⟨(.type "tuple"),none,(.seq #[(.ref 24)] 0),#[]⟩) ::
(nat_lit 47,⟨(.type "tuple"),none,(.seq #[] 0),#[]⟩) ::
(nat_lit 48,⟨(.type "dict"),none,(.dict #[hE P "__module__" 230 (.str "knotwise.errors" 187),hE P "__firstlineno__" 234 (.int 6 233),hE P "__static_attributes__" 235 (.ref 47),hE P "__doc__" 236 .none] 2),#[]⟩) ::
(nat_lit 49,⟨(.type "type"),none,(.cls ⟨"NoPrime",[(.ref 24)],[(.ref 49),(.ref 24),(.type "ValueError"),(.type "Exception"),(.type "BaseException"),(.type "object")],48,"NoPrime",.true,[],[],.false,none,.false⟩),#[(some (.ref 40)),none,(some (.str "NoPrime" 223)),(some (.str "NoPrime" 231)),(some (.builtin "ValueError.__new__")),(some (.bool .true))]⟩) ::
(nat_lit 57,hD "passings_of" 241 9 1 52 (hR 54) (hR 55) (hR 56) 248) ::
(nat_lit 58,hF 5 "passings_of" (.str "knotwise.drawings" 239) (.ref 57)) ::
(nat_lit 62,hD "names_of" 250 14 1 59 hN hN (hR 61) 254) ::
(nat_lit 63,hF 6 "names_of" (.str "knotwise.drawings" 239) (.ref 62)) ::
(nat_lit 67,hD "spots_on" 256 16 2 64 hN hN (hR 66) 260) ::
(nat_lit 68,hF 7 "spots_on" (.str "knotwise.drawings" 239) (.ref 67)) ::
(nat_lit 74,hD "next_of" 262 20 1 69 (hR 71) (hR 72) (hR 73) 271) ::
(nat_lit 75,hF 8 "next_of" (.str "knotwise.drawings" 239) (.ref 74)) ::
(nat_lit 79,hD "one_of_each" 275 27 1 76 hN hN (hR 78) 279) ::
(nat_lit 80,hF 10 "one_of_each" (.str "knotwise.groups" 273) (.ref 79)) ::
(nat_lit 86,hD "coming_of" 283 36 1 81 (hR 83) (hR 84) (hR 85) 291) ::
(nat_lit 87,hF 12 "coming_of" (.str "knotwise.sides" 281) (.ref 86)) ::
(nat_lit 88,⟨(.type "tuple"),none,(.seq #[(.int 3 295),(.int 5 296),(.int 7 297)] 0),#[]⟩) ::
(nat_lit 92,hD "bows_on" 301 45 2 89 hN hN (hR 91) 305) ::
(nat_lit 93,hF 16 "bows_on" (.str "knotwise.colours" 293) (.ref 92)) ::
(nat_lit 99,hD "bow_at" 307 55 1 94 (hR 96) (hR 97) (hR 98) 315) ::
(nat_lit 100,hF 17 "bow_at" (.str "knotwise.colours" 293) (.ref 99)) ::
(nat_lit 106,hD "bows" 317 60 1 101 (hR 103) (hR 104) (hR 105) 322) ::
(nat_lit 107,hF 18 "bows" (.str "knotwise.colours" 293) (.ref 106)) ::
(nat_lit 113,hD "refuse_other" 324 62 1 108 (hR 110) (hR 111) (hR 112) 329) ::
(nat_lit 114,hF 19 "refuse_other" (.str "knotwise.colours" 293) (.ref 113)) ::
(nat_lit 120,hD "places_at" 331 65 1 115 (hR 117) (hR 118) (hR 119) 342) ::
(nat_lit 121,hF 20 "places_at" (.str "knotwise.colours" 293) (.ref 120)) ::
(nat_lit 125,hD "keeps_all" 344 74 3 122 hN hN (hR 124) 348) ::
(nat_lit 126,hF 21 "keeps_all" (.str "knotwise.colours" 293) (.ref 125)) ::
(nat_lit 132,hD "power_of" 350 76 2 127 (hR 129) (hR 130) (hR 131) 358) ::
(nat_lit 133,hF 22 "power_of" (.str "knotwise.colours" 293) (.ref 132)) ::
(nat_lit 137,hD "all_colourings" 360 81 2 134 hN hN (hR 136) 364) ::
(nat_lit 138,hF 23 "all_colourings" (.str "knotwise.colours" 293) (.ref 137)) ::
(nat_lit 142,hD "equation_of" 366 89 3 139 hN hN (hR 141) 370) ::
(nat_lit 143,hF 24 "equation_of" (.str "knotwise.colours" 293) (.ref 142)) ::
(nat_lit 147,hD "last_place" 372 95 1 144 hN hN (hR 146) 376) ::
(nat_lit 148,hF 25 "last_place" (.str "knotwise.colours" 293) (.ref 147)) ::
(nat_lit 152,hD "scaled" 378 98 3 149 hN hN (hR 151) 382) ::
(nat_lit 153,hF 26 "scaled" (.str "knotwise.colours" 293) (.ref 152)) ::
(nat_lit 157,hD "cleared" 384 101 4 154 hN hN (hR 156) 388) ::
(nat_lit 158,hF 27 "cleared" (.str "knotwise.colours" 293) (.ref 157)) ::
(nat_lit 164,hD "solved" 390 104 2 159 (hR 161) (hR 162) (hR 163) 401) ::
(nat_lit 165,hF 28 "solved" (.str "knotwise.colours" 293) (.ref 164)) ::
(nat_lit 169,hD "basis" 403 117 2 166 hN hN (hR 168) 407) ::
(nat_lit 170,hF 29 "basis" (.str "knotwise.colours" 293) (.ref 169)) ::
(nat_lit 174,hD "colouring_from" 409 122 4 171 hN hN (hR 173) 413) ::
(nat_lit 175,hF 30 "colouring_from" (.str "knotwise.colours" 293) (.ref 174)) ::
(nat_lit 181,hD "count_colourings" 415 128 2 176 (hR 178) (hR 179) (hR 180) 421) ::
(nat_lit 182,hF 31 "count_colourings" (.str "knotwise.colours" 293) (.ref 181)) ::
(nat_lit 188,hD "_law_cell" 425 131 2 183 (hR 185) (hR 186) (hR 187) 431) ::
(nat_lit 189,hF 33 "_law_cell" (.str "law_knotwise_k54_whole_trying_and_eliminatio" 423) (.ref 188)) ::
(nat_lit 195,hD "_law_whole" 433 135 1 190 (hR 192) (hR 193) (hR 194) 438) ::
(nat_lit 196,hF 34 "_law_whole" (.str "law_knotwise_k54_whole_trying_and_eliminatio" 423) (.ref 195)) ::
(nat_lit 200,hD "_law_made" 440 137 2 197 hN hN (hR 199) 444) ::
(nat_lit 201,hF 35 "_law_made" (.str "law_knotwise_k54_whole_trying_and_eliminatio" 423) (.ref 200)) ::
(nat_lit 207,hD "_law_bow" 446 157 3 202 (hR 204) (hR 205) (hR 206) 454) ::
(nat_lit 208,hF 36 "_law_bow" (.str "law_knotwise_k54_whole_trying_and_eliminatio" 423) (.ref 207)) ::
(nat_lit 214,hD "_law_homes" 456 162 1 209 (hR 211) (hR 212) (hR 213) 465) ::
(nat_lit 215,hF 37 "_law_homes" (.str "law_knotwise_k54_whole_trying_and_eliminatio" 423) (.ref 214)) ::
(nat_lit 219,hD "_law_bows" 467 170 1 216 hN hN (hR 218) 471) ::
(nat_lit 220,hF 38 "_law_bows" (.str "law_knotwise_k54_whole_trying_and_eliminatio" 423) (.ref 219)) ::
(nat_lit 226,hD "_law_threes" 473 173 1 221 (hR 223) (hR 224) (hR 225) 486) ::
(nat_lit 227,hF 39 "_law_threes" (.str "law_knotwise_k54_whole_trying_and_eliminatio" 423) (.ref 226)) ::
(nat_lit 233,hD "_law_keeps" 488 184 3 228 (hR 230) (hR 231) (hR 232) 498) ::
(nat_lit 234,hF 40 "_law_keeps" (.str "law_knotwise_k54_whole_trying_and_eliminatio" 423) (.ref 233)) ::
(nat_lit 238,hD "_law_list" 500 189 3 235 hN hN (hR 237) 504) ::
(nat_lit 239,hF 41 "_law_list" (.str "law_knotwise_k54_whole_trying_and_eliminatio" 423) (.ref 238)) ::
(nat_lit 245,hD "_law_times" 506 193 2 240 (hR 242) (hR 243) (hR 244) 514) ::
(nat_lit 246,hF 42 "_law_times" (.str "law_knotwise_k54_whole_trying_and_eliminatio" 423) (.ref 245)) ::
(nat_lit 252,hD "_law_refused" 516 198 2 247 (hR 249) (hR 250) (hR 251) 524) ::
(nat_lit 253,hF 43 "_law_refused" (.str "law_knotwise_k54_whole_trying_and_eliminatio" 423) (.ref 252)) ::
(nat_lit 259,hD "_law_rising" 526 205 4 254 (hR 256) (hR 257) (hR 258) 536) ::
(nat_lit 260,hF 44 "_law_rising" (.str "law_knotwise_k54_whole_trying_and_eliminatio" 423) (.ref 259)) ::
(nat_lit 264,hD "_law_closed" 538 214 3 261 hN hN (hR 263) 542) ::
(nat_lit 265,hF 45 "_law_closed" (.str "law_knotwise_k54_whole_trying_and_eliminatio" 423) (.ref 264)) ::
(nat_lit 269,hD "law" 544 221 1 266 hN hN (hR 268) 548) ::
(nat_lit 270,hF 46 "law" (.str "law_knotwise_k54_whole_trying_and_eliminatio" 423) (.ref 269)) :: []
def hA:List Addr:=[3,15,22,23,24,25,28,35,36,37,40,47,48,49,57,58,62,63,67,68,74,75,79,80,86,87,88,92,93,99,100,106,107,113,114,120,121,125,126,132,133,137,138,142,143,147,148,152,153,157,158,164,165,169,170,174,175,181,182,188,189,195,196,200,201,207,208,214,215,219,220,226,227,233,234,238,239,245,246,252,253,259,260,264,265,269,270]
def hL:List Str:=[]
theorem X3(w:World)(os:OsState):(topFrom treeTable (PySem.Challenge.rw_knotwise_k54_whole_trying_and_eliminatio).row.prog w 3608 ⟨boot_heap w.params,Array.mk [],boot_drawn,boot_toks,os⟩).map (fun s=>(openSeen hQ hL (P6 (PySem.Challenge.rw_knotwise_k54_whole_trying_and_eliminatio).row.prog.main.body) (Y1 PySem.Challenge.rw_knotwise_k54_whole_trying_and_eliminatio hQ) true s,hA.map s.heap.get?))=some (openGood hQ hL,(hK w.params).map fun p=>some p.2):=by kernel_rfl
theorem X2:(PySem.Challenge.rw_knotwise_k54_whole_trying_and_eliminatio).wellSaid=true:=by kernel_rfl
theorem X1:Mr PySem.Challenge.rw_knotwise_k54_whole_trying_and_eliminatio hQ=true:=by kernel_rfl
end
end Fin
end Internal
open Internal
open PySem PySem.W PyProof.Rows
set_option maxRecDepth 100000 in
set_option maxHeartbeats 0 in
theorem PySem.Challenge.cw_knotwise_k54_whole_trying_and_eliminatio_holds : PySem.Challenge.rw_knotwise_k54_whole_trying_and_eliminatio.Holds := by
 w_on
 refine K2.O3 (q:=Fin.hQ) (K:=Fin.hK) (as:=Fin.hA) (N:=3608) Fin.X2 (by kernel_rfl) (by kernel_rfl) (fun _=>by kernel_rfl) (fun _=>by kernel_rfl) Fin.X3 (by rfl) (by rfl) (by rfl) (by rfl) Fin.X1 ⟨rfl,rfl,rfl,rfl,rfl,by decide +kernel⟩ ?hw ?hc
 (case hw=>w_witness2)
 k_fill
 refine K2.Ry (l:=PySem.Challenge.rw_knotwise_k54_whole_trying_and_eliminatio) (k:=8) (x:="_law_script") rfl rfl ⟨rfl,by decide,by decide⟩ (fun w h Y=>Y) ?F
 case F =>
  intro w mg fa h KX G hmg;exact Fin.all_mk KX G hmg K2.fS K2.fS K2.fS K2.fS K2.fS K2.fS K2.fS K2.fS K2.fS K2.fS K2.fS K2.fS K2.fS K2.fS K2.fS K2.fS K2.fS K2.fS K2.fS K2.fS K2.fS K2.fS K2.fS K2.fS K2.fS K2.fS K2.fS K2.fS K2.fS K2.fS K2.fS K2.fS K2.fS K2.fS K2.fS K2.fS K2.fS K2.fS
