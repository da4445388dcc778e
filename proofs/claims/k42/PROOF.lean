import PyProof.Rows.All
import Wide.All
import OpenK.AllK
import Wide.FinOn
import Lean
import PyProof.EqAt
import PyProof.EqKinds
import PyProof.TupleCall
import PySem.Challenge.RW_knotwise_k42_bracket_by_all_choices
open Array renaming getD_eq_getD_getElem? -> bf, getElem?_eq_getElem -> bE, length_toList -> bZ, getElem?_toList -> cU, getElem?_eq_none -> mK, forIn_toList -> rC, getD -> KH, mk -> L1, toList_filterMap -> NJ
open Array.Perm renaming refl -> oz
open Bool renaming false_eq_true -> aJ, and_eq_true -> aM, noConfusion -> bI, not_true -> dg, not_false -> fT, and_eq_true_iff -> pD, false_ne_true -> rP, or_eq_true -> xn, false_and -> KD, and_false -> KG, true_and -> NH, false_or -> NI, beq_eq_decide_eq -> Ro
open Classical renaming byContradiction -> dD, choose_spec -> uD, choose -> zj
open False renaming elim -> bY
open ForInStep renaming yield -> uC
open Int renaming toNat_natCast -> eF, emod_lt_of_pos -> jF, emod_nonneg -> mE, natCast_nonneg -> rW, add_zero -> RN
open List renaming getElem?_cons_zero -> aa, getElem?_cons_succ -> ae, set_cons_zero -> ah, length_cons -> ai, set_cons_succ -> aj, length_map -> ao, length_append -> ar, map_cons -> av, getElem?_eq_getElem -> ax, length_nil -> aB, mem_cons_of_mem -> aK, cons_append -> aL, nil_append -> aO, map_nil -> aQ, map_append -> aT, replicate -> aU, size_toArray -> aY, getD_eq_getElem?_getD -> a8, mem_map_of_mem -> bg, getElem?_map -> bz, map_map -> bA, foldl_cons -> bF, getElem?_append_right -> bH, mem_cons_self -> bJ, not_mem_nil -> bL, mem_singleton -> bN, mem_cons -> bQ, getElem?_append_left -> bS, append_assoc -> cf, mem_append_right -> cC, nodup_append -> cE, foldl_append -> cF, flatten_cons -> cG, length_drop -> cI, flatMap_cons -> cR, length_singleton -> cW, append_nil -> cX, range -> c9, getElem?_set_self -> da, length -> dh, find?_cons -> di, nodup_nil -> dv, length_take -> eB, mem_append_left -> eO, getElem?_set_ne -> eQ, nodup_cons -> eV, mem_of_find?_eq_some -> eW, getElem_mem -> e8, length_replicate -> ft, mem_of_getElem? -> fy, all_eq_true -> fB, sum_cons -> fQ, map_congr_left -> gR, length_set -> gT, flatten_append -> gU, find?_eq_none -> ij, filter_append -> ik, drop_eq_getElem_cons -> iu, pairwise_map -> iP, flatMap_append -> i0, filter_cons -> jf, flatMap_singleton -> ju, length_zip -> jS, getElem?_toArray -> jT, getElem?_eq_none -> jU, length_range -> ka, nodup_iff_pairwise_ne -> kh, getElem_of_mem -> kW, getElem?_replicate -> my, find?_some -> mz, drop_eq_nil_of_le -> mR, getElem_map -> oN, getElem?_of_mem -> pB, any_cons -> pR, all_cons -> pT, getElem_range -> rO, getElem?_take_of_lt -> tJ, map_id -> uI, getElem_zip -> uW, take_append_drop -> xj, length_filter_le -> xk, all_map -> xl, zipIdx_map_fst -> yH, filterMap_cons -> yI, take_nil -> Bh, drop_nil -> Bi, find?_append -> B0, set_nil -> C2, mem_flatMap -> EO, lookup_cons -> ER, zip_append -> HN, of_mem_zip -> HP, mem_append -> HS, forIn_cons -> HU, perm_ext_iff_of_nodup -> Iy, mem_or_eq_of_mem_set -> KA, length_erase_of_mem -> LZ, take_of_length_le -> Of, length_pos_of_mem -> Og, find?_cons_of_pos -> Oh, find?_cons_of_neg -> Oi, sum_nil -> Rl, perm_append_comm -> Rm, Perm -> Rn, replicate_succ' -> RL, mem_erase_of_ne -> RM
open List.Nodup renaming length_le_of_subset -> mB
open List.Pairwise renaming imp_of_mem -> Bj
open List.Sublist renaming map -> L0
open Nat renaming le_refl -> aF, le_trans -> a9, ne_of_lt -> bc, lt_of_lt_of_le -> bD, zero_le -> cq, lt_of_le_of_lt -> cL, not_lt_zero -> cY, le_add_right -> gB, mul_le_mul_right -> gE, lt_irrefl -> i6, lt_succ_self -> kT, succ_pos -> lF, ne_of_gt -> lH, lt_succ_of_lt -> nF, zero_add -> oB, succ_le_succ -> pA, pow_le_pow_right -> pQ, mod_lt -> uB, add_sub_cancel_left -> uV, lt_add_right -> vt, le_of_succ_le_succ -> vJ, pow_succ -> xt, le_succ -> zi, le_succ_of_le -> C1, sub_self -> EN, lt_of_succ_lt_succ -> Rk, succ_add -> RJ, le_of_lt -> RK
open Ne renaming symm -> dW
open Option renaming map_some -> iE, isSome_map -> rV
open Option.some renaming inj -> bx
open PyProof.Rows renaming callWith_type1 -> c8, callWith_builtin1 -> lD, IntsAre -> nG, slot_tuple_getitem -> xi, seqObj -> zb, preSum_getD -> Bl, AllBare -> C3, envOfC -> EZ
open PyProof.Rows.F renaming plain_set_update_loop -> vK, entry_set_update_loop -> RP
open PySem renaming wpAny_bind -> af, wpAny_pure -> aw, Shared -> az, FuncData -> aH, sizeLine -> bu, Program -> bG, mainGlobals -> bP, starEach -> bR, wpAny_loadPart' -> cj, sizeLine_eq -> cH, wpAny_holding -> cP, Around -> du, wpAny_newObj_type -> dw, wpAny_call_entry -> dM, sysModules -> dS, bootBuiltins -> eE, wpAny_Call_Name_kw -> e7, compareOp -> fx, wpAny_callSpecial?_slot -> fG, codeAny_builtin -> fH, wpAny_field -> g7, DictEntry -> hU, plainId_quiet -> iF, ReadsAll -> iG, mem_of_lookup -> iY, SetTable -> iZ, wpAny_typeNameOfWhole_itemiter -> jr, wpAny_typeNameOfWhole_keyiter -> jH, wpAny_seqItems -> jR, wpAny_setField_rec -> j9, wpAny_passesOwn -> km, wpAny_dictEntries -> kO, binaryOp -> kP, pyNext -> kS, wpAny_typeNameOf_itemiter -> lU, wpAny_typeNameOf_keyiter -> mI, backTo -> mJ, wpAny_dictEpoch -> nC, tupleKind_room_in1 -> nE, wpAny_isOneOf_itemiter -> oM, wpAny_pyIter_slot -> ph, foldedSetIterable -> pq, valueAt -> pz, IsItemIter -> pC, wpAny_fieldsOf -> pO, ZipApart -> pP, wpAny_forIn_list -> qt, wpAny_attempt -> rJ, tupleKind -> rX, sliceBounds -> rY, richCompare -> rZ, codeAny -> sd, argBest -> se, NameKind -> uH, wpAny_tryCatch -> uU, wpAny_truthy_bool -> vE, wpAny_pyIter_list -> vF, rawInt -> vG, ofAClassStatement -> vH, attributeBase -> xr, IsPair -> xX, wpAny_nextOf_list_item -> yx, richCompare_meets_room -> yy, wpAny_updateSeq -> y8, wpAny_notOrdered_dict -> y9, wpAny_execs_nil -> za, letOwnedTupleGo -> zc, importedModules -> ze, codeAny_mono -> zf, call_meetsIn -> zg, assignEach -> Bf, pyIter -> BX, firstArgMember -> BY, carriedByValue -> BZ, wpAny_of_eq -> CW, wpAny_letGo -> CY, pairTrees_cons_walk -> CZ, behindInMarks -> E1, wpAny_truthy_dict -> Ii, wpAny_mono -> Ij, spliced -> Ik, searchCouldBeSeen -> Il, relabel -> Im, holding -> Io, callerA -> Ip, call_meets -> Iq, wpAny_typeOf -> Kr, wpAny_callSpecialIfBound?_slot -> Ks, stored -> Kt, call -> Kv, Paired -> Kz, wpAny_pyIter_zip -> LW, wpAny_isInstance -> LX, wpAny_letOwnedTupleGo_items -> N6, valueAt -> N7, swapsWith -> N8, hashByValue -> Oa, assign -> Od, Keyword -> Oj, BindsTo -> Om, wpAny_setField -> RE, wpAny_newTuple -> RF, isSubtype_stop -> RG, evalArgs_none -> RH
open PySem.Around renaming under_plainId -> dH
open PySem.AutoSeq1 renaming sub_tuple_tuple -> rB, sub_list_list -> IC
open PySem.Builtin.Builtins renaming bindParams -> xm
open PySem.Builtin.Dict renaming showsAll -> lI, updateFrom -> B1
open PySem.Builtin.Dict_items renaming ownsTuple -> fL, ownedTupleIsFree -> jg, ownedTupleFields -> rz, pairFromOwner -> sk
open PySem.Builtin.Int renaming intBits -> IB
open PySem.Builtin.List renaming listTooLong -> j6
open PySem.Builtin.Slice renaming slicePlaces -> jC, sliceAdjust -> oC, sliceApplied -> yJ
open PySem.Builtin.SmallTypes renaming ownedTupleIsFree -> fR, nextOf -> i4
open PySem.Builtin.Tuple renaming tupleExact -> jY, tupleCompareSizes -> vL
open PySem.Calls renaming spliced_cons -> jv, spliced_nil -> mS, callWith_builtin -> uX, Name_function_global -> HX
open PySem.Challenge renaming rw_knotwise_k42_bracket_by_all_choices -> aZ
open PySem.F renaming slot_dict_get -> fg, plainAttrs_dict -> fv, plainAttrs_list -> gy, type_dict_get -> jy, slot_dict_itemiterator_next -> jz, slot_dict_itemiterator_iter -> jA, plain_min_loop -> jB, slot_dict_keyiterator_next -> jX, slot_dict_items -> kY, slot_tuple_lt -> mQ, type_list_extend -> rK, type_list_append -> rL, slot_list_extend -> rM, slot_list_append -> rN, args_tuple_lt_2 -> sg, args_dict_get_3 -> si, entry_tuple_lt -> uw, entry_dict_get -> ux, slot_list_lt -> vI, slot_zip_next -> yA, args_dict_items_1 -> E3, args_dict_itemiterator_next_1 -> E4, args_dict_itemiterator_iter_1 -> E5, entry_dict_items -> HK, args_tuple_add_2 -> HM, entry_dict_itemiterator_next -> HV, args_dict_keyiterator_next_1 -> HW, type_dict_items -> Iv, entry_tuple_add -> Iw, entry_min_loop -> Iz, entry_dict_keyiterator_next -> IA, slot_tuple_add -> Kx, args_list_lt_2 -> Ky, slot_dict_keyiterator_iter -> KC, entry_list_lt -> LY
open PySem.Heap renaming get?_push_of_some -> aE, lt_size -> aP, get?_push_size -> bh, get?_update_other -> dc, SameBut -> ip, size_push -> iw, get?_update_self -> jV, size_update -> ES, get?_none_of_le -> RO
open PySem.Heap.DictOf renaming new -> Ol
open PySem.Heap.SameBut renaming update -> jW
open PySem.IsTupleKey renaming typeIs -> NG
open PySem.NameKind renaming free -> kU
open PySem.Obj renaming mapSeq -> jt, putSet -> uA
open PySem.Paired renaming length -> lE
open PySem.PassesOwn renaming never -> aW
open PySem.PyData renaming depthAll -> cA, eqv -> Bg
open PySem.SeqAt renaming any_by_data -> sf, items_eqAt -> uG
open PySem.SetTable renaming fill -> HJ
open PySem.Shared renaming TypeIs -> Ku
open PySem.Str renaming ofString -> oA
open PySem.Value renaming int -> dZ, ref -> fi, none -> gf, isInt -> yz
open PySem.W renaming Frag -> aq, mg_none_of -> cQ, nsIn -> dG, kas_rev -> g8, kia_one -> jx, keepIn -> kg, kas_place -> kn, fnOf -> kM, mg_of -> kX, kas_desc -> mx, findIn -> qu, kas_asc -> r8, kas_descPart -> zd, methodObj -> zh, OpenLaw -> C0, codeIn -> E2, boot_drawn -> Ir, cellsFrom_some -> Kw, kas_tail3 -> N9, boot_toks -> Ob, boot_heap -> Oc, callWith_K -> Rj, specialIn -> RI
open PySem.W.KasT renaming ret -> xu
open Sum renaming inl -> j5, inr -> Iu
open Sum.inl renaming inj -> Oe
open True renaming intro -> iO
set_option Elab.async false
set_option linter.all false
set_option maxRecDepth 100000
set_option maxHeartbeats 4000000
set_option genSizeOf false
set_option genInjectivity false
set_option compiler.extract_closed false
namespace Internal
theorem Ad(h:0=0:=by decide):0=0:=h
theorem Ae(h:0=0:=by first | rfl | decide):0=0:=h
theorem Af(h:0=0:=by first | k_is | rfl):0=0:=h
theorem Ai(h:0=0:=by intro _; rfl):0=0:=h
theorem Ak(h:0=0:=by decide +kernel):0=0:=h
theorem Al(h:0=0:=by intro _ _ _ _ h; repeat (first | (cases h.1; rfl) | (cases h <;> rename_i h))):0=0:=h
theorem Ao(h:0=0:=by first | exact .inl rfl | exact .inr rfl | exact .inr (.inl rfl) | exact .inr (.inr rfl) | assumption):0=0:=h
theorem Aq(h:0=0:=by k_is):0=0:=h
theorem Ar(h:0=0:=by rfl):0=0:=h
namespace L2
open PySem PySem.Spec PyProof.Rows
noncomputable abbrev Key:=Sum Int Str
noncomputable def Cp:Key->Value->Bool
 | .inl k,v=>yz k v
 | .inr x,v=>Value.isStrOf x v
noncomputable def aaV(w:World):Key->Int
 | .inl k=>hashInt k
 | .inr x=>hashStr w x
theorem eT:∀ {k:Key} {v:Value},Cp k v=true->(∃ i t,k=j5 i/\v=dZ i t)\/(∃ x t,k=Iu x/\v=Value.str x t)
 | .inl i,v,h=>by
  obtain⟨t,e⟩:=Value.isInt_shape (k:=i) (v:=v) h;exact .inl ⟨i,t,rfl,e⟩
 | .inr x,v,h=>by
  obtain⟨t,e⟩:=Value.isStrOf_shape (x:=x) (v:=v) h;exact .inr ⟨x,t,rfl,e⟩
theorem MO(i:Int)(t:Tok):Cp (.inl i) (.int i t)=true:=by simp [Cp,yz]
theorem MN(x:Str)(t:Tok):Cp (.inr x) (.str x t)=true:=by simp [Cp,Value.isStrOf]
theorem PL(a b:Int):decide ((j5 a:Key)=j5 b)=(a == b):=by
 by_cases e:a=b
 ·subst e; simp
 ·have h:¬ (j5 a:Key)=j5 b:=fun q=>e (Oe q);rw [decide_eq_false h];exact(beq_eq_false_iff_ne.mpr e).symm
theorem PK(a b:Str):decide ((Iu a:Key)=Iu b)=decide (a=b):=by
 by_cases e:a=b
 ·subst e; simp
 ·have h:¬ (Iu a:Key)=Iu b:=fun q=>e (Sum.inr.inj q);rw [decide_eq_false h,decide_eq_false e]
theorem Vn(a:Int)(b:Str):decide ((j5 a:Key)=Iu b)=false:=decide_eq_false (fun q=>nomatch q)
theorem Vm(a:Str)(b:Int):decide ((Iu a:Key)=j5 b)=false:=decide_eq_false (fun q=>nomatch q)
noncomputable def cx(prog:bG)(w:World):PySem.KeyKind prog w Key where
 is:=Cp
 hash:=aaV w
 inj:=fun v a b ha hb=>by
  rcases eT ha with ⟨i,t,rfl,rfl⟩ | ⟨x,t,rfl,rfl⟩
  ·rcases eT hb with ⟨j,u,rfl,e⟩ | ⟨y,u,rfl,e⟩
   ·injection e with e1 _; rw [e1]
   ·exact nomatch e
  ·rcases eT hb with ⟨j,u,rfl,e⟩ | ⟨y,u,rfl,e⟩
   ·exact nomatch e
   ·injection e with e1 _; rw [e1]
 byValue:=fun k v h=>by
  rcases eT h with ⟨i,t,rfl,rfl⟩ | ⟨x,t,rfl,rfl⟩ <;> rfl
 pyHash:=fun hv h=>by
  rcases eT hv with ⟨i,t,rfl,rfl⟩ | ⟨x,t,rfl,rfl⟩
  ·exact wpAny_pyHash_int h
  ·exact wpAny_pyHash_str h
 eqBool:=fun hu hv h=>by
  rcases eT hu with ⟨i,t,rfl,rfl⟩ | ⟨x,t,rfl,rfl⟩
  ·rcases eT hv with ⟨j,u,rfl,rfl⟩ | ⟨y,u,rfl,rfl⟩
   ·rw [PL] at h; exact wpAny_eqBool_int h
   ·rw [Vn] at h; exact SeqAt.EqAt.int_str i t y u _ _ _ _ h
  ·rcases eT hv with ⟨j,u,rfl,rfl⟩ | ⟨y,u,rfl,rfl⟩
   ·rw [Vm] at h; exact SeqAt.EqAt.str_int x t j u _ _ _ _ h
   ·rw [PK] at h; exact wpAny_eqBool_str h
 «strs»:=fun k x t v h=>by
  rcases eT h with ⟨i,u,rfl,e⟩ | ⟨y,u,rfl,e⟩
  ·exact nomatch e
  ·injection e with e1 _
   subst e1;cases v <;> rfl
theorem yj(prog:bG)(w:World)(i:Int)(t:Tok):(cx prog w).is (.inl i) (.int i t)=true:=MO i t
theorem Gd(prog:bG)(w:World)(x:Str)(t:Tok):(cx prog w).is (.inr x) (.str x t)=true:=MN x t
inductive V where
 | fh | bl (b:Bool) | int (i:Int) | str (x:Str) | VZ (b:Array UInt8) | X6 (b:UInt64) | ref (a:Addr) | ty (n:String)
noncomputable def RelV:V->Value->Prop
 | .fh,u=>u=gf
 | .bl b,u=>u=Value.bool b
 | .int i,u=>∃ t,u=dZ i t
 | .str x,u=>∃ t,u=Value.str x t
 | .VZ b,u=>∃ t,u=Value.bytes b t
 | .X6 b,u=>∃ t,u=Value.float b t
 | .ref a,u=>u=fi a
 | .ty n,u=>u=Value.type n
noncomputable abbrev Vals:List V->List Value->Prop:=Kz RelV
theorem Vals.length{xs:List V}{us:List Value}(r:Vals xs us):xs.length=us.length:=lE r
theorem Vals.get:∀ {xs:List V} {us:List Value} {i:Nat} {x:V},Vals xs us->xs[i]?=some x->∃ u,us[i]?=some u/\RelV x u:=by
 intro xs us i x h;induction h generalizing i with
 | nil=>intro e; cases e
 | cons r t ih =>
  intro e;cases i with
  | zero=>cases e; exact⟨_,rfl,r⟩
  | succ i=>exact ih e
theorem Vals.set{x:V}{u:Value}(r:RelV x u):∀ {xs:List V} {us:List Value} (i:Nat),Vals xs us->Vals (xs.set i x) (us.set i u):=by
 intro xs us i h;induction h generalizing i with
 | nil=>rw [C2,C2]; exact .nil
 | cons q t ih =>
  cases i with
  | zero=>exact .cons r t
  | succ i=>exact .cons q (ih i)
theorem Vals.append:∀ {xs ys:List V} {us ws:List Value},Vals xs us->Vals ys ws->Vals (xs++ys) (us++ws):=by
 intro xs ys us ws h s;induction h with
 | nil=>exact s
 | cons r t ih=>exact .cons r ih
theorem Vals.take:∀ {xs:List V} {us:List Value} (n:Nat),Vals xs us->Vals (xs.take n) (us.take n):=by
 intro xs us n h;induction h generalizing n with
 | nil=>rw [Bh,Bh]; exact .nil
 | cons r t ih =>
  cases n with
  | zero=>exact .nil
  | succ n=>exact .cons r (ih n)
theorem Vals.drop:∀ {xs:List V} {us:List Value} (n:Nat),Vals xs us->Vals (xs.drop n) (us.drop n):=by
 intro xs us n h;induction h generalizing n with
 | nil=>rw [Bi,Bi]; exact .nil
 | cons r t ih =>
  cases n with
  | zero=>exact .cons r t
  | succ n=>exact ih n
noncomputable def yF:Option V->Option Value->Prop
 | some v,some u=>RelV v u
 | none,none=>True
 | _,_=>False
noncomputable def KV{κ:Type}:List (κ×V)->List (κ×Value)->Prop:=Kz fun (p:κ×V) (q:κ×Value)=>p.1=q.1/\RelV p.2 q.2
noncomputable def kV:Key->V
 | .inl i=>.int i
 | .inr x=>.str x
inductive HO where
 | lst (xs:List V)
 | tup (xs:List V)
 | dK (kvs:List (Key×V)) | dT (kvs:List (List Key×V))
 | set (S:Int->Bool) (n:Nat)
 | ins (C dx:Addr) (fs:List (Str×V))
 | own (x:Addr)
 | xd (fs:List (Str×V))
 | met (f x:Addr)
 | WU (lo hi:Int)
 | mC (o:Obj) (u:HO)
 | TL (ps:Array Value)
 | ext (φ:Heap->Prop)
noncomputable abbrev Hp:=Addr->Option HO
noncomputable def upd(H:Hp)(a:Addr)(o:HO):Hp:=fun b=>if b=a then some o else H b
theorem bX{H:Hp}{a:Addr}{o:HO}:upd H a o a=some o:=by unfold upd; rw [if_pos rfl]
theorem bK{H:Hp}{a b:Addr}{o:HO}(h:b≠a):upd H a o b=H b:=by unfold upd; rw [if_neg h]
theorem Xg{H:Hp}{a b:Addr}{o u:HO}(h:H a=some o)(h':H b=some u)(d:o≠u):a≠b:=by
 intro e; subst e; rw [h] at h'; exact d (bx h')
theorem fj{H:Hp}{a b:Addr}{o:HO}(h:H a=some o)(h':H b=none):a≠b:=by
 intro e; subst e; rw [h] at h'; cases h'
section
variable (P:bG) (w:World)
noncomputable def ig(H:Hp)(h:Heap)(a:Addr):HO->Prop
 | .lst xs=>xs.length<=bu/\∃ (bM:List Value) (n:Nat),Vals xs bM/\h.get? a=some { cls:=.type "list",data:=.seq bM.toArray n }
 | .tup xs=>xs.length<=bu/\∃ bM:List Value,Vals xs bM/\IsTup h a bM.toArray
 | .dK kvs=>kvs.length<=bu/\(a == dS)=false/\∃ vs,KV kvs vs/\h.DictOf (cx P w) a vs
 | .dT kvs=>kvs.length<=bu/\(a == dS)=false/\∃ xs:List (List Key×Addr×Value),
   Kz (fun (p:List Key×V) (q:List Key×Addr×Value)=>p.1=q.1/\H q.2.1=some (.tup (p.1.map kV))/\RelV p.2 q.2.2) kvs xs /\
   ∃ o es ep,h.get? a=some o/\o.ExactDict/\o.data=.dict es ep/\es.toList=xs.map (entryOfKey (rX (cx P w)))/\(xs.map (·.1)).Nodup
 | .set S n=>h.SetOf (intKind P w) a S n
 | .ins C dx fs=>H dx=some (.own a)/\fs.length<=1000/\dx≠a/\h.get? a=some (PySem.W.instObj C dx) /\
   ∃ mA,h.Ns1 dx mA/\(∀ f,yF (fs.lookup f) (mA f))/\PySem.Within mA (fs.map (·.1))
 | .own _=>∃ o,h.get? a=some o
 | .xd fs=>∃ mA,h.Ns1 a mA/\∀ f,yF (fs.lookup f) (mA f)
 | .WU lo hi=>∃ t u v,h.get? a=some { cls:=.type "range",data:=.fields #[.int lo t,.int hi u,.int 1 v] }
 | .mC o u=>h.get? a=some o/\ig H h a u
 | .TL ps=>h.get? a=some { cls:=.none,data:=.fields ps }
 | .met f x=>h.get? a=some (zh (.ref f) (.ref x))
 | .ext φ=>φ h/\(∃ o,h.get? a=some o)/\∀ h1 h2:Heap,φ h1->(∀ o,h1.get? a=some o->h2.get? a=some o)->φ h2
noncomputable def vD(H:Hp)(h:Heap):Prop:=∀ a o,H a=some o->ig P w H h a o
end
section
variable {P:bG} {w:World} {H H':Hp} {h h':Heap} {a:Addr} {o:HO}
theorem ig.lt(x:ig P w H h a o):a < h.objs.size:=by
 cases o with
 | lst xs=>obtain⟨_,_,_,_,e⟩:=x; exact aP e
 | tup xs=>obtain⟨_,_,_,p⟩:=x; exact p.lt
 | dK kvs=>obtain⟨_,_,_,_,o,_,_,e,_⟩:=x; exact aP e
 | dT kvs=>obtain⟨_,_,_,_,o,_,_,e,_⟩:=x; exact aP e
 | set S n=>obtain⟨o,_,_,_,e,_⟩:=x; exact aP e
 | ins C dx fs=>obtain⟨_,_,_,e,_⟩:=x; exact aP e
 | own y=>obtain⟨_,e⟩:=x; exact aP e
 | xd fs=>obtain⟨_,⟨_,_,_,e,_⟩,_⟩:=x; exact aP e
 | WU lo hi=>obtain⟨_,_,_,e⟩:=x; exact aP e
 | mC ob u=>obtain⟨e,_⟩:=x; exact aP e
 | TL ps=>exact aP (show h.get? a=some _ from x)
 | met f y=>exact aP (show h.get? a=some _ from x)
 | ext φ=>obtain⟨_,⟨_,e⟩,_⟩:=x; exact aP e
theorem Paired.Xm{α β:Type}{F G:α->β->Prop}:∀ {l₁:List α} {Vh:List β},Kz F l₁ Vh->(∀ a b,F a b->G a b)->Kz G l₁ Vh:=by
 intro l₁ Vh h f;induction h with
 | nil=>exact .nil
 | cons r t ih=>exact .cons (f _ _ r) ih
theorem ig.mF(x:ig P w H h a o)(k:∀ b u,(b=a\/H b=some (.own a))->h.get? b=some u->h'.get? b=some u)
  (ho:∀ b,H b=some (.own a)->H' b=some (.own a)) (ht:∀ b xs,H b=some (.tup xs)->H' b=some (.tup xs)):ig P w H' h' a o:=by
 induction o with
 | lst xs=>obtain⟨z,bM,n,r,e⟩:=x; exact⟨z,bM,n,r,k _ _ (.inl rfl) e⟩
 | tup xs=>obtain⟨z,bM,r,ob,e,c⟩:=x; exact⟨z,bM,r,ob,k _ _ (.inl rfl) e,c⟩
 | dK kvs=>obtain⟨z,y,vs,r,ob,es,ep,e,c⟩:=x; exact⟨z,y,vs,r,ob,es,ep,k _ _ (.inl rfl) e,c⟩
 | dT kvs =>
  obtain⟨z,y,xs,r,ob,es,ep,e,c⟩:=x;exact⟨z,y,xs,Paired.Xm r fun p q z=>⟨z.1,ht _ _ z.2.1,z.2.2⟩,ob,es,ep,k _ _ (.inl rfl) e,c⟩
 | set S n=>obtain⟨ob,es,ep,t,e,c⟩:=x; exact⟨ob,es,ep,t,k _ _ (.inl rfl) e,c⟩
 | ins C dx fs =>
  obtain⟨d,z,ne,e,mA,⟨od,es,ep,e2,c⟩,r⟩:=x;exact⟨ho _ d,z,ne,k _ _ (.inl rfl) e,mA,⟨od,es,ep,k _ _ (.inr d) e2,c⟩,r⟩
 | own y=>obtain⟨ob,e⟩:=x; exact⟨ob,k _ _ (.inl rfl) e⟩
 | xd fs=>obtain⟨mA,⟨od,es,ep,e,c⟩,r⟩:=x; exact⟨mA,⟨od,es,ep,k _ _ (.inl rfl) e,c⟩,r⟩
 | WU lo hi=>obtain⟨t,u,v,e⟩:=x; exact⟨t,u,v,k _ _ (.inl rfl) e⟩
 | mC ob u ih=>obtain⟨e,q⟩:=x; exact⟨k _ _ (.inl rfl) e,ih q⟩
 | TL ps =>
  have e:h.get? a=some { cls:=.none,data:=.fields ps }:=x;show h'.get? a=some { cls:=.none,data:=.fields ps };exact k a _ (.inl rfl) e
 | met f y =>
  have e:h.get? a=some (zh (.ref f) (.ref y)):=x;show h'.get? a=some (zh (.ref f) (.ref y));exact k a _ (.inl rfl) e
 | ext φ=>obtain⟨p,⟨o,e⟩,st⟩:=x; exact⟨st _ _ p fun o q=>k _ _ (.inl rfl) q,⟨o,k _ _ (.inl rfl) e⟩,st⟩
theorem vD.lt(x:vD P w H h)(e:H a=some o):a < h.objs.size:=(x a o e).lt
theorem vD.fresh(x:vD P w H h)(e:h.objs.size<=a):H a=none:=by
 cases q:H a with
 | none=>rfl
 | some u=>exact absurd (bD (x.lt q) e) (i6 _)
theorem vD.kept(x:vD P w H h)(k:∀ b u,h.get? b=some u->h'.get? b=some u):vD P w H h':=fun a o e =>
 (x a o e).mF (fun b u _ q=>k b u q) (fun _ q=>q) fun _ _ q=>q
theorem vD.laid(x:vD P w H h)(k:∀ b u,h.get? b=some u->h'.get? b=some u)(hp:h.objs.size<=a)(new:ig P w (upd H a o) h' a o):vD P w (upd H a o) h':=fun b u e=>by
 have hn:=x.fresh hp;by_cases hb:b=a
 ·subst hb; rw [bX] at e; cases e; exact new
 ·rw [bK hb] at e;exact(x b u e).mF (fun c v _ q=>k c v q) (fun c q=>by rw [bK (fj q hn)]; exact q) fun c xs q=>by rw [bK (fj q hn)]; exact q
end
noncomputable def Rd(H:Hp)(a:Addr)(u:HO):Prop:=H a=some u\/∃ o,H a=some (.mC o u)
theorem Rd.ok{P:bG}{w:World}{H:Hp}{h:Heap}{a:Addr}{u:HO}(r:Rd H a u)(x:vD P w H h):ig P w H h a u:=by
 rcases r with r | ⟨o,r⟩
 ·exact x a u r
 ·obtain⟨_,q⟩:=x a _ r;exact q
noncomputable def Yv:Option HO->Prop
 | some (.lst _)=>True
 | some (.dK _)=>True
 | some (.dT _)=>True
 | some (.set _ _)=>True
 | some (.ins _ _ _)=>True
 | some (.ext _)=>True
 | _=>False
section
variable {P:bG} {w:World} {H:Hp} {h h':Heap} {x e:Addr} {o':HO}
theorem vD.write(ok:vD P w H h)(mu:Yv (H x))(he:e=x\/H e=some (.own x))(k:∀ b u,b≠e->h.get? b=some u->h'.get? b=some u)(Ws:∃ u,h'.get? e=some u)
  (new:ig P w (upd H x o') h' x o'):vD P w (upd H x o') h':=fun b u q=>by
 have Xa:∀ c y,H c=some (.own y)->c≠x:=fun c y r z=>by subst z; rw [r] at mu; exact mu
 have aaD:∀ c xs,H c=some (.tup xs)->c≠x:=fun c xs r z=>by subst z; rw [r] at mu; exact mu
 by_cases hb:b=x
 ·subst hb; rw [bX] at q; cases q; exact new
 ·rw [bK hb] at q;by_cases VC:b=e
  ·have q':H b=some (.own x):=by
    rcases he with z | z
    ·exact absurd (VC.trans z) hb
    ·rw [VC]; exact z
   rw [q] at q'; cases q';obtain⟨v,hv⟩:=Ws;exact⟨v,by rw [VC]; exact hv⟩
  ·refine(ok b u q).mF (fun c v hc r=>k c v ?_ r) (fun c r=>by rw [bK (Xa c b r)]; exact r) fun c xs r=>by rw [bK (aaD c xs r)]; exact r
   rcases hc with rfl | hc
   ·exact VC
   ·rintro rfl;rcases he with z | z
    ·exact Xa c b hc z
    ·rw [hc] at z; cases z; exact hb rfl
end
structure Un(fs ex:List Addr)(H H':Hp)(h h':Heap):Prop where
 keep:∀ b o,h.get? b=some o->H b=none->b∉fs->b∉ex->h'.get? b=some o
 slot:∀ b o,h.get? b=some o->H b=none->b∈fs->b∉ex->∃ sl,h'.get? b=some { o with slots:=sl }
 free:∀ b o,h.get? b=some o->H b=none->b∉ex->H' b=none
 there:∀ b o,h.get? b=some o->b∉ex->∃ o',h'.get? b=some o'
 xy:∀ b xs,H b=some (.tup xs)->H' b=some (.tup xs)
 wO:∀ b o u,H b=some (.mC o u)->H' b=some (.mC o u)
 xA:∀ b ps,H b=some (.TL ps)->∃ more,H' b=some (.TL (ps++more))
section
variable {fs fs' ex ex':List Addr} {H H1 H2:Hp} {h h1 h2 h':Heap} {a x e:Addr} {o:HO}
theorem Un.any(u:Un fs ex H H1 h h1){b:Addr}{ob:Obj}(q:h.get? b=some ob)(n:H b=none)(hx:b∉ex):∃ sl,h1.get? b=some { ob with slots:=sl }:=by
 by_cases hb:b∈fs
 ·exact u.slot b ob q n hb hx
 ·exact⟨ob.slots,u.keep b ob q n hb hx⟩
theorem Un.kept(k:∀ b u,h.get? b=some u->h'.get? b=some u):Un fs ex H H h h' :=
 ⟨fun b ob q _ _ _=>k b ob q,fun b ob q _ _ _=>⟨ob.slots,k b ob q⟩,fun _ _ _ n _=>n,fun b ob q _=>⟨ob,k b ob q⟩,fun _ _ q=>q,fun _ _ _ q=>q,fun _ ps q=>⟨#[],by rw [q]; simp⟩⟩
theorem Un.refl:Un fs ex H H h h:=Un.kept fun _ _ q=>q
theorem Un.laid(k:∀ b u,h.get? b=some u->h'.get? b=some u)(hp:h.objs.size<=a)(hn:H a=none):Un fs ex H (upd H a o) h h' where
 keep:=fun b u q _ _ _=>k b u q
 slot:=fun b u q _ _ _=>⟨u.slots,k b u q⟩
 free:=fun b u q n _=>by rw [bK (bc (bD (aP q) hp))]; exact n
 there:=fun b u q _=>⟨u,k b u q⟩
 xy:=fun b xs q=>by rw [bK (fj q hn)]; exact q
 wO:=fun b u xs q=>by rw [bK (fj q hn)]; exact q
 xA:=fun b ps q=>⟨#[],by rw [bK (fj q hn),q]; simp⟩
theorem Un.write(mu:Yv (H x))(he:e=x\/H e=some (.own x))(k:∀ b u,b≠e->h.get? b=some u->h'.get? b=some u)(Ws:∃ u,h'.get? e=some u):Un fs ex H (upd H x o) h h':=by
 have hx:∀ b,H b=none->b≠x:=fun b n z=>by subst z; rw [n] at mu; exact mu
 have hb:∀ b,H b=none->b≠e:=fun b n z=>by
  subst z;rcases he with r | r
  ·exact hx b n r
  ·rw [n] at r; cases r
 have hm:∀ b u,H b=some u->¬ Yv (some u)->b≠x:=fun b u q nm z=>by subst z; rw [q] at mu; exact nm mu
 refine⟨fun b u q n _ _=>k b u (hb b n) q,fun b u q n _ _=>⟨u.slots,k b u (hb b n) q⟩,fun b u q n _=>by rw [bK (hx b n)]; exact n,fun b u q _=>?_,
  fun b xs q=>by rw [bK (hm b _ q fun z=>z)]; exact q,fun b u xs q=>by rw [bK (hm b _ q fun z=>z)]; exact q,fun b ps q=>⟨#[],by rw [bK (hm b _ q fun z=>z),q]; simp⟩⟩
 by_cases VC:b=e
 ·subst VC; exact Ws
 ·exact⟨u,k b u VC q⟩
end
noncomputable def YA(h:Heap)(H:Hp):List Addr:=(c9 h.objs.size).filter fun a=>(H a).isSome
noncomputable def DV(h:Heap)(H:Hp):Heap:=PySem.W.hideAll h (YA h H)
theorem MY(h:Heap)(H:Hp):(DV h H).objs.size=h.objs.size:=PySem.W.hideAll_size _ _
theorem P7{h:Heap}{H:Hp}{b:Addr}{o:Obj}(e:h.get? b=some o)(n:H b=none):(DV h H).get? b=some o :=
 PySem.W.hideAll_get _ e fun hm=>by
  have q:(H b).isSome=true:=(List.mem_filter.mp hm).2;rw [n] at q; simp at q
theorem Sy{h:Heap}{H:Hp}{b:Addr}{o:Obj}(e:(DV h H).get? b=some o):h.get? b=some o/\H b=none:=by
 have e':h.get? b=some o:=PySem.W.of_hideAll (YA h H) e;refine⟨e',?_⟩;cases q:H b with
 | none=>rfl
 | some x =>
  have hm:b∈YA h H:=List.mem_filter.mpr ⟨List.mem_range.mpr (aP e'),by simp [q]⟩;have z:(DV h H).get? b=none:=PySem.W.hideAll_none (YA h H) hm;rw [z] at e; cases e
noncomputable def ur(g h:Heap)(L:Addr):List (Addr×Obj):=(c9 h.objs.size).filterMap fun a=>if a=L\/(g.get? a).isSome=true then none else (h.get? a).map fun o=>(a,o)
theorem yk{g h:Heap}{L a:Addr}{o:Obj}(h1:a≠L)(h2:g.get? a=none)(h3:h.get? a=some o):(a,o)∈ur g h L :=
 List.mem_filterMap.mpr ⟨a,List.mem_range.mpr (aP h3),by simp [h1,h2,h3]⟩
theorem zX{g h:Heap}{L:Addr}{p:Addr×Obj}(hp:p∈ur g h L):p.1≠L/\g.get? p.1=none/\h.get? p.1=some p.2:=by
 obtain⟨b,_,e⟩:=List.mem_filterMap.mp hp;split at e
 ·cases e
 ·rename_i hn;cases q:h.get? b with
  | none=>rw [q] at e; simp at e
  | some u =>
   rw [q] at e;simp only [iE,Option.some.injEq] at e;subst e;refine⟨fun z=>hn (.inl z),?_,q⟩;show g.get? b=none;cases r:g.get? b with
   | none=>rfl
   | some v=>exact(hn (.inr (by simp [r]))).elim
noncomputable def rest(g h:Heap)(L d:Addr):List (Addr×Obj):=(ur g h L).filter fun p=>decide (p.1≠d)
theorem Ga{g h:Heap}{L:Addr}:News g L h (ur g h L):=fun p hp=>let ⟨a,b,c⟩:=zX hp; ⟨c,a,b⟩
structure Mod(K:aq)(mg:Str->Option Value)(base:Heap):Prop where
 Xp:K.In base
 glob:base.Ns bP mg
 blt:∃ mb,base.Ns builtinsNs mb/\∀ x:Str,x≠"__name__"->mb x=eE x
 nolimit:base.NoLimit
structure Cx where
 prog:bG
 w:World
 K:aq
 mg:Str->Option Value
 base:Heap
 A:du
 N:List Str
 oD:az
 Rc:Hp
 env:Env
 outer:List Env
 stack:List Env
 ex:List Addr
 fn:Str->Bool
 calm:Bool
 pn:List (Addr×Obj)
 xe:Value->az->Prop
noncomputable def NS(l:List Env):List Addr:=l.filterMap (·.frame)
noncomputable abbrev Cx.fs(X:Cx):List Addr:=NS X.outer
noncomputable def Y7(sc:Scope)(x:Str):Prop:=sc.names.lookup x=some .local\/sc.names.lookup x=some .cell\/sc.names.lookup x=some .free
noncomputable def Loc(sc:Scope)(x:Str):Prop:=sc.names.lookup x=some .local\/sc.names.lookup x=some .cell
noncomputable def Look(env:Env)(h:Heap)(m:Str->Option Value)(x:Str)(u:Value):Prop :=
 (env.kindOf x=some .local/\m x=some u)\/((env.kindOf x=some .cell\/env.kindOf x=some .free)/\∃ c,env.cells.lookup x=some c/\h.IsCell c (some u))
structure Cx.Ok(X:Cx):Prop where
 mod:Mod X.K X.mg X.base
 kind:X.env.scope.kind=.function
 glob:X.env.globals=bP
 blt:X.env.builtins=builtinsNs
 above:X.oD.heap.objs.size<=X.env.locals
 inj:∀ x y c,X.env.cells.lookup x=some c->X.env.cells.lookup y=some c->x=y
 has:∀ x,(X.env.kindOf x=some .cell\/X.env.kindOf x=some .free)->∃ c,X.env.cells.lookup x=some c
 Yj:∀ x c,X.fn x=true->X.env.cells.lookup x=some c->X.oD.heap.objs.size<=c
 hd:X.calm=true->X.A.handled=none
 frames:X.A.frames=some X.stack
 YC:X.stack=X.outer\/(X.stack=X.env :: X.outer/\X.env.frame=some X.env.locals)
 Y5:∀ b∈X.ex,b≠X.env.locals/\∀ x c,X.env.cells.lookup x=some c->c≠b
 bs:∀ b o,X.base.get? b=some o->X.oD.heap.get? b=some o/\X.Rc b=none
 Ts:X.base.objs.size<=X.oD.heap.objs.size
 MB:∀ b o,X.base.get? b=some o->b∉X.ex
 Qq:∀ b∈X.ex,b∉X.fs
 Ax:X.oD.heap.FunFrames X.base X.outer
 Ww:∀ b∈X.fs,X.Rc b=none
structure Inv(X:Cx)(pins:List (Addr×Obj))(σ:List (Option V))(H:Hp)(s:az):Prop where
 ok:X.Ok
 os:s.os=X.oD.os
 bare:C3 s.gens
 base:Un X.fs X.ex X.Rc H X.oD.heap s.heap
 loc:∃ m,s.heap.Ns X.env.locals m/\∀ (i:Nat) (x:Str) (v:V),X.N[i]?=some x->σ[i]?=some (some v)->Y7 X.env.scope x->∃ u,RelV v u/\Look X.env s.heap m x u
 cell:∀ x c,X.env.cells.lookup x=some c->∃ v,s.heap.IsCell c v
 free:H X.env.locals=none
 oa:∀ x c,X.env.cells.lookup x=some c->H c=none
 pin:∀ p∈X.pn++pins,s.heap.get? p.1=some p.2/\H p.1=none/\p.1≠X.env.locals/\p.1∉X.fs/\∀ v,p.2.data≠.cell v
 cN:vD X.prog X.w H s.heap
 len:σ.length=X.N.length
section
variable {X:Cx} {pins:List (Addr×Obj)} {σ:List (Option V)} {H H':Hp} {s:az} {h':Heap}
theorem Cx.Ok.aaF(ok:X.Ok){b:Addr}{o:Obj}(e:X.base.get? b=some o):b∉X.fs:=fun hb=>by
 have:=(ok.Ax.mem hb).1;rw [e] at this; cases this
theorem Inv.bs(I:Inv X pins σ H s):∀ b o,X.base.get? b=some o->s.heap.get? b=some o/\H b=none:=fun b o e =>
 ⟨I.base.keep b o (I.ok.bs b o e).1 (I.ok.bs b o e).2 (I.ok.aaF e) (I.ok.MB b o e),I.base.free b o (I.ok.bs b o e).1 (I.ok.bs b o e).2 (I.ok.MB b o e)⟩
theorem Inv.bk(I:Inv X pins σ H s):∀ b o,X.base.get? b=some o->s.heap.get? b=some o:=fun b o e=>(I.bs b o e).1
theorem Inv.mod(I:Inv X pins σ H s):Mod X.K X.mg X.base:=I.ok.mod
theorem Inv.HZ(I:Inv X pins σ H s):X.K.In s.heap:=I.ok.mod.Xp.keeps I.bk
theorem Inv.fr(I:Inv X pins σ H s):∃ m,Fr X.base X.env.locals s.heap m :=
 let ⟨m,hn,_⟩:=I.loc
 ⟨m,hn,I.bk,a9 I.ok.Ts I.ok.above⟩
theorem Inv.lt(I:Inv X pins σ H s):X.env.locals < s.heap.objs.size:=let ⟨_,hn,_⟩:=I.loc; hn.lt
theorem Inv.sz(I:Inv X pins σ H s):X.oD.heap.objs.size<=s.heap.objs.size:=a9 I.ok.above (RK I.lt)
theorem Inv.aaE(I:Inv X pins σ H s){a:Addr}(h:s.heap.objs.size<=a):a∉X.fs:=fun hb=>by
 obtain⟨_,o,ho,_⟩:=I.ok.Ax.mem hb;exact absurd (bD (aP ho) (a9 I.sz h)) (i6 _)
theorem Inv.VU(I:Inv X pins σ H s):∀ x c,X.env.cells.lookup x=some c->c≠X.env.locals:=fun x c e z=>by
 obtain⟨v,o,ho,hd⟩:=I.cell x c e;obtain⟨m,⟨o',es,ep,SU,DY,_⟩,_⟩:=I.loc;rw [z,SU] at ho; cases ho; rw [DY] at hd; cases hd
theorem Inv.Ax(I:Inv X pins σ H s):s.heap.FunFrames X.base X.outer:=by
 have all:∀ (l:List Env),(∀ b∈NS l,b∈X.fs)->X.oD.heap.FunFrames X.base l->s.heap.FunFrames X.base l:=by
  intro l;induction l with
  | nil=>intro _ _; trivial
  | cons env r ih =>
   intro hs hl;obtain⟨hk,⟨L,o,hf,hn,ho,hd⟩,hr⟩:=hl;have hL:L∈X.fs:=hs L (by unfold NS; rw [yI,hf]; exact bJ);obtain⟨sl,e⟩:=I.base.slot L o ho (I.ok.Ww L hL) hL fun z=>I.ok.Qq L z hL;exact⟨hk,⟨L,_,hf,hn,e,hd⟩,ih (fun b hb=>hs b (by unfold NS; rw [yI,hf]; exact aK _ hb)) hr⟩
 exact all X.outer (fun _ hb=>hb) I.ok.Ax
theorem Inv.stack(I:Inv X pins σ H s):s.heap.FunFrames X.base X.stack:=by
 rcases I.ok.YC with e | ⟨e,hf⟩
 ·rw [e]; exact I.Ax
 ·rw [e];obtain⟨m,hn,_⟩:=I.loc;refine .cons (by rw [I.ok.kind]; decide) hf hn ?_ I.Ax;exact RO (a9 I.ok.Ts I.ok.above)
theorem Inv.IJ(I:Inv X pins σ H s):∀ b∈NS X.stack,b∈X.env.locals :: X.fs:=fun b hb=>by
 rcases I.ok.YC with e | ⟨e,hf⟩
 ·rw [e] at hb; exact aK _ hb
 ·rw [e] at hb;unfold NS at hb;rw [yI,hf] at hb;exact hb
theorem Inv.KO(I:Inv X pins σ H s):∀ b∈NS X.stack,H b=none:=fun b hb=>by
 rcases List.mem_cons.mp (I.IJ b hb) with e | hb
 ·rw [e]; exact I.free
 ·obtain⟨_,o,ho,_⟩:=I.ok.Ax.mem hb;exact I.base.free b o ho (I.ok.Ww b hb) fun z=>I.ok.Qq b z hb
theorem Inv.step{g':Array GenState}{t':Nat}{d':Drawn}{ch:List Addr}(I:Inv X pins σ H s)
  (Ud:∀ b∈ch,(b∈X.ex\/X.oD.heap.objs.size<=b)/\b≠X.env.locals/\(∀ x c,X.env.cells.lookup x=some c->c≠b)/\∀ p∈X.pn++pins,p.1≠b)
  (keep:∀ b o,b≠X.env.locals->b∉X.fs->b∉ch->s.heap.get? b=some o->H b=none->h'.get? b=some o)
  (slot:∀ b o,b≠X.env.locals->b∈X.fs->b∉ch->s.heap.get? b=some o->H b=none->∃ sl,h'.get? b=some { o with slots:=sl }) (free:∀ b o,b∉ch->s.heap.get? b=some o->H b=none->H' b=none)
  (there:∀ b o,b∉ch->s.heap.get? b=some o->∃ o',h'.get? b=some o')
  (xy:∀ b xs,H b=some (.tup xs)->H' b=some (.tup xs)) (wO:∀ b o u,H b=some (.mC o u)->H' b=some (.mC o u)) (xA:∀ b ps,H b=some (.TL ps)->∃ more,H' b=some (.TL (ps++more)))
  (ns:∀ m,s.heap.Ns X.env.locals m->h'.Ns X.env.locals m) (cN:vD X.prog X.w H' h') (hg:C3 g') :
  Inv X pins σ H' { s with heap:=h',gens:=g',drawn:=d',toks:=t' }:=by
 have neL:∀ b o,X.oD.heap.get? b=some o->b≠X.env.locals:=fun b o e=>bc (bD (aP e) I.ok.above);have YM:∀ b o,X.oD.heap.get? b=some o->b∉X.ex->b∉ch:=fun b o e hx hb=>by
  rcases (Ud b hb).1 with z | z
  ·exact hx z
  ·exact absurd (bD (aP e) z) (i6 _)
 have cellK:∀ x c,X.env.cells.lookup x=some c->∀ v,s.heap.IsCell c v->h'.IsCell c v:=fun x c e v ⟨o,ho,hd⟩=>by
  have Xh:c∉ch:=fun z=>(Ud c z).2.2.1 x c e rfl;by_cases hc:c∈X.fs
  ·obtain⟨sl,q⟩:=slot c o (I.VU x c e) hc Xh ho (I.oa x c e);exact⟨_,q,hd⟩
  ·exact⟨o,keep c o (I.VU x c e) hc Xh ho (I.oa x c e),hd⟩
 refine⟨I.ok,I.os,hg,⟨fun b o e n hb hx=>?_,fun b o e n hb hx=>?_,fun b o e n hx=>?_,fun b o e hx=>?_,fun b xs e=>xy b xs (I.base.xy b xs e),fun b o xs e=>wO b o xs (I.base.wO b o xs e),fun b ps e=>?_⟩,?_,fun x c e=>?_,?_,fun x c e=>?_,fun p hp=>?_,cN,I.len⟩
 ·exact keep b o (neL b o e) hb (YM b o e hx) (I.base.keep b o e n hb hx) (I.base.free b o e n hx)
 ·obtain⟨sl,e1⟩:=I.base.slot b o e n hb hx;obtain⟨sl',e2⟩:=slot b _ (neL b o e) hb (YM b o e hx) e1 (I.base.free b o e n hx);exact⟨sl',e2⟩
 ·obtain⟨o',e1⟩:=I.base.there b o e hx;exact free b o' (YM b o e hx) e1 (I.base.free b o e n hx)
 ·obtain⟨o',e1⟩:=I.base.there b o e hx;exact there b o' (YM b o e hx) e1
 ·obtain⟨m1,e1⟩:=I.base.xA b ps e;obtain⟨m2,e2⟩:=xA b _ e1;exact⟨m1++m2,by rw [e2,Array.append_assoc]⟩
 ·obtain⟨m,hn,hl⟩:=I.loc;refine⟨m,ns m hn,fun i x v e1 e2 e3=>?_⟩;obtain⟨u,r,l⟩:=hl i x v e1 e2 e3;refine⟨u,r,?_⟩;rcases l with l | ⟨k,c,e,z⟩
  ·exact .inl l
  ·exact .inr ⟨k,c,e,cellK x c e _ z⟩
 ·obtain⟨v,z⟩:=I.cell x c e;exact⟨v,cellK x c e v z⟩
 ·obtain⟨m,⟨o,_,_,ho,_⟩,_⟩:=I.loc;exact free _ o (fun z=>(Ud _ z).2.1 rfl) ho I.free
 ·obtain⟨v,o,ho,hd⟩:=I.cell x c e;exact free c o (fun z=>(Ud c z).2.2.1 x c e rfl) ho (I.oa x c e)
 ·obtain⟨e,n,ne,nf,d⟩:=I.pin p hp;have Xh:p.1∉ch:=fun z=>(Ud p.1 z).2.2.2 p hp rfl;exact⟨keep p.1 p.2 ne nf Xh e n,free p.1 p.2 Xh e n,ne,nf,d⟩
theorem Inv.un{t':Nat}(I:Inv X pins σ H s)(u:Un X.fs [] H H' s.heap h')(cN:vD X.prog X.w H' h'):Inv X pins σ H' { s with heap:=h',toks:=t' }:=by
 obtain⟨m,⟨o,es,ep,ho,r⟩,_⟩:=id I.loc;obtain⟨sl,hL⟩:=u.any ho I.free (by simp);exact I.step (g':=s.gens) (d':=s.drawn) (ch:=[]) (fun _ z=>nomatch z) (fun b o _ hb _ e n=>u.keep b o e n hb (by simp)) (fun b o _ hb _ e n=>u.slot b o e n hb (by simp)) (fun b o _ e n=>u.free b o e n (by simp)) (fun b o _ e=>u.there b o e (by simp)) u.xy u.wO u.xA (fun m' hm=>by
  obtain⟨o',Ig,ep',SU,r'⟩:=hm;rw [ho] at SU; cases SU;exact⟨_,Ig,ep',hL,r'⟩) cN I.bare
theorem Inv.call{g':Array GenState}{t':Nat}{d':Drawn}{ch:List Addr}(I:Inv X pins σ H s)(u:Un (NS X.stack) ch H H' s.heap h')(cN:vD X.prog X.w H' h')(hg:C3 g')
  (Ud:∀ b∈ch,(b∈X.ex\/X.oD.heap.objs.size<=b)/\b≠X.env.locals/\(∀ x c,X.env.cells.lookup x=some c->c≠b)/\∀ p∈X.pn++pins,p.1≠b) :
  Inv X pins σ H' { s with heap:=h',gens:=g',drawn:=d',toks:=t' }:=by
 obtain⟨m,⟨o,es,ep,ho,r⟩,_⟩:=id I.loc;obtain⟨sl,hL⟩:=u.any ho I.free fun z=>(Ud _ z).2.1 rfl;exact I.step (ch:=ch) Ud (fun b o hL hb hc e n=>u.keep b o e n (fun z=>(List.mem_cons.mp (I.IJ b z)).elim hL hb) hc) (fun b o _ _ hc e n=>u.any e n hc) (fun b o hc e n=>u.free b o e n hc) (fun b o hc e=>u.there b o e hc) u.xy u.wO u.xA (fun m' hm=>by
  obtain⟨o',Ig,ep',SU,r'⟩:=hm;rw [ho] at SU; cases SU;exact⟨_,Ig,ep',hL,r'⟩) cN hg
theorem Inv.turned{t':Nat}{it:Addr}(I:Inv X pins σ H s)(k:∀ b o,b≠it->s.heap.get? b=some o->h'.get? b=some o)(hn:H it=none)(hL:it≠X.env.locals)
  (h1:it∈X.ex\/X.oD.heap.objs.size<=it) (h2:∀ x c,X.env.cells.lookup x=some c->c≠it) (h3:∀ p∈X.pn++pins,p.1≠it):Inv X pins σ H { s with heap:=h',toks:=t' }:=by
 have nit:∀ b u,H b=some u->b≠it:=fun b u e z=>by rw [z,hn] at e; cases e
 refine I.step (g':=s.gens) (d':=s.drawn) (ch:=[it]) (fun b hb=>?_) (fun b o _ _ hc e _=>k b o (fun z=>hc (by simp [z])) e) (fun b o _ _ hc e _=>⟨o.slots,k b o (fun z=>hc (by simp [z])) e⟩) (fun _ _ _ _ n=>n)
  (fun b o hc e=>⟨o,k b o (fun z=>hc (by simp [z])) e⟩) (fun _ _ e=>e) (fun _ _ _ e=>e) (fun b ps e=>⟨#[],by rw [e]; simp⟩) (fun m hm=>?_) (fun b u e=>?_) I.bare
 ·have e:b=it:=by simpa using hb
  subst e;exact⟨h1,hL,h2,h3⟩
 ·obtain⟨o,es,ep,ho,r⟩:=hm;exact⟨o,es,ep,k _ o (dW hL) ho,r⟩
 ·refine(I.cN b u e).mF (fun c v hc q=>k c v ?_ q) (fun _ q=>q) fun _ _ q=>q;rcases hc with z | z
  ·rw [z]; exact nit b u e
  ·exact nit c _ z
theorem Inv.tok(I:Inv X pins σ H s)(t:Nat):Inv X pins σ H { s with toks:=t }:=I.un (h':=s.heap) (t':=t) Un.refl I.cN
theorem Inv.kept{t':Nat}(I:Inv X pins σ H s)(k:∀ b u,s.heap.get? b=some u->h'.get? b=some u):Inv X pins σ H { s with heap:=h',toks:=t' }:=I.un (Un.kept k) (I.cN.kept k)
theorem Inv.laid{a:Addr}{o:HO}{t':Nat}(I:Inv X pins σ H s)(k:∀ b u,s.heap.get? b=some u->h'.get? b=some u)(hp:s.heap.objs.size<=a)(new:ig X.prog X.w (upd H a o) h' a o) :
  Inv X pins σ (upd H a o) { s with heap:=h',toks:=t' }:=I.un (Un.laid k hp (I.cN.fresh hp)) (I.cN.laid k hp new)
theorem Inv.write{x e:Addr}{o:HO}{t':Nat}(I:Inv X pins σ H s)(mu:Yv (H x))(he:e=x\/H e=some (.own x))(k:∀ b u,b≠e->s.heap.get? b=some u->h'.get? b=some u)(Ws:∃ u,h'.get? e=some u)
  (new:ig X.prog X.w (upd H x o) h' x o):Inv X pins σ (upd H x o) { s with heap:=h',toks:=t' }:=I.un (Un.write mu he k Ws) (I.cN.write mu he k Ws new)
theorem Inv.K6{TX:List (Addr×Obj)}(I:Inv X pins σ H s)(h:∀ p∈TX,s.heap.get? p.1=some p.2/\H p.1=none/\p.1≠X.env.locals/\p.1∉X.fs/\∀ v,p.2.data≠.cell v):Inv X TX σ H s :=
 ⟨I.ok,I.os,I.bare,I.base,I.loc,I.cell,I.free,I.oa,fun p hp=>(List.mem_append.mp hp).elim (fun z=>I.pin p (eO _ z)) (h p),I.cN,I.len⟩
theorem FX{N:List Str}(hN:N.Nodup){i j:Nat}{x:Str}(a:N[i]?=some x)(b:N[j]?=some x):i=j:=by
 obtain⟨h1,e1⟩:=List.getElem?_eq_some_iff.mp a;obtain⟨h2,e2⟩:=List.getElem?_eq_some_iff.mp b;exact(List.getElem_inj hN).mp (e1.trans e2.symm)
theorem B4{M:Model}{A:du}{E:Value->az->Prop}{i:Nat}{x:Str}{v:V}{u:Value}{Q:Unit->az->Prop}(I:Inv X pins σ H s)(hN:X.N.Nodup)(hi:X.N[i]?=some x)(hx:Loc X.env.scope x)(r:RelV v u)
  (h:∀ s',Inv X pins (σ.set i (some v)) H s'->(∃ a,ip a s.heap s'.heap/\(a=X.env.locals\/X.env.cells.lookup x=some a))->Q () s') (hf:autoParam (X.fn x=true\/X.env.scope.names.lookup x=some .local) Ao._auto_1):wpAny M A (storeName X.env x u) Q E s:=by
 obtain⟨m,hn,hl⟩:=id I.loc;have abv:(X.env.scope.kind == .class||(X.env.scope.kind == .module&&X.env.locals != X.env.globals))=false:=by rw [I.ok.kind]; rfl
 have XF:i < σ.length:=by rw [I.len]; exact(List.getElem?_eq_some_iff.mp hi).1
 have VU:=I.VU;have tracked:∀ {a:Addr} {h':Heap},(∃ o,s.heap.get? a=some o/\H a=none)->ip a s.heap h'->vD X.prog X.w H h':=fun {a h'} ha hs b ob e=>by
  obtain⟨_,_,rD⟩:=ha;refine(I.cN b ob e).mF (fun c w' hc q=>(hs.2 c ?_).trans q) (fun _ q=>q) fun _ _ q=>q;rintro rfl;rcases hc with rfl | hc
  ·rw [rD] at e; cases e
  ·rw [rD] at hc; cases hc
 rcases hx with hk | hk
 ·refine wpAny_storeName_local hk hn (fun h' Rz hs=>?_) abv;obtain⟨oL,_,_,hoL,_⟩:=id hn;refine h _ ⟨I.ok,I.os,I.bare,⟨fun b o e n hb hx=>?_,fun b o e n hb hx=>?_,I.base.free,fun b o e hx=>?_,I.base.xy,I.base.wO,I.base.xA⟩,⟨_,Rz,fun j y v' e1 e2 e3=>?_⟩,fun y c e=>?_,I.free,I.oa,fun p hp=>?_,tracked ⟨oL,hoL,I.free⟩ hs,by simpa using I.len⟩ ⟨_,hs,.inl rfl⟩
  ·exact(hs.2 b (bc (bD (aP e) I.ok.above))).trans (I.base.keep b o e n hb hx)
  ·obtain⟨sl,e1⟩:=I.base.slot b o e n hb hx;exact⟨sl,(hs.2 b (bc (bD (aP e) I.ok.above))).trans e1⟩
  ·obtain⟨o',e1⟩:=I.base.there b o e hx;exact⟨o',(hs.2 b (bc (bD (aP e) I.ok.above))).trans e1⟩
  ·by_cases hj:j=i
   ·subst hj;rw [hi] at e1; cases e1;rw [da XF] at e2;cases e2;exact⟨u,r,.inl ⟨hk,by simp⟩⟩
   ·rw [eQ (dW hj)] at e2;obtain⟨u',r',q⟩:=hl j y v' e1 e2 e3;refine⟨u',r',?_⟩;rcases q with ⟨k,e⟩ | ⟨k,c,e,z⟩
    ·refine .inl ⟨k,?_⟩;have:y≠x:=fun e=>hj (FX hN e1 (e ▸ hi));simp [this,e]
    ·exact .inr ⟨k,c,e,z.sameBut hs (VU y c e)⟩
  ·obtain⟨w',z⟩:=I.cell y c e;exact⟨w',z.sameBut hs (VU y c e)⟩
  ·obtain⟨e,n,ne,nf,d⟩:=I.pin p hp;exact⟨(hs.2 p.1 ne).trans e,n,ne,nf,d⟩
 ·have hfn:X.fn x=true:=by
   rcases hf with z | z
   ·exact z
   ·rw [z] at hk; cases hk
  obtain⟨c,hc⟩:=I.ok.has x (.inl hk);obtain⟨w',z⟩:=I.cell x c hc;refine wpAny_storeName_cell I.ok.kind hk hc z (fun h' Ue hs=>?_);obtain⟨oc,Wq,abg⟩:=id z;refine h { s with heap:=h' } ⟨I.ok,I.os,I.bare,⟨fun b o e n hb hx=>?_,fun b o e n hb hx=>?_,I.base.free,fun b o e hx=>?_,I.base.xy,I.base.wO,I.base.xA⟩,⟨m,hn.sameBut hs (dW (VU x c hc)),fun j y v' e1 e2 e3=>?_⟩,fun y c' e=>?_,I.free,I.oa,fun p hp=>?_,tracked ⟨oc,Wq,I.oa x c hc⟩ hs,by simpa using I.len⟩ ⟨c,hs,.inr hc⟩
  ·exact(hs.2 b (bc (bD (aP e) (I.ok.Yj x c hfn hc)))).trans (I.base.keep b o e n hb hx)
  ·obtain⟨sl,e1⟩:=I.base.slot b o e n hb hx;exact⟨sl,(hs.2 b (bc (bD (aP e) (I.ok.Yj x c hfn hc)))).trans e1⟩
  ·obtain⟨o',e1⟩:=I.base.there b o e hx;exact⟨o',(hs.2 b (bc (bD (aP e) (I.ok.Yj x c hfn hc)))).trans e1⟩
  ·by_cases hj:j=i
   ·subst hj;rw [hi] at e1; cases e1;rw [da XF] at e2;cases e2;exact⟨u,r,.inr ⟨.inl hk,c,hc,Ue⟩⟩
   ·rw [eQ (dW hj)] at e2;obtain⟨u',r',q⟩:=hl j y v' e1 e2 e3;refine⟨u',r',?_⟩;rcases q with q | ⟨k,c',e,z'⟩
    ·exact .inl q
    ·refine .inr ⟨k,c',e,z'.sameBut hs ?_⟩;rintro rfl;exact hj (FX hN e1 (I.ok.inj _ _ _ e hc ▸ hi))
  ·by_cases hcc:c'=c
   ·subst hcc; exact⟨_,Ue⟩
   ·obtain⟨w2,z2⟩:=I.cell y c' e;exact⟨w2,z2.sameBut hs hcc⟩
  ·obtain⟨e,n,ne,nf,d⟩:=I.pin p hp;refine⟨(hs.2 p.1 ?_).trans e,n,ne,nf,d⟩;intro q;rw [q,Wq] at e;have q':oc=p.2:=bx e;exact d w' (by rw [<-q']; exact abg)
theorem Fh{M:Model}{A:du}{E:Value->az->Prop}{i:Nat}{x:Str}{v:V}{u:Value}{Q:Unit->az->Prop}(I:Inv X pins σ H s)(hN:X.N.Nodup)(hi:X.N[i]?=some x)(hx:Loc X.env.scope x)(r:RelV v u)
  (h:∀ s',Inv X pins (σ.set i (some v)) H s'->Q () s') (hf:autoParam (X.fn x=true\/X.env.scope.names.lookup x=some .local) Ao._auto_1):wpAny M A (storeName X.env x u) Q E s :=
 B4 I hN hi hx r (fun s' I' _=>h s' I') hf
end
noncomputable abbrev XK:=Value->Option Addr->Hp->Prop
noncomputable abbrev St:=List (Option V)
noncomputable abbrev VK:=V->Hp->Prop
noncomputable abbrev TE:=St->Hp->VK->Prop
noncomputable abbrev TT:=St->Hp->(Bool->Hp->Prop)->Prop
noncomputable abbrev TA:=St->Hp->(List V->Hp->Prop)->Prop
structure Ends where
 nx:St->Hp->Prop
 rt:VK
 bk:St->Hp->Prop:=fun _ _=>False
 ct:St->Hp->Prop:=fun _ _=>False
noncomputable abbrev TS:=Ends->St->Hp->Prop
noncomputable def EP(X:Cx)(pins:List (Addr×Obj))(σ:St)(Q:VK)(u:Value)(s':az):Prop:=∃ v H',Inv X pins σ H' s'/\RelV v u/\Q v H'
noncomputable def TP(X:Cx)(pins:List (Addr×Obj))(σ:St)(Q:Bool->Hp->Prop)(b:Bool)(s':az):Prop:=∃ H',Inv X pins σ H' s'/\Q b H'
noncomputable def SP(X:Cx)(pins:List (Addr×Obj))(D:Ends)(f:Flow)(s':az):Prop :=
 match f with
 | .next=>∃ kb H',Inv X pins kb H' s'/\D.nx kb H'
 | .brk=>∃ kb H',Inv X pins kb H' s'/\D.bk kb H'
 | .cont=>∃ kb H',Inv X pins kb H' s'/\D.ct kb H'
 | .ret u=>∃ v kb H',Inv X pins kb H' s'/\RelV v u/\D.rt v H'
noncomputable def PE(X:Cx)(e:Expr)(t:TE):Prop :=
 ∀ (pins:List (Addr×Obj)) (s:az) (σ:St) (H:Hp) (Q:VK),Inv X pins σ H s->t σ H Q->wpAny (model X.prog X.w) X.A (eval e X.env) (EP X pins σ Q) X.xe s
noncomputable def Wz(X:Cx)(st:List Stmt)(t:TS):Prop :=
 ∀ (pins:List (Addr×Obj)) (s:az) (σ:St) (H:Hp) (D:Ends),Inv X pins σ H s->t D σ H->wpAny (model X.prog X.w) X.A (execs st X.env) (SP X pins D) X.xe s
theorem iy{α:Type}{t:Sem α}{Q Q':α->az->Prop}{M:Model}{A:du}{E:Value->az->Prop}{s:az}(h:wpAny M A t Q E s)(hQ:∀ a s,Q a s->Q' a s):wpAny M A t Q' E s:=Ij h hQ fun _ _ x=>x
section
variable {X:Cx}
noncomputable def ZP(i:Nat):TE:=fun σ H Q=>∃ v,σ[i]?=some (some v)/\Q v H
noncomputable def tC(v:V):TE:=fun _ H Q=>Q v H
theorem U3 {i:Nat} {x:Str} {pos:Pos} (hN:X.N[i]?=some x) (hv:Y7 X.env.scope x) (hd:autoParam ((x == ("__debug__" : Str))=false) Ad._auto_1) (Ls:autoParam ((x == ("__classdict__" : Str))=false) Ad._auto_1):PE X (.Name x pos) (ZP i):=by
 intro pins s σ H Q I h;obtain⟨v,e,h⟩:=h;obtain⟨m,hn,hl⟩:=I.loc;obtain⟨u,r,l⟩:=hl i x v hN e hv;have fin:EP X pins σ Q u s:=⟨v,H,I,r,h⟩;rcases l with ⟨hk,hm⟩ | ⟨hk,c,hc,rE⟩
 ·exact wpAny_Name (wpAny_loadName_local I.ok.kind hk hn hm fin) hd
 ·rcases hk with hk | hk
  ·exact wpAny_Name (wpAny_loadName_cell I.ok.kind hk hc rE fin) hd
  ·exact wpAny_Name (wpAny_loadName_free I.ok.kind hk hc rE fin Ls) hd
theorem U4{i j pos}:PE X (.Constant (.int i) j pos) (tC (.int i)):=fun _ _ _ H _ I h=>wpAny_Constant_int ⟨.int i,H,I.tok _,⟨_,rfl⟩,h⟩
theorem W2{b j pos}:PE X (.Constant (.bool b) j pos) (tC (.bl b)):=fun _ _ _ H _ I h=>Constant_bool ⟨.bl b,H,I,rfl,h⟩
noncomputable def Gl(X:Cx)(x:Str):Prop:=X.env.kindOf x=some .globalImplicit
theorem wF{E:Value->az->Prop}{pins:List (Addr×Obj)}{s:az}{σ:St}{H:Hp}{x:Str}{u:Value}{pos:Pos}{Q:Value->az->Prop}(I:Inv X pins σ H s)(hg:Gl X x)(hm:X.mg x=some u)(h:Q u s)
  (hd:autoParam ((x == ("__debug__" : Str))=false) Ad._auto_1):wpAny (model X.prog X.w) X.A (eval (.Name x pos) X.env) Q E s :=
 HX I.ok.kind hg (Calls.loadGlobal_global (by rw [I.ok.glob]; exact I.mod.glob.keeps I.bk) hm h) hd
theorem mG{E:Value->az->Prop}{pins:List (Addr×Obj)}{s:az}{σ:St}{H:Hp}{x:Str}{u:Value}{pos:Pos}{Q:Value->az->Prop}(I:Inv X pins σ H s)(hg:Gl X x)(hm:X.mg x=none)(hv:eE x=some u)(h:Q u s)
  (hn:autoParam (x≠"__name__") Ad._auto_1) (hd:autoParam ((x == ("__debug__" : Str))=false) Ad._auto_1):wpAny (model X.prog X.w) X.A (eval (.Name x pos) X.env) Q E s:=by
 obtain⟨mb,h1,h2⟩:=I.mod.blt;exact HX I.ok.kind hg (Calls.loadGlobal_builtin (by rw [I.ok.glob]; exact I.mod.glob.keeps I.bk) hm (by rw [I.ok.blt]; exact h1.keeps I.bk) ((h2 x hn).trans hv) h) hd
theorem Sh {x:Str} {v:V} {u:Value} {pos:Pos} (hg:Gl X x) (hm:X.mg x=some u) (r:RelV v u) (hd:autoParam ((x == ("__debug__" : Str))=false) Ad._auto_1):PE X (.Name x pos) (tC v) :=
 fun _ _ _ H _ I h=>wF I hg hm ⟨v,H,I,r,h⟩ hd
variable {a b:Expr} {ta tb:TE} {pos:Pos}
noncomputable def tB(t:TE):TT:=fun σ H Q=>t σ H fun x H1=>∃ c,x=.bl c/\Q c H1
variable {tA tB':TT} {rest:List Expr}
end
noncomputable def rH(K:aq)(H:Hp)(a:Addr)(xs:List V):Prop :=
 Rd H a (.lst xs) \/
  ∃ (o:Obj) (bM:Array Value) (n:Nat),K.lookup a=some o/\o.cls=.type "list"/\o.dict=none/\o.data=.seq bM n/\bM.size<=bu/\Vals xs bM.toList
noncomputable def A4(K:aq)(H:Hp)(a:Addr)(xs:List V):Prop :=
 Rd H a (.tup xs) \/
  ∃ (o:Obj) (bM:Array Value) (n:Nat),K.lookup a=some o/\o.cls=.type "tuple"/\o.data=.seq bM n/\bM.size<=bu/\Vals xs bM.toList
noncomputable def abY:Value->Option V
 | .none=>some .fh
 | .bool b=>some (.bl b)
 | .int i _=>some (.int i)
 | .str x _=>some (.str x)
 | .bytes b _=>some (.VZ b)
 | .float b _=>some (.X6 b)
 | .ref a=>some (.ref a)
 | .type n=>some (.ty n)
 | _=>none
theorem RelV.abs{x:V}{u:Value}(r:RelV x u):abY u=some x:=by
 cases x with
 | fh=>cases r; rfl
 | bl _=>cases r; rfl
 | int _=>obtain⟨t,rfl⟩:=r; rfl
 | str _=>obtain⟨t,rfl⟩:=r; rfl
 | VZ _=>obtain⟨t,rfl⟩:=r; rfl
 | X6 _=>obtain⟨t,rfl⟩:=r; rfl
 | ref _=>cases r; rfl
 | ty _=>cases r; rfl
theorem RelV.inj{x y:V}{u:Value}(r:RelV x u)(q:RelV y u):x=y:=bx (r.abs.symm.trans q.abs)
theorem Vals.inj:∀ {xs ys:List V} {us:List Value},Vals xs us->Vals ys us->xs=ys:=by
 intro xs ys us h;induction h generalizing ys with
 | nil=>intro k; cases k; rfl
 | cons r t ih =>
  intro k;cases k with
  | cons r' t'=>rw [r.inj r',ih t']
section
variable {X:Cx} {pins:List (Addr×Obj)} {σ:St} {H:Hp} {s:az} {a:Addr} {xs ys:List V}
theorem rH.of{K:aq}(h:H a=some (.lst xs)):rH K H a xs:=.inl (.inl h)
theorem A4.of{K:aq}(h:H a=some (.tup xs)):A4 K H a xs:=.inl (.inl h)
theorem Inv.list(I:Inv X pins σ H s)(h:rH X.K H a xs):∃ bM:List Value,Vals xs bM/\PlainL s.heap a bM.toArray/\xs.length<=bu:=by
 rcases h with h | ⟨o,bM,n,hk,hc,hd,hs,hz,r⟩
 ·obtain⟨z,bM,n,r,e⟩:=h.ok I.cN;exact⟨bM,r,⟨_,n,e,rfl,rfl,rfl⟩,z⟩
 ·refine⟨bM.toList,r,⟨o,n,I.HZ a o hk,hc,hd,by simpa using hs⟩,?_⟩;have e:=r.length;simp only [bZ] at e;lia
theorem Inv.tuple(I:Inv X pins σ H s)(h:A4 X.K H a xs):∃ bM:List Value,Vals xs bM/\IsTup s.heap a bM.toArray/\xs.length<=bu:=by
 rcases h with h | ⟨o,bM,n,hk,hc,hs,hz,r⟩
 ·obtain⟨z,bM,r,p⟩:=h.ok I.cN;exact⟨bM,r,p,z⟩
 ·refine⟨bM.toList,r,⟨o,I.HZ a o hk,hc,n,by simpa using hs⟩,?_⟩;have e:=r.length;simp only [bZ] at e;lia
theorem Inv.wA(I:Inv X pins σ H s)(h:rH X.K H a xs)(h':rH X.K H a ys):xs=ys:=by
 obtain⟨bM,r,⟨o,n,e,_,_,d⟩,_⟩:=I.list h;obtain⟨its',r',⟨o',n',e',_,_,d'⟩,_⟩:=I.list h';rw [e] at e'; cases e';rw [d] at d';injection d' with d1 _
 have:bM=its':=by simpa using congrArg Array.toList d1
 subst this;exact r.inj r'
theorem Inv.L7(I:Inv X pins σ H s)(h:A4 X.K H a xs)(h':A4 X.K H a ys):xs=ys:=by
 obtain⟨bM,r,⟨o,e,_,n,d⟩,_⟩:=I.tuple h;obtain⟨its',r',⟨o',e',_,n',d'⟩,_⟩:=I.tuple h';rw [e] at e'; cases e';rw [d] at d';injection d' with d1 _
 have:bM=its':=by simpa using congrArg Array.toList d1
 subst this;exact r.inj r'
end
noncomputable abbrev Cx.Bo(X:Cx)(E:Value->az->Prop):Cx:={ X with xe:=E }
noncomputable abbrev Cx.Wh(X:Cx):Cx:=X.Bo fun _ _=>False
theorem Cx.Ok.Bo{X:Cx}(ok:X.Ok)(E:Value->az->Prop):(X.Bo E).Ok :=
 ⟨ok.mod,ok.kind,ok.glob,ok.blt,ok.above,ok.inj,ok.has,ok.Yj,ok.hd,ok.frames,ok.YC,ok.Y5,ok.bs,ok.Ts,ok.MB,ok.Qq,ok.Ax,ok.Ww⟩
theorem Cx.Ok.sv{X:Cx}{E:Value->az->Prop}(ok:(X.Bo E).Ok):X.Ok :=
 ⟨ok.mod,ok.kind,ok.glob,ok.blt,ok.above,ok.inj,ok.has,ok.Yj,ok.hd,ok.frames,ok.YC,ok.Y5,ok.bs,ok.Ts,ok.MB,ok.Qq,ok.Ax,ok.Ww⟩
section
variable {X:Cx} {pins:List (Addr×Obj)} {σ:St} {H:Hp} {s:az} {E:Value->az->Prop}
theorem Inv.Bo(I:Inv X pins σ H s)(E:Value->az->Prop):Inv (X.Bo E) pins σ H s:=⟨I.ok.Bo E,I.os,I.bare,I.base,I.loc,I.cell,I.free,I.oa,I.pin,I.cN,I.len⟩
theorem Inv.sv(I:Inv (X.Bo E) pins σ H s):Inv X pins σ H s:=⟨I.ok.sv,I.os,I.bare,I.base,I.loc,I.cell,I.free,I.oa,I.pin,I.cN,I.len⟩
theorem SP.sv{D:Ends}{f:Flow}{s':az}(h:SP (X.Bo E) pins D f s'):SP X pins D f s':=by
 cases f with
 | next=>obtain⟨kb,H',I,q⟩:=h; exact⟨kb,H',I.sv,q⟩
 | brk=>obtain⟨kb,H',I,q⟩:=h; exact⟨kb,H',I.sv,q⟩
 | cont=>obtain⟨kb,H',I,q⟩:=h; exact⟨kb,H',I.sv,q⟩
 | ret u=>obtain⟨v,kb,H',I,r,q⟩:=h; exact⟨v,kb,H',I.sv,r,q⟩
theorem Wz.Wh{st:List Stmt}{t:TS}(h:Wz X.Wh st t):Wz X st t:=fun pins s σ H D I hw =>
 Ij (h pins s σ H D (I.Bo _) hw) (fun _ _ q=>q.sv) fun _ _ z=>bY z
end
section
variable {X:Cx} {st:Stmt} {rest:List Stmt} {t u:TS} {e:Expr} {te:TE} {pos:Pos}
theorem Inv.quiet{pins:List (Addr×Obj)}{σ:St}{H:Hp}{s:az}(I:Inv X pins σ H s):interactive X.env=false:=by simp [interactive,I.ok.kind]
end
noncomputable abbrev ab0:=V->V->V->Hp->(Hp->Prop)->Prop
noncomputable def ab4(X:Cx)(t:ab0):Prop :=
 ∀ (pins:List (Addr×Obj)) (s:az) (σ:St) (H:Hp) (o i v:V) (ov iv u:Value) (Q:Hp->Prop),Inv X pins σ H s->RelV o ov->RelV i iv->RelV v u->t o i v H Q ->
  wpAny (model X.prog X.w) X.A (setItem ov iv u) (fun _ s'=>∃ H',Inv X pins σ H' s'/\Q H') X.xe s
structure It where
 go:Nat->Hp->Prop
 yld:Nat->Hp->V->Hp->Prop
 stop:Nat->Hp->Prop
noncomputable def oI(X:Cx)(pins:List (Addr×Obj))(H:Hp)(b:Addr):Prop :=
 H b=none/\b≠X.env.locals/\b∉X.fs/\(b∈X.ex\/X.oD.heap.objs.size<=b)/\(∀ x c,X.env.cells.lookup x=some c->c≠b)/\∀ p∈X.pn++pins,p.1≠b
theorem Inv.D6{X:Cx}{pins:List (Addr×Obj)}{σ:St}{H H':Hp}{s:az}{b:Addr}(I:Inv X pins σ H s)(hb:s.heap.objs.size<=b)(hn:H' b=none):oI X pins H' b:=by
 refine⟨hn,lH (bD I.lt hb),I.aaE hb,.inr (a9 I.sz hb),fun x c e z=>?_,fun p hp z=>?_⟩
 ·obtain⟨v,q⟩:=I.cell x c e;exact absurd (bD q.lt (by rw [z]; exact hb)) (i6 _)
 ·exact absurd (bD (aP (I.pin p hp).1) (by rw [z]; exact hb)) (i6 _)
structure Turn(P:bG)(w:World)(K:aq)(tg:Expr)(J:It)(fp:List Addr)(it:Addr)(tn:Nat->Heap->Prop):Prop where
 mem:it∈fp
 obj:∀ i h,tn i h->∀ b∈fp,∃ o,h.get? b=some o/\∀ v,o.data≠.cell v
 keep:∀ i h h',tn i h->(∀ b∈fp,∀ o,h.get? b=some o->h'.get? b=some o)->tn i h'
 item:∀ (X:Cx),X.prog=P->X.w=w->X.K=K->X.calm=true->∀ (i:Nat) (pins:List (Addr×Obj)) (s:az) (σ:St) (H:Hp) (E:Value->az->Prop),Inv X pins σ H s->(∀ b∈fp,oI X pins H b)->tn i s.heap->J.go i H ->
  wpAny (model P w) X.A (kS (.ref it)) (fun r s1=>∃ u,r=some u /\
   wpAny (model P w) X.A (zc tg (.ref it) u) (fun _ s2=>∃ x H',Inv X pins σ H' s2/\RelV x u/\J.yld i H x H'/\tn (i+1) s2.heap/\∀ b∈fp,H' b=none) E s1) E s
 done:∀ (X:Cx),X.prog=P->X.w=w->X.K=K->X.calm=true->∀ (i:Nat) (pins:List (Addr×Obj)) (s:az) (σ:St) (H:Hp) (E:Value->az->Prop),Inv X pins σ H s->(∀ b∈fp,oI X pins H b)->tn i s.heap->J.stop i H ->
  wpAny (model P w) X.A (kS (.ref it)) (fun r s1=>r=none/\Inv X pins σ H s1) E s
 self:∀ (A:du) (i:Nat) (s:az) (Q:Value->az->Prop) (E:Value->az->Prop),tn i s.heap->Q (.ref it) s->wpAny (model P w) A (BX (.ref it)) Q E s
noncomputable abbrev TI:=St->Hp->(It->Hp->Prop)->Prop
noncomputable def PIE(X:Cx)(pins:List (Addr×Obj))(σ:St)(tg:Expr)(R:It->Hp->Prop)(T8:Value)(s2:az):Prop :=
 ∃ (it:Addr) (fp:List Addr) (tn:Nat->Heap->Prop) (J:It) (H':Hp),T8=.ref it/\Inv X pins σ H' s2/\Turn X.prog X.w X.K tg J fp it tn/\tn 0 s2.heap/\(∀ b∈fp,oI X pins H' b)/\R J H'
theorem Lw{M:Model}{A:du}{E:Value->az->Prop}{s:az}{tg:Expr}{it:Addr}{u:Value}{o:Obj}{n:String}{vs:Array Value}{Q:Unit->az->Prop}(ho:s.heap.get? it=some o)(hc:o.cls=.type n)(hd:o.data=.fields vs)
    (hn:["enumerate","zip","dict_itemiterator","dict_reverseitemiterator","odict_iterator","itertools.zip_longest","itertools.pairwise"].contains n=false) (hQ:Q () s):wpAny M A (zc tg (.ref it) u) Q E s:=by
  unfold zc;cases tg <;> first
    | exact aw hQ
    | (cases u <;> first
        | exact aw hQ
        | (refine af (wpAny_load ho ?_)
           rw [hc,hd];show wpAny M A (if (["enumerate","zip","dict_itemiterator","dict_reverseitemiterator","odict_iterator","itertools.zip_longest","itertools.pairwise"].contains n&&vs[0]? == some (vG _))=true then _ else _) Q E s;rw [if_neg (by intro h; rw [hn,KD] at h; cases h)];exact aw hQ))
noncomputable def Itl(K:aq)(a:Addr):It :=
 ⟨fun i H=>∃ xs x,rH K H a xs/\xs[i]?=some x,fun i H x H'=>H'=H/\∀ xs,rH K H a xs->xs[i]?=some x,fun i H=>∃ xs,rH K H a xs/\xs.length<=i⟩
noncomputable def Itt(K:aq)(a:Addr):It :=
 ⟨fun i H=>∃ xs x,A4 K H a xs/\xs[i]?=some x,fun i H x H'=>H'=H/\∀ xs,A4 K H a xs->xs[i]?=some x,fun i H=>∃ xs,A4 K H a xs/\xs.length<=i⟩
noncomputable def Itr(lo:Int)(n:Nat):It:=⟨fun i _=>i < n,fun i H x H'=>H'=H/\x=.int (lo+i),fun i _=>n<=i⟩
theorem L4{P:bG}{w:World}{K:aq}{tg:Expr}(a it:Addr):Turn P w K tg (Itl K a) [it] it (fun i h=>h.IsListIter it a i) where
 mem:=by simp
 obj:=fun i h st b hb=>by
  have e:b=it:=by simpa using hb
  subst e;obtain⟨o,e,c,d⟩:=st;exact⟨o,e,fun v z=>by rw [d] at z; cases z⟩
 keep:=fun i h h' st k=>st.at fun o e=>k it (by simp) o e
 item:=by
  intro X hP hw hK hc i pins s σ H E I hf st hg;subst hP hw hK;obtain⟨xs,x,hq,hx⟩:=hg;obtain⟨bM,rv,p,hz⟩:=I.list hq;obtain⟨u,hu,ru⟩:=rv.get hx;obtain⟨f0,f1,f2,f3,f4,f5⟩:=hf it (by simp);refine wpAny_pyNext_list_item st p.isList (x:=u) (by simpa using hu) fun h' Bq sb=>?_;have I1:Inv X pins σ H { s with heap:=h' }:=I.turned (t':=s.toks) (fun b o hb e=>(sb.2 b hb).trans e) f0 f1 f3 f4 f5;obtain⟨o,e,c,d⟩:=id Bq;exact⟨u,rfl,Lw (s:={ s with heap:=h' }) e c d (by decide) ⟨x,H,I1,ru,⟨rfl,fun ys hy=>by rw [I.wA hy hq]; exact hx⟩,Bq,fun b hb=>(hf b hb).1⟩⟩
 done:=by
  intro X hP hw hK hc i pins s σ H E I hf st hg;subst hP hw hK;obtain⟨xs,hq,hx⟩:=hg;obtain⟨bM,rv,p,hz⟩:=I.list hq;obtain⟨f0,f1,f2,f3,f4,f5⟩:=hf it (by simp);have hl:=rv.length;exact wpAny_pyNext_list_end (I.ok.hd hc) st p.isList (by simp; lia) fun h' eb=>⟨rfl,I.turned (t':=s.toks) (fun b o hb e=>eb b o hb e) f0 f1 f3 f4 f5⟩
 self:=fun _ _ _ _ _ st h=>wpAny_pyIter_listiter st h
theorem IE{P:bG}{w:World}{K:aq}{tg:Expr}(a it:Addr):Turn P w K tg (Itt K a) [it] it (fun i h=>h.IsTupleIter it a i) where
 mem:=by simp
 obj:=fun i h st b hb=>by
  have e:b=it:=by simpa using hb
  subst e;obtain⟨o,e,c,d⟩:=st;exact⟨o,e,fun v z=>by rw [d] at z; cases z⟩
 keep:=fun i h h' st k=>st.at fun o e=>k it (by simp) o e
 item:=by
  intro X hP hw hK hc i pins s σ H E I hf st hg;subst hP hw hK;obtain⟨xs,x,hq,hx⟩:=hg;obtain⟨bM,rv,p,hz⟩:=I.tuple hq;obtain⟨u,hu,ru⟩:=rv.get hx;obtain⟨f0,f1,f2,f3,f4,f5⟩:=hf it (by simp);refine wpAny_pyNext_tuple_item st (show s.heap.IsTuple a bM.toArray from p) (x:=u) (by simpa using hu) fun h' Bq sb=>?_;have I1:Inv X pins σ H { s with heap:=h' }:=I.turned (t':=s.toks) (fun b o hb e=>(sb.2 b hb).trans e) f0 f1 f3 f4 f5;obtain⟨o,e,c,d⟩:=id Bq;exact⟨u,rfl,Lw (s:={ s with heap:=h' }) e c d (by decide) ⟨x,H,I1,ru,⟨rfl,fun ys hy=>by rw [I.L7 hy hq]; exact hx⟩,Bq,fun b hb=>(hf b hb).1⟩⟩
 done:=by
  intro X hP hw hK hc i pins s σ H E I hf st hg;subst hP hw hK;obtain⟨xs,hq,hx⟩:=hg;obtain⟨bM,rv,p,hz⟩:=I.tuple hq;obtain⟨f0,f1,f2,f3,f4,f5⟩:=hf it (by simp);have hl:=rv.length;exact wpAny_pyNext_tuple_end (I.ok.hd hc) st (show s.heap.IsTuple a bM.toArray from p) (by simp; lia) fun h' eb=>⟨rfl,I.turned (t':=s.toks) (fun b o hb e=>eb b o hb e) f0 f1 f3 f4 f5⟩
 self:=fun _ _ _ _ _ st h=>wpAny_pyIter_tupleiter st h
theorem IF{P:bG}{w:World}{K:aq}{tg:Expr}(it:Addr)(lo:Int)(n:Nat):Turn P w K tg (Itr lo n) [it] it (fun i h=>IsRangeIter h it (lo+(i:Nat) * 1) ((n:Int) - (i:Nat)) 1) where
 mem:=by simp
 obj:=fun i h st b hb=>by
  have e:b=it:=by simpa using hb
  subst e;exact⟨_,st,fun v z=>by
   have z':Data.fields _=Data.cell v:=z;cases z'⟩
 keep:=fun i h h' st k=>k it (by simp) _ st
 item:=by
  intro X hP hw hK hc i pins s σ H E I hf st hg;subst hP hw hK;obtain⟨f0,f1,f2,f3,f4,f5⟩:=hf it (by simp);have W:=Walks.range (prog:=X.prog) (w:=X.w) (I.ok.hd hc) it lo 1 n;refine W.item i s _ _ hg st fun v h' tk hv Bq kk=>?_;obtain⟨t,rfl⟩:=hv;have I1:Inv X pins σ H { s with heap:=h',toks:=tk }:=I.turned (fun b o hb e=>kk b o (by simpa using hb) e) f0 f1 f3 f4 f5;refine⟨_,rfl,Lw (s:={ s with heap:=h',toks:=tk }) (n:="range_iterator") Bq rfl rfl (by decide) ⟨.int (lo+i),H,I1,⟨t,?_⟩,⟨rfl,rfl⟩,Bq,fun b hb=>(hf b hb).1⟩⟩;rw [Int.mul_one]
 done:=by
  intro X hP hw hK hc i pins s σ H E I hf st hg;subst hP hw hK;obtain⟨f0,f1,f2,f3,f4,f5⟩:=hf it (by simp);exact wpAny_pyNext_range_end (I.ok.hd hc) st (by have:n<=i:=hg; lia) fun h' eb=>⟨rfl,I.turned (t':=s.toks) (fun b o hb e=>eb b o hb e) f0 f1 f3 f4 f5⟩
 self:=fun _ _ _ _ _ st h=>wpAny_pyIter_rangeiter st h
section
variable {X:Cx} {tg:Expr}
theorem OW{pins:List (Addr×Obj)}{σ:St}{H:Hp}{s:az}{R:It->Hp->Prop}{E:Value->az->Prop}{lo hi:Int}{t u v:Tok}{tk:Nat}(I:Inv X pins σ H s)(h1:-(2 ^ 62)<=lo)(h2:lo < 2 ^ 62)(h3:-(2 ^ 62)<=hi)(h4:hi < 2 ^ 62)
  (q:R (Itr lo (hi - lo).toNat) H):wpAny (model X.prog X.w) X.A (BX (.ref s.heap.objs.size)) (PIE X pins σ tg R) E { s with heap:=s.heap.push { cls:=.type "range",data:=.fields #[.int lo t,.int hi u,.int 1 v] },toks:=tk }:=by
 refine wpAny_pyIter_range (IsRange.new ..) (small_one h1 h2 h3 h4) ?_;have I1:Inv X pins σ H { s with heap:=s.heap.push { cls:=.type "range",data:=.fields #[.int lo t,.int hi u,.int 1 v] },toks:=tk }:=I.kept fun b o e=>aE _ e
 refine⟨(s.heap.push { cls:=.type "range",data:=.fields #[.int lo t,.int hi u,.int 1 v] }).objs.size,[(s.heap.push { cls:=.type "range",data:=.fields #[.int lo t,.int hi u,.int 1 v] }).objs.size],_,_,H,rfl,
  I1.kept (t':=tk) fun b o e=>aE _ e,IF _ lo (hi - lo).toNat,?_,fun b hb=>?_,q⟩
 ·have e1:lo+((0:Nat):Int) * 1=lo:=by simp
  have e2:(((hi - lo).toNat:Nat):Int) - ((0:Nat):Int)=Builtin.Range.rangeSize lo hi 1:=by rw [rangeSize_one]; split <;> lia
  show IsRangeIter _ _ (lo+((0:Nat):Int) * 1) ((((hi - lo).toNat:Nat):Int) - ((0:Nat):Int)) 1;rw [e1,e2];exact bh _ rfl
 ·have e:b=(s.heap.push { cls:=.type "range",data:=.fields #[.int lo t,.int hi u,.int 1 v] }).objs.size:=by simpa using hb
  subst e;exact I1.D6 (aF _) (I1.cN.fresh (aF _))
noncomputable def sU(fp:List Addr)(h:Heap):List (Addr×Obj):=fp.filterMap fun b=>(h.get? b).map fun o=>(b,o)
theorem qK{fp:List Addr}{h:Heap}{b:Addr}{o:Obj}(hb:b∈fp)(e:h.get? b=some o):(b,o)∈sU fp h:=List.mem_filterMap.mpr ⟨b,hb,by rw [e]; rfl⟩
theorem Mz{fp:List Addr}{h:Heap}{p:Addr×Obj}(hp:p∈sU fp h):p.1∈fp/\h.get? p.1=some p.2:=by
 obtain⟨b,hb,e⟩:=List.mem_filterMap.mp hp;cases q:h.get? b with
 | none=>rw [q] at e; cases e
 | some o =>
  rw [q] at e;have e':(b,o)=p:=bx e;subst e';exact⟨hb,q⟩
theorem Inv.pinned{pins:List (Addr×Obj)}{σ:St}{H:Hp}{s:az}{fp:List Addr}(I:Inv X pins σ H s)(hf:∀ b∈fp,oI X pins H b)(ho:∀ b∈fp,∃ o,s.heap.get? b=some o/\∀ v,o.data≠.cell v):Inv X (pins++sU fp s.heap) σ H s :=
 I.K6 fun p hp=>(List.mem_append.mp hp).elim (fun z=>I.pin p (cC _ z)) fun z=>by
  obtain⟨hb,e⟩:=Mz z;obtain⟨f0,f1,f2,_⟩:=hf p.1 hb;obtain⟨o,e',d⟩:=ho p.1 hb;rw [e] at e'; cases e';exact⟨e,f0,f1,f2,d⟩
theorem Inv.vM{pins pl:List (Addr×Obj)}{σ:St}{H:Hp}{s:az}(I:Inv X (pins++pl) σ H s):Inv X pins σ H s:=I.K6 fun p hp=>I.pin p (cC _ (eO _ hp))
end
noncomputable abbrev R2:=V->V->Hp->VK->Prop
noncomputable def N1(X:Cx)(f:Value->Value->Sem Value)(r:R2):Prop :=
 ∀ (pins:List (Addr×Obj)) (s:az) (σ:St) (H:Hp) (x y:V) (v u:Value) (Q:VK),Inv X pins σ H s->RelV x v->RelV y u->r x y H Q ->
  wpAny (model X.prog X.w) X.A (f v u) (EP X pins σ Q) X.xe s
noncomputable def UnR(X:Cx)(f:Value->Sem Value)(r:V->Hp->VK->Prop):Prop :=
 ∀ (pins:List (Addr×Obj)) (s:az) (σ:St) (H:Hp) (x:V) (v:Value) (Q:VK),Inv X pins σ H s->RelV x v->r x H Q ->
  wpAny (model X.prog X.w) X.A (f v) (EP X pins σ Q) X.xe s
noncomputable def Us(X:Cx)(f:Value)(r:List V->Hp->VK->Prop):Prop :=
 ∀ (pins:List (Addr×Obj)) (s:az) (σ:St) (H:Hp) (xs:List V) (us:List Value) (Q:VK),Inv X pins σ H s->Vals xs us->r xs H Q ->
  wpAny (model X.prog X.w) X.A (call f us) (EP X pins σ Q) X.xe s
noncomputable def abZ(X:Cx)(r:V->Hp->(Bool->Hp->Prop)->Prop):Prop :=
 ∀ (pins:List (Addr×Obj)) (s:az) (σ:St) (H:Hp) (x:V) (v:Value) (Q:Bool->Hp->Prop),Inv X pins σ H s->RelV x v->r x H Q ->
  wpAny (model X.prog X.w) X.A (truthy v) (TP X pins σ Q) X.xe s
noncomputable def rI(C:Int->Int->Prop)(g:Int->Int->V):R2:=fun x y H Q=>∃ i j,x=.int i/\y=.int j/\C i j/\Q (g i j) H
noncomputable def WX(g:Int->Int->V):R2:=fun x y H Q=>∃ i j,x=.int i/\y=.int j/\Q (g i j) H
noncomputable def rU(g:Int->V):V->Hp->VK->Prop:=fun x H Q=>∃ i,x=.int i/\Q (g i) H
section
variable {X:Cx} {a b c:Expr} {ta tb tc:TE} {pos:Pos}
theorem Z6{f:Value->Value->Sem Value}{C:Int->Int->Prop}{g:Int->Int->Int}
  (rule:∀ (i j:Int) (t u:Tok) (s:az) (Q:Value->az->Prop) (E:Value->az->Prop),C i j->Q (.int (g i j) s.toks) { s with toks:=s.toks+1 }->wpAny (model X.prog X.w) X.A (f (.int i t) (.int j u)) Q E s) :
  N1 X f (rI C fun i j=>.int (g i j)):=by
 intro pins s σ H x y v u Q I rx ry h;obtain⟨i,j,rfl,rfl,hc,q⟩:=h;obtain⟨t,rfl⟩:=rx;obtain⟨t',rfl⟩:=ry;exact rule i j t t' s _ _ hc ⟨.int (g i j),H,I.tok _,⟨_,rfl⟩,q⟩
theorem W5{f:Value->Value->Sem Value}{g:Int->Int->Int}
  (rule:∀ (i j:Int) (t u:Tok) (s:az) (Q:Value->az->Prop) (E:Value->az->Prop),Q (.int (g i j) s.toks) { s with toks:=s.toks+1 }->wpAny (model X.prog X.w) X.A (f (.int i t) (.int j u)) Q E s) :
  N1 X f (WX fun i j=>.int (g i j)):=by
 intro pins s σ H x y v u Q I rx ry h;obtain⟨i,j,rfl,rfl,q⟩:=h;obtain⟨t,rfl⟩:=rx;obtain⟨t',rfl⟩:=ry;exact rule i j t t' s _ _ ⟨.int (g i j),H,I.tok _,⟨_,rfl⟩,q⟩
theorem Z7{f:Value->Value->Sem Value}{g:Int->Int->Bool}
  (rule:∀ (i j:Int) (t u:Tok) (s:az) (Q:Value->az->Prop) (E:Value->az->Prop),Q (.bool (g i j)) s->wpAny (model X.prog X.w) X.A (f (.int i t) (.int j u)) Q E s) :
  N1 X f (WX fun i j=>.bl (g i j)):=by
 intro pins s σ H x y v u Q I rx ry h;obtain⟨i,j,rfl,rfl,q⟩:=h;obtain⟨t,rfl⟩:=rx;obtain⟨t',rfl⟩:=ry;exact rule i j t t' s _ _ ⟨.bl (g i j),H,I,rfl,q⟩
noncomputable def We(i j:Int):Prop:=(-(2 ^ 64) < i/\i < 2 ^ 64)\/(-(2 ^ 64) < j/\j < 2 ^ 64)
theorem We.ok{i j:Int}(h:We i j):IntMulOk i j:=by
 rcases h with ⟨h1,h2⟩ | ⟨h1,h2⟩
 ·exact .of_left (intBits_le_64 h1 h2)
 ·exact .of_right (intBits_le_64 h1 h2)
theorem Vb:N1 X (kP .Add) (WX fun i j=>.int (i+j)):=W5 fun _ _ _ _ _ _ _ q=>add_int q
theorem U7:N1 X (kP .Sub) (WX fun i j=>.int (i - j)):=W5 fun _ _ _ _ _ _ _ q=>sub_int q
theorem U8:N1 X (kP .Mult) (rI We fun i j=>.int (i * j)):=Z6 fun _ _ _ _ _ _ _ hc q=>mul_int q hc.ok
theorem U9:N1 X (kP .Mod) (rI (fun _ j=>0 < j) fun i j=>.int (i % j)):=Z6 fun i j _ _ _ _ _ hc q=>by
 have h1:(0:Int) < j:=hc;exact mod_int' (by lia) (by rw [Int.fmod_eq_emod_of_nonneg i (by lia)]; exact q)
theorem unI{f:Value->Sem Value}{g:Int->Int}
  (rule:∀ (i:Int) (t:Tok) (s:az) (Q:Value->az->Prop) (E:Value->az->Prop),Q (.int (g i) s.toks) { s with toks:=s.toks+1 }->wpAny (model X.prog X.w) X.A (f (.int i t)) Q E s) :
  UnR X f (rU fun i=>.int (g i)):=by
 intro pins s σ H x v Q I rx h;obtain⟨i,rfl,q⟩:=h;obtain⟨t,rfl⟩:=rx;exact rule i t s _ _ ⟨.int (g i),H,I.tok _,⟨_,rfl⟩,q⟩
theorem UC:UnR X (unaryOp .USub) (rU fun i=>.int (-i)):=unI fun _ _ _ _ _ q=>neg_int q
end
section
variable {X:Cx} {a b c:Expr} {ta tb tc:TE} {pos:Pos}
theorem W4:N1 X (fx .Lt) (WX fun i j=>.bl (decide (i < j))):=Z7 fun _ _ _ _ _ _ _ q=>lt_int q
theorem iW(b:Expr){op:CmpOp}(h:autoParam (op≠.In) Ad._auto_1)(h2:autoParam (op≠.NotIn) Ad._auto_1):E1 op b=false:=by
 have e1:(op == CmpOp.In)=false:=by cases op <;> first | rfl | exact absurd rfl h
 have e2:(op == CmpOp.NotIn)=false:=by cases op <;> first | rfl | exact absurd rfl h2
 cases b with
 | Set es k _ =>
  show (k == 0&&(op == .In||op == .NotIn)&&es.all (constantsAlone 8))=false;rw [e1,e2,Bool.or_false,KG,KD]
 | _=>rfl
noncomputable def V5(K:aq)(x:V)(H:Hp)(k:Bool):Prop :=
 match x with
 | .fh=>k=false
 | .bl b=>k=b
 | .int i=>k=(i != 0)
 | .str y=>y.length<=bu/\k=((y.length:Int) != 0)
 | .VZ y=>y.size<=bu/\k=((y.size:Int) != 0)
 | .ref p=>(∃ xs,rH K H p xs/\k=!xs.isEmpty)\/(∃ xs,A4 K H p xs/\k=!xs.isEmpty)\/∃ kvs,H p=some (.dK kvs)/\k=!kvs.isEmpty
 | _=>False
theorem Jx{κ:Type}{kvs:List (κ×V)}{vs:List (κ×Value)}(r:KV kvs vs):(!vs.isEmpty)=!kvs.isEmpty:=by
 cases r <;> rfl
theorem Ap{xs:List V}{bM:List Value}(r:Vals xs bM):(!bM.toArray.isEmpty)=!xs.isEmpty:=by
 cases r <;> simp
theorem Ag:(bu:Nat) < 2 ^ 63:=by rw [cH]; decide
theorem UE:abZ X (fun x H Q=>∃ k,V5 X.K x H k/\Q k H):=by
 intro pins s σ H x v Q I rx h;obtain⟨k,e,q⟩:=h;have hl:=Ag;have hs:bu=16777216:=cH;cases x with
 | fh =>
  cases rx;have e':k=false:=e;subst e';exact truthy_none ⟨H,I,q⟩
 | bl b =>
  cases rx;have e':k=b:=e;subst e';exact vE ⟨H,I,q⟩
 | int i =>
  obtain⟨t,rfl⟩:=rx;have e':k=(i != 0):=e;subst e';exact PySem.P.truthy_int ⟨H,I,q⟩
 | str y =>
  obtain⟨t,rfl⟩:=rx;obtain⟨hy,e'⟩:y.length<=bu/\k=((y.length:Int) != 0):=e;subst e';exact PySem.P.truthy_str (by lia) ⟨H,I.tok _,q⟩
 | VZ y =>
  obtain⟨t,rfl⟩:=rx;obtain⟨hy,e'⟩:y.size<=bu/\k=((y.size:Int) != 0):=e;subst e';exact PySem.W.truthy_bytes (by lia) ⟨H,I.tok _,q⟩
 | ref p =>
  cases rx;have e':(∃ xs,rH X.K H p xs/\k=!xs.isEmpty)\/(∃ xs,A4 X.K H p xs/\k=!xs.isEmpty)\/∃ kvs,H p=some (.dK kvs)/\k=!kvs.isEmpty:=e;rcases e' with ⟨xs,hx,e'⟩ | ⟨xs,hx,e'⟩ | ⟨kvs,hx,e'⟩
  ·subst e';obtain⟨bM,r,pl,hz⟩:=I.list hx;have hlen:=r.length;exact wpAny_truthy_list pl.isList (by simp only [aY]; lia) ⟨H,I.tok _,by rw [Ap r]; exact q⟩
  ·subst e';obtain⟨bM,r,pl,hz⟩:=I.tuple hx;have hlen:=r.length;exact truthy_tuple pl (by simp only [aY]; lia) ⟨H,I.tok _,by rw [Ap r]; exact q⟩
  ·subst e';obtain⟨hz,hS,vs,r,m⟩:kvs.length<=bu/\(p == dS)=false/\∃ vs,KV kvs vs/\s.heap.DictOf (cx X.prog X.w) p vs:=I.cN p _ hx;have hlen:kvs.length=vs.length:=lE r;exact Ii hS m (by lia) ⟨H,I.tok _,by rw [Jx r]; exact q⟩
 | _=>exact(show False from e).elim
theorem Jb:N1 X (kP .Add) (fun x y H Q=>∃ i j,x=.str i/\y=.str j/\i.length+j.length<=bu/\Q (.str (i++j)) H):=by
 intro pins s σ H x y v u Q I rx ry h;obtain⟨i,j,rfl,rfl,hz,q⟩:=h;obtain⟨t,rfl⟩:=rx;obtain⟨t',rfl⟩:=ry;exact add_str (fun t' tk=>⟨.str (i++j),H,I.tok _,⟨_,rfl⟩,q⟩) hz
theorem vals1{x:V}{us:List Value}(r:Vals [x] us):∃ u,us=[u]/\RelV x u:=by
 cases r with
 | cons r1 r2=>cases r2; exact⟨_,rfl,r1⟩
theorem vals2{x y:V}{us:List Value}(r:Vals [x,y] us):∃ u w',us=[u,w']/\RelV x u/\RelV y w':=by
 cases r with
 | cons r1 r2 =>
  cases r2 with
  | cons r3 r4=>cases r4; exact⟨_,_,rfl,r1,r3⟩
noncomputable def Yw(K:aq)(x:V)(H:Hp)(n:Nat):Prop :=
 match x with
 | .str y=>y.length<=bu/\n=y.length
 | .VZ y=>y.size<=bu/\n=y.size
 | .ref p=>(∃ xs,rH K H p xs/\n=xs.length)\/∃ xs,A4 K H p xs/\n=xs.length
 | _=>False
theorem QP:Us X (.builtin "len") (fun xs H Q=>∃ x n,xs=[x]/\Yw X.K x H n/\Q (.int n) H):=by
 intro pins s σ H xs us Q I r h;obtain⟨x,n,rfl,e,q⟩:=h;obtain⟨u,rfl,rx⟩:=vals1 r;have hl:=Ag;have hs:bu=16777216:=cH;cases x with
 | str y =>
  obtain⟨t,rfl⟩:=rx;obtain⟨hy,e'⟩:y.length<=bu/\n=y.length:=e;subst e';exact len_str (by lia) ⟨.int _,H,I.tok _,⟨_,rfl⟩,q⟩
 | VZ y =>
  obtain⟨t,rfl⟩:=rx;obtain⟨hy,e'⟩:y.size<=bu/\n=y.size:=e;subst e';exact PySem.W.len_bytes (by lia) ⟨.int _,H,I.tok _,⟨_,rfl⟩,q⟩
 | ref p =>
  cases rx;have e':(∃ xs,rH X.K H p xs/\n=xs.length)\/∃ xs,A4 X.K H p xs/\n=xs.length:=e;rcases e' with ⟨xs,hx,e'⟩ | ⟨xs,hx,e'⟩
  ·subst e';obtain⟨bM,r',pl,hz⟩:=I.list hx;have hlen:=r'.length;exact Calls.call_len_list pl.isList (by simp only [aY]; lia) ⟨.int xs.length,H,I.tok _,⟨_,by simp only [aY]; rw [hlen]⟩,q⟩
  ·subst e';obtain⟨bM,r',pl,hz⟩:=I.tuple hx;have hlen:=r'.length;exact len_tuple pl (by simp only [aY]; lia) ⟨.int xs.length,H,I.tok _,⟨_,by simp only [aY]; rw [hlen]⟩,q⟩
 | _=>exact(show False from e).elim
end
structure ahH(h:Heap)(x dx C:Addr)(mA:Str->Option Value):Prop where
 obj:h.get? x=some (PySem.W.instObj C dx)
 ns:h.Ns1 dx mA
 ne:dx≠x
theorem yF.some_of{v:V}{o:Option Value}(r:yF (some v) o):∃ u,o=some u/\RelV v u:=by
 cases o with
 | none=>exact(show False from r).elim
 | some u=>exact⟨u,rfl,r⟩
structure Cls(K:aq)(C:Addr):Prop where
 pg:PySem.W.plainGet K C Str.empty=true
 hd:PySem.W.hasDictIn K C=true
 po:PySem.W.plainOver K C=true
 sa:qu K (.ref C) "__setattr__" = some (some (.builtin "object.__setattr__"))
structure Con(K:aq)(C:Addr)(f:Str)(v:V)(u:Value):Prop where
 at_:qu K (.ref C) f=some (some u)
 rel:RelV v u
 get:RI K u "__get__" = some none
 cp:PySem.W.copiedNames.contains f=false
structure Meth(K:aq)(C:Addr)(m:Str)(f:Addr):Prop where
 at_:qu K (.ref C) m=some (some (.ref f))
 fn:PySem.W.isFn K (.ref f)=true
 kp:kg K (.ref f)=true
section
variable {X:Cx} {pins:List (Addr×Obj)} {σ:St} {H:Hp} {s:az} {A:du} {E:Value->az->Prop} {Q:Value->az->Prop} {c:Value} {b:Bool}
inductive A3 (K:aq) (H:Hp):V->Value->Prop where
 | fh:A3 K H .fh (.type "NoneType")
 | bl (x:Bool):A3 K H (.bl x) (.type "bool")
 | int (i:Int):A3 K H (.int i) (.type "int")
 | str (x:Str):A3 K H (.str x) (.type "str")
 | X6 (x:UInt64):A3 K H (.X6 x) (.type "float")
 | lst {a:Addr} {xs:List V} (e:H a=some (.lst xs)):A3 K H (.ref a) (.type "list")
 | mC {a:Addr} {o:Obj} {xs:List V} (e:H a=some (.mC o (.lst xs))):A3 K H (.ref a) (.type "list")
 | tup {a:Addr} {xs:List V} (e:H a=some (.tup xs)):A3 K H (.ref a) (.type "tuple")
 | dK {a:Addr} {kvs:List (Key×V)} (e:H a=some (.dK kvs)):A3 K H (.ref a) (.type "dict")
 | dT {a:Addr} {kvs:List (List Key×V)} (e:H a=some (.dT kvs)):A3 K H (.ref a) (.type "dict")
 | ins {a C dx:Addr} {fs:List (Str×V)} (e:H a=some (.ins C dx fs)) (cl:Cls K C) (ha:qu K (.ref C) "__class__" = some (some (.builtin "object.__class__")))
   (hn:RI K (.builtin "object.__class__") "__get__" = some (some (.builtin "getset_descriptor.__get__"))) (htk:PySem.W.takesIn K (.builtin "object.__class__")=some true)
   (hm:PySem.W.mroIn K C (.type "object")=some true):A3 K H (.ref a) (.ref C)
end
structure nv(k:Nat)(A:du):Prop where
 hd:A.handled=none
 dp:A.depth+3 * k+5 < recursionLimit
 un:A.units+16 * k+200 < cLine
theorem nv.mono{j k:Nat}{A:du}(r:nv k A)(h:j<=k):nv j A:=⟨r.hd,by have:=r.dp; lia,by have:=r.un; lia⟩
theorem nv.deeper{k:Nat}{A:du}(r:nv (k+1) A)(env:Env):nv k (A.deeper env) :=
 ⟨r.hd,by have:=r.dp; show A.depth+1+3 * k+5 < _; lia,by have:=r.un; show A.units+3+16 * k+200 < _; lia⟩
theorem nv.depth{k:Nat}{A:du}(r:nv k A):A.depth < recursionLimit:=by have:=r.dp; lia
theorem nv.units{k:Nat}{A:du}(r:nv k A):A.units+64 < cLine:=by have:=r.un; lia
theorem nv.Ou{k:Nat}{A:du}(r:nv k A):A.units < cLine:=by have:=r.un; lia
noncomputable abbrev Sp:=List V->Hp->VK->XK->Prop
noncomputable abbrev NC:=List Env->Hp->az->XK->Value->az->Prop
structure TF(P:bG)(w:World)(K:aq)(mg:Str->Option Value)(base:Heap)(A:du)(outer:List Env)(s:az)(H:Hp):Prop where
 frames:A.frames=some outer
 mod:Mod K mg base
 bs:∀ b o,base.get? b=some o->s.heap.get? b=some o/\H b=none
 Ts:base.objs.size<=s.heap.objs.size
 Ax:s.heap.FunFrames base outer
 Ww:∀ b∈NS outer,H b=none
 cN:vD P w H s.heap
 bare:C3 s.gens
noncomputable def CE(outer:List Env)(P:bG)(w:World)(H:Hp)(s:az)(Q:VK)(u:Value)(s':az):Prop :=
 ∃ v H',s'.os=s.os/\C3 s'.gens/\Un (NS outer) [] H H' s.heap s'.heap/\vD P w H' s'.heap/\RelV v u/\Q v H'
noncomputable def CR(CX:NC)(outer:List Env)(P:bG)(w:World)(H:Hp)(s:az)(Q:VK)(E:XK)(r:Result)(s':az):Prop :=
 match r with
 | .ok (.ret u)=>CE outer P w H s Q u s'
 | .ok _=>False
 | .error e=>CX outer H s E e s'
structure fK(P:bG)(w:World)(K:aq)(mg:Str->Option Value)(base:Heap)(CX:NC)(k:Nat)(f:Addr)(fd:aH)(ps:List Str)(sp:Sp):Prop where
 len:∀ vs H Q E,sp vs H Q E->vs.length=ps.length
 run:∀ (A:du) (outer:List Env) (s:az) (H:Hp) (args:Args) (us:List Value) (vs:List V) (Q:VK) (E:XK),nv k A->TF P w K mg base A outer s H->Om s fd args (ps.zip us)->Vals vs us->sp vs H Q E ->
  sd (model P w) A (.call (.ref f) args) (CR CX outer P w H s Q E) s
section
variable {X:Cx} {pins:List (Addr×Obj)} {σ:St} {H:Hp} {s s':az}
theorem Inv.abN(I:Inv X pins σ H s):TF X.prog X.w X.K X.mg X.base X.A X.stack s H :=
 ⟨I.ok.frames,I.ok.mod,I.bs,a9 I.ok.Ts I.sz,I.stack,I.KO,I.cN,I.bare⟩
theorem Inv.after{Q:VK}{u:Value}(I:Inv X pins σ H s)(h:CE X.stack X.prog X.w H s Q u s'):EP X pins σ Q u s':=by
 obtain⟨v,H',os,bare,un,cN,r,q⟩:=h;obtain⟨hh,g,d,t,Z5⟩:=s';obtain rfl:Z5=s.os:=os;exact⟨v,H',I.call (h':=hh) (g':=g) (d':=d) (t':=t) (ch:=[]) un cN bare (fun b z=>absurd z (by simp)),r,q⟩
end
noncomputable def Binds(K:aq)(fd:aH)(ps:List Str)(ds:List Value):Prop :=
 ∀ (s:az) (us:List Value),K.In s.heap->(us++ds).length=ps.length->Om s fd ⟨us,[]⟩ (ps.zip (us++ds))
theorem Binds.all{K:aq}{fd:aH}{ps:List Str}(h:∀ us:List Value,us.length=ps.length->bindArgs fd ⟨us,[]⟩=pure (ps.zip us)):Binds K fd ps []:=fun s us _ hl=>by
 rw [cX] at hl ⊢;exact .of_eq (h us hl)
noncomputable def Passes(CX:NC)(X:Cx)(E:XK):Prop:=∀ (pins:List (Addr×Obj)) (σ:St) (H:Hp) (s:az) (e:Value) (s':az),Inv X pins σ H s->CX X.stack H s E e s'->X.xe e s'
section
variable {X:Cx} {CX:NC} {k:Nat} {f C:Addr} {fd:aH} {ps:List Str} {sp:Sp} {Y6:List V} {ds:List Value} {E:XK} {x m:Str} {p pos apos:Pos} {e o:Expr} {es:List Expr} {ta:TE} {t:TA}
theorem OS{pins:List (Addr×Obj)}{σ:St}{H:Hp}{s:az}{Q:VK}{us:List Value}{vs:List V}(F:fK X.prog X.w X.K X.mg X.base CX k f fd ps sp)(hr:nv k X.A)(hb:Binds X.K fd ps ds)(hd:Vals Y6 ds)(hx:Passes CX X E)
  (I:Inv X pins σ H s) (r:Vals vs us) (h:sp (vs++Y6) H Q E):wpAny (model X.prog X.w) X.A (call (.ref f) us) (EP X pins σ Q) X.xe s:=by
 have r2:Vals (vs++Y6) (us++ds):=r.append hd;have hl:(us++ds).length=ps.length:=by rw [<-r2.length]; exact F.len _ _ _ _ h
 refine wpAny_call (zf (F.run X.A X.stack s H ⟨us,[]⟩ (us++ds) (vs++Y6) Q E hr I.abN (hb s us I.HZ hl) r2 h) fun r s' hq=>?_);cases r with
 | error e=>exact hx pins σ H s e s' I hq
 | ok fl =>
  cases fl with
  | ret u=>exact I.after hq
  | next=>exact bY hq
  | brk=>exact bY hq
  | cont=>exact bY hq
structure Mk(K:aq)(C f:Addr):Prop where
 makes:PySem.W.makesIn K C=true
 init:qu K (.ref C) "__init__" = some (some (.ref f))
 fn:PySem.W.isFn K (.ref f)=true
 kp:kg K (.ref C)=true
end
section
variable {X:Cx} {CX:NC} {k:Nat} {f C:Addr} {fd:aH} {ps ks:List Str} {sp:Sp} {E:XK} {x m:Str} {p pos apos aeL:Pos} {e o:Expr} {es:List Expr} {kws:List Oj} {te ta:TE} {t tk:TA} {nm:Option Str}
structure ab5(K:aq)(fd:aH)(ps ks:List Str)(g:List Value->List Value->List Value)(gV:List V->List V->List V):Prop where
 to:∀ (s:az) (us ws:List Value),K.In s.heap->(g us ws).length=ps.length->Om s fd ⟨us,ks.zip ws⟩ (ps.zip (g us ws))
 rel:∀ {vs:List V} {us:List Value} {zs:List V} {ws:List Value},Vals vs us->Vals zs ws->Vals (gV vs zs) (g us ws)
variable {g:List Value->List Value->List Value} {gV:List V->List V->List V}
end
structure bU(N P:List Str)(sc:Scope):Prop where
 kind:sc.kind=.function
 co:sc.isCoroutine=false
 gen:sc.isGenerator=false
 nd:N.Nodup
 pre:N.take P.length=P
 par:∀ x∈P,sc.names.lookup x=some .local\/sc.names.lookup x=some .cell
 Vf:∀ y∈sc.names,y.2≠.free
theorem CO{kindOf:Str->Option uH}{x:Str}:∀ {binds:List (Str×Value)} {m:Str->Option Value},(∀ v,(x,v)∉binds)->bindL kindOf binds m x=m x
 | [],_,_=>rfl
 | (n,v) :: r,m,h=>by
  unfold bindL;rw [CO fun w hw=>h w (aK _ hw)];split
  ·have:x≠n:=by rintro rfl; exact h v bJ
   simp [this]
  ·rfl
theorem CQ{kindOf:Str->Option uH}{x:Str}:∀ {binds:List (Str×Value)} {m:Str->Option Value},(∀ v,(x,v)∉binds)->bindC kindOf binds m x=m x
 | [],_,_=>rfl
 | (n,v) :: r,m,h=>by
  unfold bindC;rw [CQ fun w hw=>h w (aK _ hw)];split
  ·rfl
  ·have:x≠n:=by rintro rfl; exact h v bJ
   simp [this]
theorem CP{kindOf:Str->Option uH}{x:Str}{v:Value}:∀ {P:List Str} {vs:List Value} {i:Nat} {m:Str->Option Value},P.Nodup->P[i]?=some x->vs[i]?=some v->kindOf x=some .local ->
  bindL kindOf (P.zip vs) m x=some v
 | [],_,_,_,_,h,_,_=>by simp at h
 | _ :: _,[],_,_,_,_,h,_=>by simp at h
 | p :: P,w :: vs,0,m,nd,h1,h2,hk=>by
  simp at h1 h2; subst h1; subst h2;show bindL kindOf ((p,w) :: P.zip vs) m p=_;unfold bindL;rw [CO fun v hv=>(List.nodup_cons.mp nd).1 (HP hv).1,if_pos hk];simp
 | p :: P,w :: vs,i+1,m,nd,h1,h2,hk=>by
  show bindL kindOf ((p,w) :: P.zip vs) m x=_;unfold bindL;exact CP (i:=i) (List.nodup_cons.mp nd).2 (by simpa using h1) (by simpa using h2) hk
theorem CS{kindOf:Str->Option uH}{x:Str}{v:Value}:∀ {P:List Str} {vs:List Value} {i:Nat} {m:Str->Option Value},P.Nodup->P[i]?=some x->vs[i]?=some v->kindOf x≠some .local ->
  bindC kindOf (P.zip vs) m x=some v
 | [],_,_,_,_,h,_,_=>by simp at h
 | _ :: _,[],_,_,_,_,h,_=>by simp at h
 | p :: P,w :: vs,0,m,nd,h1,h2,hk=>by
  simp at h1 h2; subst h1; subst h2;show bindC kindOf ((p,w) :: P.zip vs) m p=_;unfold bindC;rw [CQ fun v hv=>(List.nodup_cons.mp nd).1 (HP hv).1,if_neg hk];simp
 | p :: P,w :: vs,i+1,m,nd,h1,h2,hk=>by
  show bindC kindOf ((p,w) :: P.zip vs) m x=_;unfold bindC;exact CS (i:=i) (List.nodup_cons.mp nd).2 (by simpa using h1) (by simpa using h2) hk
noncomputable def start(N:List Str)(vs:List V):St:=vs.map some++aU (N.length - vs.length) none
noncomputable def Hm(CX:NC)(P:bG)(w:World)(K:aq)(mg:Str->Option Value)(base:Heap)(N:List Str)(qual:Str)(scope:Scope)(f:Addr)(cd:Value)(A:du)(outer:List Env)(s:az)(H:Hp)(E:XK):Cx where
 prog:=P
 w:=w
 K:=K
 mg:=mg
 base:=base
 A:=A.deeper (EZ qual scope s.heap.objs.size f cd)
 N:=N
 oD:=s
 Rc:=H
 env:=EZ qual scope s.heap.objs.size f cd
 outer:=outer
 stack:=EZ qual scope s.heap.objs.size f cd :: outer
 ex:=[]
 calm:=true
 fn:=fun _=>true
 pn:=[]
 xe:=fun e s'=>wpAny (model P w) (A.deeper (EZ qual scope s.heap.objs.size f cd)) (leaving (EZ qual scope s.heap.objs.size f cd) e) (fun _ WT=>CX outer H s E e WT) (fun e' WT=>CX outer H s E e' WT) s'
theorem Hs{sc:Scope}{n:Nat}{x:Str}(h:sc.names.lookup x=some .cell):∃ c,(cellsFrom n sc.names []).lookup x=some c:=by
 have q:=Kw sc.names n [] (.inl h);exact Option.isSome_iff_exists.mp q
theorem MR{CX:NC}{P:bG}{w:World}{K:aq}{mg:Str->Option Value}{base:Heap}{N ps:List Str}{qual:Str}{scope:Scope}{f:Addr}{cd:Value}{A:du}{outer:List Env}{s s1:az}{H:Hp}{E:XK}{us:List Value}{vs:List V}
  (S:bU N ps scope) (hd:A.handled=none) (e0:TF P w K mg base A outer s H) (hl:vs.length=ps.length) (r:Vals vs us)
  (x:InCallC s s.heap.objs.size (bindL (EZ qual scope s.heap.objs.size f cd).kindOf (ps.zip us) fun _=>none) (cellsFrom (s.heap.objs.size+1) scope.names []) (bindC (EZ qual scope s.heap.objs.size f cd).kindOf (ps.zip us) fun _=>none) s1) :
  Inv (Hm CX P w K mg base N qual scope f cd A outer s H E) [] (start N vs) H s1:=by
 have JB:ps.length<=N.length:=by have:=congrArg dh S.pre; rw [eB] at this; lia
 obtain⟨h1,tk,rfl,hk⟩:=x.done;have Xe:∀ b:Addr,b∉(Hm CX P w K mg base N qual scope f cd A outer s H E).ex:=fun b z=>absurd (show b∈([]:List Addr) from z) (by simp);refine⟨⟨e0.mod,S.kind,rfl,rfl,aF _,fun y z c h1 h2=>?_,fun y hy=>?_,fun y c _ h=>?_,fun _=>hd,Around.frames_deeper e0.frames,.inr ⟨rfl,rfl⟩,fun b z=>absurd z (Xe b),e0.bs,e0.Ts,fun b _ _=>Xe b,fun b z=>absurd z (Xe b),e0.Ax,e0.Ww⟩,
  rfl,e0.bare,Un.kept hk,⟨_,x.toInCall.ns,fun i y v h1 h2 h3=>?_⟩,fun y c h=>⟨_,x.cell y c h⟩,e0.cN.fresh (aF _),fun y c h=>?_,fun p hp=>absurd (show p∈([]:List (Addr×Obj)) from hp) (by simp),e0.cN.kept hk,?_⟩
 ·exact name_of_addr x.apart (iY h1) (iY h2)
 ·have hy:scope.names.lookup y=some .cell\/scope.names.lookup y=some .free:=hy;rcases hy with hy | hy
  ·exact Hs hy
  ·exact absurd rfl (S.Vf _ (iY hy))
 ·exact RK (x.above y c (iY h))
 ·have hi:i < vs.length:=by
   unfold start at h2;by_cases hi:i < vs.length
   ·exact hi
   ·rw [bH (by simpa using hi)] at h2;rw [my] at h2;split at h2 <;> cases h2
  have ha:vs[i]?=some v:=by
   unfold start at h2;rw [bS (by simpa using hi),bz] at h2;cases e:vs[i]? with
   | none=>rw [e] at h2; cases h2
   | some a=>rw [e] at h2; cases h2; rfl
  obtain⟨u,hu,rv⟩:=r.get ha;have hp:ps[i]?=some y:=by
   rw [<-S.pre,tJ (by lia)]; exact h1
  have ndP:ps.Nodup:=by rw [<-S.pre]; exact S.nd.sublist (List.take_sublist _ _)
  refine⟨u,rv,?_⟩;rcases S.par y (fy hp) with k | k
  ·exact .inl ⟨k,CP ndP hp hu k⟩
  ·obtain⟨c,e⟩:=Hs (n:=s.heap.objs.size+1) k;refine .inr ⟨.inl k,c,e,?_⟩;have q:=x.cell y c e;rw [CS ndP hp hu (by show scope.names.lookup y≠_; rw [k]; decide)] at q;exact q
 ·exact e0.cN.fresh (RK (x.above y c (iY h)))
 ·unfold start;show _=N.length;rw [ar,ao,ft];lia
theorem X4{CX:NC}{P:bG}{w:World}{K:aq}{mg:Str->Option Value}{base:Heap}{k:Nat}{f:Addr}{name qual:Str}{params:Arguments}{body:List Stmt}{scope:Scope}{dV kV doc pm qk ct oc:Value}{an od:Option Addr}
  {Pg:Array (Option Value)} {N ps:List Str} {sp:Sp} (lk:K.lookup f=some ⟨oc,od,.func (kM name qual params body scope dV kV doc pm an qk ct),Pg⟩) (Ls:E2 K qk qual=true) (S:bU N ps scope)
  (len:∀ vs H Q E,sp vs H Q E->vs.length=ps.length)
  (Qd:∀ (A:du) (outer:List Env) (s:az) (H:Hp) (vs:List V) (Q:VK) (E:XK),nv k (A.deeper (EZ qual scope s.heap.objs.size f qk))->sp vs H Q E ->
   ∃ t,Wz (Hm CX P w K mg base N qual scope f qk A outer s H E) body t/\t { nx:=fun _ H'=>Q .fh H',rt:=Q } (start N vs) H) :
  fK P w K mg base CX (k+1) f (kM name qual params body scope dV kV doc pm an qk ct) ps sp:=by
 refine⟨len,fun A outer s H args us vs Q E hr e0 hb r Rv=>?_⟩;have hl:=len _ _ _ _ Rv;have KX:K.In s.heap:=e0.mod.Xp.keeps fun b o e=>(e0.bs b o e).1;have lim:s.heap.NoLimit:=e0.mod.nolimit.keeps fun b o e=>(e0.bs b o e).1;have Cv:∀ y∈ps.zip us,scope.names.lookup y.1=some .local\/(scope.names.lookup y.1=some .cell/\((cellsFrom (s.heap.objs.size+1) scope.names []).lookup y.1).isSome=true):=fun ⟨n,v⟩ hy=>by
  rcases S.par n (HP hy).1 with q | q
  ·exact .inl q
  ·exact .inr ⟨q,Kw _ _ _ (.inl q)⟩
 refine codeAny_call_function hr.depth (KX _ _ lk) rfl S.co S.gen rfl (PySem.W.codeRec_of KX Ls) (hb _ _ _ _ ?_);refine wpAny_newFunctionEnv_cells S.kind Cv fun env he s1 x=>?_;subst he;refine⟨lim.keeps x.toInCall.keep,codeAny_func ?_⟩;obtain⟨t,ht,hq⟩:=Qd A outer s H vs Q E (hr.deeper _) Rv;have I:Inv (Hm CX P w K mg base N qual scope f qk A outer s H E) [] (start N vs) H s1:=MR S hr.hd e0 hl r x;refine Ij (ht [] s1 (start N vs) H _ I hq) (fun fl s' hs=>?_) fun e s' hs=>hs;have fin:∀ {kb:St} {H':Hp} {v:V} {u:Value},Inv (Hm CX P w K mg base N qual scope f qk A outer s H E) [] kb H' s'->RelV v u->Q v H'->CE outer P w H s Q u s' :=
  fun {kb H' v u} J rv q=>⟨v,H',J.os,J.bare,J.base,J.cN,rv,q⟩
 cases fl with
 | ret u =>
  obtain⟨v,kb,H',J,rv,q⟩:=hs;exact fin J rv q
 | next =>
  obtain⟨kb,H',J,q⟩:=hs;exact fin (v:=V.fh) (u:=gf) J rfl q
 | brk =>
  obtain⟨_,_,_,q⟩:=hs;exact bY q
 | cont =>
  obtain⟨_,_,_,q⟩:=hs;exact bY q
end L2
namespace HT
open PySem PyProof.Rows
noncomputable def lexLt:List Int->List Int->Bool
 | [],[]=>false
 | [],_ :: _=>true
 | _ :: _,[]=>false
 | x :: xs,y :: ys=>if x=y then lexLt xs ys else decide (x < y)
theorem Jq(x y:Int)(xs ys:List Int):lexLt (x :: xs) (y :: ys)=if x=y then lexLt xs ys else decide (x < y):=rfl
theorem Bv:lexLt [] []=false:=rfl
theorem Aj(y:Int)(ys:List Int):lexLt [] (y :: ys)=true:=rfl
theorem Am(x:Int)(xs:List Int):lexLt (x :: xs) []=false:=rfl
theorem Qs(A:du)(s:az)(a:Int)(t:Tok)(c:Int)(u:Tok):∃ e,SeqAt.EqAt A s (.int a t) (.int c u) e/\(e=true↔a=c) :=
 ⟨(a == c),SeqAt.EqAt.int_int a t c u,by simp⟩
theorem zL(A:du)(s:az)(a:Int)(t:Tok)(c:Int)(u:Tok)(prog:bG)(w:World)(E:Value->az->Prop)(Q:Value->az->Prop)(h:Q (.bool (decide (a < c))) s) :
  wpAny (model prog w) A (rZ .Lt (.int a t) (.int c u)) Q E s :=
 (PyProof.Rows.lt_int h:wpAny (model prog w) A (fx .Lt (.int a t) (.int c u)) Q E s)
section
open PySem.SeqAt
open PySem.AutoSeq1 (wpAny_loadPart')
open PySem.MeetsSeq PySem.MeetsSeq2 PySem.MeetsSeq3
theorem Bp(l b:Addr)(items pG:Array Value)(n n2:Nat)(dd CK:Option Addr)(sl KS:Array (Option Value))(ns ms:List Int)(hi:nG items.toList ns)(hj:nG pG.toList ms) :
  Meets (Builtin.«tuple.__lt__» ⟨[.ref l,.ref b],[]⟩)
   (fun _ R s=>s.heap.get? l=some { cls:=.type "tuple",dict:=dd,data:=.seq items n,slots:=sl }/\s.heap.get? b=some { cls:=.type "tuple",dict:=CK,data:=.seq pG n2,slots:=KS } /\
    R (.ok (.ret (.bool (lexLt ns ms)))) s) :=
 .of_wp fun prog w A R s h=>by
  obtain⟨hp,g,d,tk,os⟩:=s; obtain⟨hl,hb,h⟩:=h;have f2:=rB;have z1:items.size=ns.length:=by rw [<-hi.length]; simp
  have z2:pG.size=ms.length:=by rw [<-hj.length]; simp
  wp_walk using cj hl,cj hb,qt _ (fun rest b s'=>b.1=none/\s'=⟨hp,g,d,tk,os⟩/\∃ (vs ws:List Value) (Wg Wi:List Int),rest=vs.zip ws /\
   nG vs Wg/\nG ws Wi/\Wg.length+pG.size=Wi.length+items.size/\R (.ok (.ret (.bool (lexLt Wg Wi)))) ⟨hp,g,d,tk,os⟩) _
  case turn =>
   rintro⟨y,x⟩ rest b s' ⟨D0,rfl,vs,ws,Wg,Wi,hz,hvi,YU,hlen,hR⟩;cases hvi with
   | nil=>rw [List.zip_nil_left] at hz; cases hz
   | cons a t aa6 =>
    cases YU with
    | nil=>rw [List.zip_nil_right] at hz; cases hz
    | cons c u aa4 =>
     rw [List.zip_cons_cons] at hz;injection hz with hyx P0
     injection hyx with hy hx
     subst hy hx;rw [Jq] at hR;simp only [ai] at hlen;obtain⟨e,he,XG⟩:=Qs A.in1 ⟨hp,g,d,tk,os⟩ a t c u;refine af (he prog w _ _ ?_);cases e with
     | true =>
      rw [if_pos (XG.mp rfl)] at hR
      wp_walk
      exact⟨rfl,rfl,_,_,_,_,P0,aa6,aa4,by lia,hR⟩
     | false =>
      rw [if_neg (fun q=>absurd (XG.mpr q) rP)] at hR;have Xy:=zL A.in1 ⟨hp,g,d,tk,os⟩ a t c u prog w
      wp_walk using Xy
      exact⟨_,rfl,by simpa using hR⟩
  case fin =>
   rintro⟨b1,b2⟩ s' ⟨D0,rfl,vs,ws,Wg,Wi,hz,hvi,YU,hlen,hR⟩;simp only at D0;subst D0;have hv:lexLt Wg Wi=decide (items.size < pG.size):=by
    cases hvi with
    | nil =>
     cases YU with
     | nil =>
      simp only [aB] at hlen;rw [Bv];exact(decide_eq_false (by lia)).symm
     | cons c u hw =>
      simp only [aB,ai] at hlen;rw [Aj];exact(decide_eq_true (by lia)).symm
    | cons a t hv =>
     cases YU with
     | nil =>
      simp only [aB,ai] at hlen;rw [Am];exact(decide_eq_false (by lia)).symm
     | cons c u hw =>
      rw [List.zip_cons_cons] at hz;cases hz
   rw [hv] at hR
   wp_walk
   exact⟨_,rfl,by simpa [vL] using hR⟩
  case h =>
   exact⟨rfl,rfl,items.toList,pG.toList,ns,ms,rfl,hi,hj,by lia,h⟩
end
section
variable {prog:bG} {w:World} {A:du} {E:Value->az->Prop} {s:az}
theorem z8{l b:Addr}{items pG:Array Value}{ns ms:List Int}{Q:Value->az->Prop}(hl:IsTup s.heap l items)(hb:IsTup s.heap b pG)(hi:nG items.toList ns)(hj:nG pG.toList ms)
  (hu:A.units < cLine) (h:Q (.bool (lexLt ns ms)) s):wpAny (model prog w) A (fx .Lt (.ref l) (.ref b)) Q E s:=by
 obtain⟨⟨cls,dd,data,sl⟩,ho,hc,n,hd⟩:=id hl;obtain⟨⟨QO,CK,data2,KS⟩,Cu,xq,n2,hd2⟩:=id hb;simp only at hc hd xq hd2;subst hc hd xq hd2;exact yy (op:=.Lt) ⟨_,ho,rfl⟩ ⟨_,Cu,rfl⟩ mQ uw (sg _ _) (Bp l b items pG n n2 dd CK sl KS ns ms hi hj)
  ⟨ho,Cu,show Value.bool (lexLt ns ms)≠Value.notImplemented/\Q (.bool (lexLt ns ms)) s from⟨(fun x=>nomatch x),h⟩⟩ hu
theorem Ti{t b:Addr}{vs ws:List Value}{Q:Value->az->Prop}(ht:IsTup s.heap t vs.toArray)(hb:IsTup s.heap b ws.toArray)(hv:vs≠[])
  (h1:ws=[]->Q (.ref t) s) (h2:ws≠[]->Q (.ref s.heap.objs.size) { s with heap:=s.heap.push { cls:=.type "tuple",data:=.seq (vs++ws).toArray } })
  (hsz:vs.length+ws.length<=bu):wpAny (model prog w) A (kP .Add (.ref t) (.ref b)) Q E s:=by
 obtain⟨⟨cls,dd,data,sl⟩,ho,hc,n,hd⟩:=id ht;obtain⟨⟨QO,CK,data2,KS⟩,Cu,xq,n2,hd2⟩:=id hb;simp only at hc hd xq hd2;subst hc hd xq hd2;have e:vs.toArray++ws.toArray=(vs++ws).toArray:=by simp
 by_cases hw:ws=[]
 ·exact concat_meets ⟨_,ho,rfl⟩ ⟨_,Cu,rfl⟩ noFill_tuple_add seq_tuple_add Kx Iw (HM _ _)
   (tuple_addW1 t b vs.toArray ws.toArray n n2 dd CK sl KS (by simpa using hv) (by simp [hw])) ⟨ho,Cu,h1 hw⟩
 ·refine concat_meets ⟨_,ho,rfl⟩ ⟨_,Cu,rfl⟩ noFill_tuple_add seq_tuple_add Kx Iw (HM _ _)
   (tuple_addW2 t b vs.toArray ws.toArray n n2 dd CK sl KS (by simpa using hv) (by simpa using hw) (by rw [aY,aY]; exact hsz)) ⟨ho,Cu,?_⟩
  rw [e];exact h2 hw
noncomputable def jZ(n d:Nat):Option Int->Nat
 | none=>d
 | some v=>if v < 0 then (v+(n:Int)).toNat else min v.toNat n
theorem US(n d:Nat)(hd:d<=n)(o:Option Int):jZ n d o<=n:=by
 cases o with
 | none=>exact hd
 | some v =>
  show (if v < 0 then (v+(n:Int)).toNat else min v.toNat n)<=n;by_cases hv:v < 0
  ·rw [if_pos hv]; lia
  ·rw [if_neg hv]; exact Nat.min_le_right _ _
theorem LI(v:Int)(n d:Nat):(if v < 0 then max (v+(n:Int)) 0 else min v (n:Int))=((jZ n d (some v):Nat):Int):=by
 show (if v < 0 then max (v+(n:Int)) 0 else min v (n:Int))=(((if v < 0 then (v+(n:Int)).toNat else min v.toNat n):Nat):Int);by_cases hv:v < 0
 ·simp only [if_pos hv]; lia
 ·simp only [if_neg hv]; lia
theorem Kd(lo hi:Option Int)(n:Nat):oC lo hi 1 (n:Int)=(((jZ n 0 lo:Nat):Int),((jZ n n hi:Nat):Int)):=by
 have h1:¬ ((1:Int) < 0):=by lia
 unfold oC;simp only [h1,if_false];refine Prod.ext ?_ ?_
 ·cases lo with
  | none=>rfl
  | some v=>exact LI v n 0
 ·cases hi with
  | none=>rfl
  | some v=>exact LI v n n
theorem IX(i j:Nat):jC (i:Int) (j:Int) 1=j - i:=by
 unfold jC;have h1:(1:Int) > 0:=by lia
 simp only [h1,if_true,Int.ediv_one];split <;> lia
theorem zr{v:Value}{o:Option Int}{Q:Option Int->az->Prop}(p:IsPart v o)(h:Q o s):wpAny (model prog w) A (Builtin.Slice.slicePartIndex v) Q E s:=by
 cases p with
 | none=>exact slicePart_none h
 | int i t=>exact slicePart_int h
theorem xC{sl:Addr}{vl vu:Value}{lo hi:Option Int}{n:Nat}{Q:Int×Int×Nat->az->Prop}(hs:s.heap.IsSliceOf sl vl vu .none)(pl:IsPart vl lo)(pu:IsPart vu hi)
  (h:Q (((jZ n 0 lo:Nat):Int),1,jZ n n hi - jZ n 0 lo) s):wpAny (model prog w) A (yJ (.ref sl) (pure (n:Int))) Q E s:=by
 obtain⟨os,XB,VA,Y0⟩:=id hs;unfold yJ Builtin.Slice.sliceFields;refine af (af (g7 XB Y0 (x:=vl) rfl (af (g7 XB Y0 (x:=vu) rfl (af (g7 XB Y0 (x:=.none) rfl (aw ?_)))))));refine af (slicePart_none ?_);show wpAny _ _ (if ((1:Int) == 0)=true then _ else _) _ _ s;rw [if_neg (by decide)];refine af (zr pl (af (zr pu (af (aw ?_)))));show wpAny _ _ (match oC lo hi 1 (n:Int) with | (lo,hi)=>pure (lo,(1:Int),jC lo hi 1)) _ _ s;rw [Kd lo hi n];show wpAny _ _ (pure (((jZ n 0 lo:Nat):Int),(1:Int),jC ((jZ n 0 lo:Nat):Int) ((jZ n n hi:Nat):Int) 1)) _ _ s;rw [IX];exact aw h
theorem O5(xs:Array Value)(i k:Nat):((c9 k).filterMap fun (m:Nat)=>xs[((i:Int)+(m:Int) * 1).toNat]?).toArray=((xs.toList.drop i).take k).toArray:=by
 have e:(fun (m:Nat)=>xs[((i:Int)+(m:Int) * 1).toNat]?)=fun m=>xs[i+m]?:=by
  funext m;have:((i:Int)+(m:Int) * 1).toNat=i+m:=by lia
  rw [this]
 rw [e];have:=pick_run xs i k;rw [List.filterMap_map] at this;have e2:((fun x=>xs[x]?)∘fun x=>i+x)=fun m=>xs[i+m]?:=rfl;rw [e2] at this;rw [this]
theorem wN{t sl:Addr}{items:Array Value}{vl vu:Value}{lo hi:Option Int}{Q:Value->az->Prop}(ht:IsTup s.heap t items)(hs:s.heap.IsSliceOf sl vl vu .none)(pl:IsPart vl lo)(pu:IsPart vu hi)
  (hw:¬ (jZ items.size 0 lo=0/\jZ items.size items.size hi=items.size))
  (h:Q (.ref s.heap.objs.size) { s with heap:=s.heap.push { cls:=.type "tuple",data:=.seq ((items.toList.drop (jZ items.size 0 lo)).take (jZ items.size items.size hi - jZ items.size 0 lo)).toArray } })
  (hsz:items.size<=bu):wpAny (model prog w) A (getItem (.ref t) (.ref sl)) Q E s:=by
 have Lr:sizeOk (.seq ((items.toList.drop (jZ items.size 0 lo)).take (jZ items.size items.size hi - jZ items.size 0 lo)).toArray):=by
  show ((items.toList.drop (jZ items.size 0 lo)).take (jZ items.size items.size hi - jZ items.size 0 lo)).toArray.size<=bu;rw [aY];exact a9 (a9 (List.length_take_le' _ _) (by rw [cI,bZ]; exact Nat.sub_le _ _)) hsz
 have hj:jZ items.size items.size hi<=items.size:=US _ _ (aF _) hi;obtain⟨os,XB,VA,Y0⟩:=id hs;have hTs:s.TypeIs (.ref sl) "slice":=⟨os,XB,VA⟩;unfold getItem
 try with_reducible refine cP ?_
 first | refine af (aw ?_) | skip
 refine af (wpAny_sequenceKey ht.typeIs (by decide) ?_);refine af (fG (name:=oA "__getitem__") ht.typeIs xi
  (dM xi ht.typeIs entry_tuple_getitem ?_ (args_tuple_getitem _ _)))
 show wpAny _ _ (Builtin.Tuple.tupleItemsOf (.ref t) >>= _) _ _ s;refine af (tupleItemsOf_ ht ?_);refine af (Kr hTs ?_);rw [if_pos (by decide)];refine af (xC hs pl pu ?_);have XC:¬ ((((jZ items.size 0 lo:Nat):Int) == 0&&(1:Int) == 1&&(jZ items.size items.size hi - jZ items.size 0 lo) == items.size)=true):=by
  intro q;rw [aM,aM] at q;have q1:((jZ items.size 0 lo:Nat):Int)=0:=eq_of_beq q.1.1;have q2:jZ items.size items.size hi - jZ items.size 0 lo=items.size:=eq_of_beq q.2;exact hw ⟨by lia,by lia⟩
 show wpAny _ _ (if (((jZ items.size 0 lo:Nat):Int) == 0&&(1:Int) == 1&&(jZ items.size items.size hi - jZ items.size 0 lo) == items.size)=true then _ else _) _ _ s;rw [if_neg XC,O5]
 first
  | exact af (m:=jY _) (dw (aw ⟨_,rfl,aw h⟩) Lr)
  | exact af (m:=jY _) (dw (af (aw (aw ⟨_,rfl,aw h⟩))) Lr)
  | exact af (af (m:=jY _) (dw (aw (aw ⟨_,rfl,aw h⟩)) Lr))
  | exact af (af (m:=jY _) (dw (aw ⟨_,rfl,aw h⟩) Lr))
end
end HT
namespace L2
open PySem PySem.Spec PyProof.Rows
noncomputable abbrev TO:=St->Hp->(Option Int->Hp->Prop)->Prop
theorem intsAre_of{ns:List Int}:∀ {us:List Value},Vals (ns.map V.int) us->nG us ns:=by
 induction ns with
 | nil=>intro us r; rw [aQ] at r; cases r; exact .nil
 | cons n ns ih =>
  intro us r;rw [av] at r;cases r with
  | cons r1 r2 =>
   obtain⟨t,e⟩:=r1;subst e;exact .cons n t (ih r2)
section
variable {X:Cx} {e:Expr} {te:TE} {lo hi:Option Expr} {tl th:TO} {pos p2:Pos}
noncomputable def SlR(X:Cx)(r:V->Option Int->Option Int->Hp->VK->Prop):Prop :=
 ∀ (pins:List (Addr×Obj)) (s:az) (σ:St) (H:Hp) (x:V) (v vl vu:Value) (lo hi:Option Int) (sl:Addr) (Q:VK),Inv X pins σ H s->RelV x v->s.heap.IsSliceOf sl vl vu .none->IsPart vl lo->IsPart vu hi->r x lo hi H Q ->
  ∃ T id,typeLookup (.type T) "__getitem__" = pure (some (.builtin id))/\s.TypeIs v T/\wpAny (model X.prog X.w) X.A (getItem v (.ref sl)) (EP X pins σ Q) X.xe s
noncomputable def Ho(xs:List V)(lo hi:Option Int):List V:=(xs.drop (HT.jZ xs.length 0 lo)).take (HT.jZ xs.length xs.length hi - HT.jZ xs.length 0 lo)
theorem yu(xs:List V)(lo hi:Option Int):(Ho xs lo hi).length<=xs.length:=by
 unfold Ho;rw [eB,cI];lia
noncomputable def ZY(K:aq):V->Option Int->Option Int->Hp->VK->Prop:=fun x lo hi H Q=>∃ a xs,x=.ref a/\A4 K H a xs /\
 ¬ (HT.jZ xs.length 0 lo=0/\HT.jZ xs.length xs.length hi=xs.length)/\∀ p,H p=none->Q (.ref p) (upd H p (.tup (Ho xs lo hi)))
theorem UQ:SlR X (ZY X.K):=by
 intro pins s σ H x v vl vu lo hi sl Q I rx hs pl pu h;obtain⟨a,xs,rfl,hx,hw,q⟩:=h;cases rx;obtain⟨bM,r,ht,hz⟩:=I.tuple hx;have hlen:bM.toArray.size=xs.length:=by rw [aY]; exact r.length.symm
 refine⟨"tuple",_,PyProof.Rows.slot_tuple_getitem.lookup,ht.typeIs,?_⟩;refine HT.wN ht hs pl pu (by rw [hlen]; exact hw) ?_ (by rw [hlen]; exact hz);rw [hlen];refine⟨.ref s.heap.objs.size,_,I.laid (t':=s.toks) (o:=.tup (Ho xs lo hi)) (fun b ob q=>aE _ q) (aF _) ?_,rfl,q _ (I.cN.fresh (aF _))⟩;exact⟨a9 (yu xs lo hi) hz,_,(r.drop (HT.jZ xs.length 0 lo)).take (HT.jZ xs.length xs.length hi - HT.jZ xs.length 0 lo),IsTup.new _ _⟩
noncomputable def Z1(K:aq):R2:=fun x y H Q=>∃ a b ns ms,x=.ref a/\y=.ref b/\A4 K H a (ns.map V.int)/\A4 K H b (ms.map V.int)/\Q (.bl (HT.lexLt ns ms)) H
theorem Va(hu:X.A.units < cLine):N1 X (fx .Lt) (Z1 X.K):=by
 intro pins s σ H x y v u Q I rx ry h;obtain⟨a,b,ns,ms,rfl,rfl,ha,hb,q⟩:=h;cases rx;cases ry;obtain⟨bM,r1,p1,_⟩:=I.tuple ha;obtain⟨mY,r2,p2,_⟩:=I.tuple hb;have i1:nG bM.toArray.toList ns:=intsAre_of r1;have i2:nG mY.toArray.toList ms:=intsAre_of r2;exact HT.z8 p1 p2 i1 i2 hu ⟨.bl (HT.lexLt ns ms),H,I,rfl,q⟩
noncomputable def WZ(K:aq):R2:=fun x y H Q=>∃ a b xs ys,x=.ref a/\y=.ref b/\A4 K H a xs/\A4 K H b ys/\xs≠[]/\xs.length+ys.length<=bu /\
 (ys=[]->Q (.ref a) H)/\(ys≠[]->∀ p,H p=none->Q (.ref p) (upd H p (.tup (xs++ys))))
theorem Vals.DJ{xs:List V}{us:List Value}(r:Vals xs us):us=[]↔xs=[]:=by
 cases r with
 | nil=>simp
 | cons _ _=>simp
theorem Ss:N1 X (kP .Add) (WZ X.K):=by
 intro pins s σ H x y v u Q I rx ry h;obtain⟨a,b,xs,ys,rfl,rfl,ha,hb,hx,hz,q1,q2⟩:=h;cases rx;cases ry;obtain⟨bM,r1,p1,_⟩:=I.tuple ha;obtain⟨mY,r2,p2,_⟩:=I.tuple hb;refine HT.Ti p1 p2 (fun z=>hx (r1.DJ.mp z)) (fun z=>⟨.ref a,H,I,rfl,q1 (r2.DJ.mp z)⟩) (fun z=>?_) (by rw [<-r1.length,<-r2.length]; exact hz);refine⟨.ref s.heap.objs.size,_,I.laid (t':=s.toks) (o:=.tup (xs++ys)) (fun b ob q=>aE _ q) (aF _) ?_,rfl,q2 (fun w=>z (r2.DJ.mpr w)) _ (I.cN.fresh (aF _))⟩;exact⟨by rw [ar]; exact hz,_,r1.append r2,IsTup.new _ _⟩
end
noncomputable def Ju(n:Nat)(i:Int):Option Nat:=if 0<=i then (if i < n then some i.toNat else none) else if -(n:Int)<=i then some (i+n).toNat else none
noncomputable def vC{α:Type}(xs:List α)(i:Int):Option α:=(Ju xs.length i).bind fun j=>xs[j]?
theorem Lp{n:Nat}{i:Int}{j:Nat}(h:Ju n i=some j):seqIndex? i n=some j/\j < n/\-(n:Int)<=i/\i < n:=by
 unfold Ju at h;by_cases h0:0<=i
 ·rw [if_pos h0] at h;by_cases h1:i < n
  ·rw [if_pos h1] at h;have e:i.toNat=j:=bx h;exact⟨by rw [seqIndex_of h0 h1,e],by lia,by lia,h1⟩
  ·rw [if_neg h1] at h; cases h
 ·rw [if_neg h0] at h;by_cases h1:-(n:Int)<=i
  ·rw [if_pos h1] at h;have e:(i+n).toNat=j:=bx h;exact⟨by rw [seqIndex_neg (by lia) h1,e],by lia,h1,by lia⟩
  ·rw [if_neg h1] at h; cases h
theorem LO{α:Type}{xs:List α}{i:Int}{v:α}(h:vC xs i=some v):∃ j,seqIndex? i xs.length=some j/\xs[j]?=some v/\j < xs.length/\-(xs.length:Int)<=i/\i < xs.length:=by
 unfold vC at h;cases e:Ju xs.length i with
 | none=>rw [e] at h; cases h
 | some j =>
  rw [e] at h;obtain⟨h1,h2,h3,h4⟩:=Lp e;exact⟨j,h1,h,h2,h3,h4⟩
noncomputable def Tx(b:Expr):Prop:=∀ o i,subscripted b false o i=operate [o,i] (getItem o i)
noncomputable def IxR(X:Cx)(r:R2):Prop :=
 ∀ (value slice:Expr) (pins:List (Addr×Obj)) (s:az) (σ:St) (H:Hp) (x y:V) (v u:Value) (Q:VK),Inv X pins σ H s->RelV x v->RelV y u->r x y H Q ->
  subscripted slice false v u=operate [v,u] (getItem v u)->wpAny (model X.prog X.w) X.A (subscriptTail value slice v u) (EP X pins σ Q) X.xe s
noncomputable def MtR(X:Cx)(id:String)(r:V->List V->Hp->VK->Prop):Prop :=
 ∀ (pins:List (Addr×Obj)) (s:az) (σ:St) (H:Hp) (x:V) (xs:List V) (v:Value) (us:List Value) (Q:VK),Inv X pins σ H s->RelV x v->Vals xs us->r x xs H Q ->
  wpAny (model X.prog X.w) X.A (call (.builtin id) (v :: us)) (EP X pins σ Q) X.xe s
section
variable {X:Cx} {a b:Expr} {ta tb:TE} {pos:Pos}
noncomputable def Z4(K:aq):R2:=fun x y H Q=>∃ p xs i v,x=.ref p/\y=.int i/\rH K H p xs/\vC xs i=some v/\Q v H
noncomputable def Z3(K:aq):R2:=fun x y H Q=>∃ p xs i v,x=.ref p/\y=.int i/\A4 K H p xs/\vC xs i=some v/\Q v H
theorem Lo:IxR X (Z4 X.K):=by
 intro value slice pins s σ H x y v u Q I rx ry h hs;obtain⟨p,xs,i,z,rfl,rfl,hq,he,q⟩:=h;cases rx;obtain⟨t,rfl⟩:=ry;obtain⟨bM,r,pl,hz⟩:=I.list hq;obtain⟨j,h1,h2,h3,h4,h5⟩:=LO he;obtain⟨w,ew,v3⟩:=r.get h2;have hl:=r.length;have hn:=Ag;have fin:EP X pins σ Q w s:=⟨z,H,I,v3,q⟩;by_cases h0:0<=i
 ·have hj:i.toNat=j:=by
   rw [seqIndex_of h0 h5] at h1;exact bx h1
  exact item_listR pl.isList h0 (by lia) (by rw [hj]; simpa using ew) fin hs
 ·have hj:(i+(bM.toArray.size:Int)).toNat=j:=by
   rw [seqIndex_neg (by lia) h4] at h1;rw [aY,<-hl];exact bx h1
  exact subscriptTail_builtinR (x:=w) pl.isList.typeIs slot_list_getitem.lookup
   (wpAny_getItem_list_neg (Q:=fun r s'=>r=w/\EP X pins σ Q r s') pl.isList (by lia) (by rw [aY] <;> lia) (by lia) (by rw [hj]; simpa using ew) ⟨rfl,fin⟩) hs
theorem Vp:IxR X (Z3 X.K):=by
 intro value slice pins s σ H x y v u Q I rx ry h hs;obtain⟨p,xs,i,z,rfl,rfl,hq,he,q⟩:=h;cases rx;obtain⟨t,rfl⟩:=ry;obtain⟨bM,r,pl,hz⟩:=I.tuple hq;obtain⟨j,h1,h2,h3,h4,h5⟩:=LO he;obtain⟨w,ew,v3⟩:=r.get h2;have hl:=r.length;have hn:=Ag;have fin:EP X pins σ Q w s:=⟨z,H,I,v3,q⟩;exact subscriptTail_builtinR (x:=w) pl.typeIs slot_tuple_getitem.lookup
  (getItem_tuple (j:=j) (Q:=fun r s'=>r=w/\EP X pins σ Q r s') pl (by lia) (by lia) (by rw [aY,<-hl]; exact h1) (by simpa using ew) ⟨rfl,fin⟩) hs
theorem Jm (bM:List Value) (n j:Nat) (u:Value):jt (·.setIfInBounds j u) { cls:=.type "list",data:=.seq bM.toArray n } = { cls:=.type "list",data:=.seq (bM.set j u).toArray n }:=by
 simp [jt]
theorem Inv.lst{pins:List (Addr×Obj)}{σ:St}{H:Hp}{s:az}{p:Addr}{xs:List V}(I:Inv X pins σ H s)(h:H p=some (.lst xs)) :
  ∃ (bM:List Value) (n:Nat),Vals xs bM/\s.heap.get? p=some { cls:=.type "list",data:=.seq bM.toArray n }/\xs.length<=bu:=by
 obtain⟨z,bM,n,r,e⟩:=I.cN p _ h;exact⟨bM,n,r,e,z⟩
theorem Inv.Vi{pins:List (Addr×Obj)}{σ:St}{H:Hp}{s:az}{p:Addr}{xs ys:List V}{bM its':List Value}{n n':Nat}{f:Obj->Obj}(I:Inv X pins σ H s)(h:H p=some (.lst xs))
  (ho:s.heap.get? p=some { cls:=.type "list",data:=.seq bM.toArray n }) (hf:f { cls:=.type "list",data:=.seq bM.toArray n } = { cls:=.type "list",data:=.seq its'.toArray n' }) (r:Vals ys its') (hz:ys.length<=bu) (t:Nat) :
  Inv X pins σ (upd H p (.lst ys)) { s with heap:=s.heap.update p f,toks:=t }:=by
 have e:(s.heap.update p f).get? p=some { cls:=.type "list",data:=.seq its'.toArray n' }:=by
  rw [jV f ho (by rw [hf] <;> rfl),hf]
 refine I.write (x:=p) (e:=p) (by rw [h]; trivial) (.inl rfl) (fun b u hb q=>(dc _ _ (dW hb)).trans q) ⟨_,e⟩ ?_;exact⟨hz,its',n',r,e⟩
noncomputable def WW:V->V->V->Hp->(Hp->Prop)->Prop:=fun o i v H Q=>∃ p xs k j,o=.ref p/\i=.int k/\H p=some (.lst xs)/\Ju xs.length k=some j/\Q (upd H p (.lst (xs.set j v)))
theorem set_list:ab4 X WW:=by
 intro pins s σ H o i v ov iv u Q I ro ri rv h;obtain⟨p,xs,k,j,rfl,rfl,hp,hj,q⟩:=h;cases ro;obtain⟨t,rfl⟩:=ri;obtain⟨bM,n,r,ho,hz⟩:=I.lst hp;obtain⟨h1,h2,h3,h4⟩:=Lp hj;have hl:=r.length;have hn:=Ag;have I':Inv X pins σ (upd H p (.lst (xs.set j v))) { s with heap:=s.heap.update p (jt (·.setIfInBounds j u)) } :=
  I.Vi hp ho (Jm bM n j u) (r.set rv j) (by rw [gT]; exact hz) s.toks
 by_cases h0:0<=k
 ·have hk:k.toNat=j:=by
   rw [seqIndex_of h0 h4] at h1;exact bx h1
  exact PySem.W.ki_setAt ho h0 (by lia) (by rw [aY,<-hl]; exact h4) (by rw [hk]; exact⟨_,I',q⟩)
 ·have hk:(k+(bM.toArray.size:Int)).toNat=j:=by
   rw [seqIndex_neg (by lia) h3] at h1;rw [aY,<-hl];exact bx h1
  exact PySem.W.ki_setBack ho (by lia) (by rw [aY,<-hl]; exact h3) (by lia) (by rw [hk]; exact⟨_,I',q⟩)
theorem Dh(lo hi:Option Int)(n:Nat):(rY lo hi none n).1=((HT.jZ n 0 lo:Nat):Int)/\(rY lo hi none n).2.1=((HT.jZ n n hi:Nat):Int)/\(rY lo hi none n).2.2=1:=by
 refine⟨?_,?_,rfl⟩
 ·cases lo with
  | none=>simp [rY,HT.jZ]
  | some i =>
   simp only [rY,HT.jZ,Option.getD_none,show (1:Int) > 0 by decide,if_true];by_cases h:i < 0
   ·simp only [h,if_true] <;> lia
   ·simp only [h,if_false] <;> lia
 ·cases hi with
  | none=>simp [rY,HT.jZ]
  | some i =>
   simp only [rY,HT.jZ,Option.getD_none,show (1:Int) > 0 by decide,if_true];by_cases h:i < 0
   ·simp only [h,if_true] <;> lia
   ·simp only [h,if_false] <;> lia
theorem Br(bM:List Value)(lo hi:Option Int):slicePick bM.toArray lo hi none=((bM.drop (HT.jZ bM.length 0 lo)).take (HT.jZ bM.length bM.length hi - HT.jZ bM.length 0 lo)).toArray:=by
 obtain⟨h1,h2,h3⟩:=Dh lo hi bM.toArray.size;unfold slicePick;rw [h1,h2,h3];simp only [sliceRange_one,pick_run,aY] <;> rfl
noncomputable def ZZ(K:aq):V->Option Int->Option Int->Hp->VK->Prop:=fun x lo hi H Q=>∃ a xs,x=.ref a/\rH K H a xs/\∀ p,H p=none->Q (.ref p) (upd H p (.lst (Ho xs lo hi)))
theorem KR:SlR X (ZZ X.K):=by
 intro pins s σ H x v vl vu lo hi sl Q I rx hs pl pu h;obtain⟨a,xs,rfl,hx,q⟩:=h;cases rx;obtain⟨bM,r,ht,hz⟩:=I.list hx;have hlen:=r.length;refine⟨"list",_,slot_list_getitem.lookup,ht.isList.typeIs,?_⟩;refine wpAny_getItem_list_slice ht.isList hs pl pu .none (by simp) ?_ (by rw [aY] <;> lia);rw [Br,<-hlen];refine⟨.ref s.heap.objs.size,_,I.laid (t':=s.toks) (o:=.lst (Ho xs lo hi)) (fun b ob q=>aE _ q) (aF _) ?_,rfl,q _ (I.cN.fresh (aF _))⟩;exact⟨a9 (yu xs lo hi) hz,_,0,(r.drop (HT.jZ xs.length 0 lo)).take (HT.jZ xs.length xs.length hi - HT.jZ xs.length 0 lo),bh _ rfl⟩
theorem Es:Us X (.type "list") (fun xs H Q=>∃ p ys,xs=[.ref p]/\(rH X.K H p ys\/A4 X.K H p ys)/\∀ l,H l=none->Q (.ref l) (upd H l (.lst ys))):=by
 intro pins s σ H xs us Q I r h;obtain⟨p,ys,rfl,hq,q⟩:=h;obtain⟨u,rfl,rx⟩:=vals1 r;cases rx;have fin:∀ (bM:List Value),Vals ys bM->ys.length<=bu->∀ (h':Heap) (c':Nat),(∀ b o',s.heap.get? b=some o'->h'.get? b=some o') ->
   h'.get? s.heap.objs.size=some { cls:=.type "list",dict:=none,data:=.seq bM.toArray c',slots:=#[] }->EP X pins σ Q (.ref s.heap.objs.size) { s with heap:=h' }:=fun bM r' hz h' c' kp e =>
  ⟨.ref s.heap.objs.size,_,I.laid (t':=s.toks) kp (aF _) (show ig X.prog X.w _ h' _ (.lst ys) from⟨hz,bM,c',r',e⟩),rfl,q _ (I.cN.fresh (aF _))⟩
 rcases hq with hq | hq
 ·obtain⟨bM,r',pl,hz⟩:=I.list hq;have hlen:=r'.length;obtain⟨o,ho,hc,n,hd⟩:=pl.isList;exact call_list_seq p (.inl rfl) ho hc hd (fun h' c' kp e=>fin bM r' hz h' c' kp e) (by simp only [aY] <;> lia)
 ·obtain⟨bM,r',pl,hz⟩:=I.tuple hq;have hlen:=r'.length;obtain⟨o,ho,hc,n,hd⟩:=pl;exact call_list_seq p (.inr rfl) ho hc hd (fun h' c' kp e=>fin bM r' hz h' c' kp e) (by simp only [aY] <;> lia)
noncomputable def tyV(K:aq)(T:String)(x:V)(H:Hp):Prop:=match x with
 | .str _=>T = "str"
 | .int _=>T = "int"
 | .ref p=>(T = "list"/\∃ xs,rH K H p xs)\/(T = "tuple"/\∃ o,K.lookup p=some o/\o.cls=.type "tuple"/\o.dict=none) \/
   (T = "dict"/\((∃ kvs,H p=some (.dK kvs))\/∃ kvs,H p=some (.dT kvs)))\/(T = "set"/\∃ S n,H p=some (.set S n))
 | _=>False
theorem C7{pins:List (Addr×Obj)}{σ:St}{H:Hp}{s:az}{T:String}{x:V}{v:Value}(I:Inv X pins σ H s)(r:RelV x v)(ty:tyV X.K T x H) :
  s.TypeIs v T/\∀ a,v=.ref a->∃ ob,s.heap.get? a=some ob/\ob.dict=none:=by
 cases x with
 | str z =>
  obtain⟨t,rfl⟩:=r;cases (show T = "str" from ty);exact⟨typeIs_str s z t,fun _ e=>nomatch e⟩
 | int i =>
  obtain⟨t,rfl⟩:=r;cases (show T = "int" from ty);exact⟨typeIs_int s i t,fun _ e=>nomatch e⟩
 | ref p =>
  cases r;rcases ty with ⟨rfl,xs,hq⟩ | ⟨rfl,o,hk,hc,hd⟩ | ⟨rfl,hk⟩ | ⟨rfl,S,n,hk⟩
  ·obtain⟨bM,_,pl,_⟩:=I.list hq;refine⟨pl.isList.typeIs,fun a e=>?_⟩;cases e;obtain⟨o,n,e,c,hd,_⟩:=pl;exact⟨o,e,hd⟩
  ·refine⟨⟨o,I.HZ p o hk,hc⟩,fun a e=>?_⟩;cases e;exact⟨o,I.HZ _ o hk,hd⟩
  ·have z:∃ o,s.heap.get? p=some o/\o.ExactDict:=by
    rcases hk with ⟨kvs,hk⟩ | ⟨kvs,hk⟩
    ·obtain⟨_,_,_,_,o,_,_,e,ex,_⟩:=I.cN p _ hk;exact⟨o,e,ex⟩
    ·obtain⟨_,_,_,_,o,_,_,e,ex,_⟩:=I.cN p _ hk;exact⟨o,e,ex⟩
   obtain⟨o,e,ex⟩:=z;refine⟨⟨o,e,ex.1⟩,fun a e2=>?_⟩;cases e2;exact⟨o,e,ex.2.1⟩
  ·obtain⟨o,_,_,_,e,ex,_⟩:=I.cN p _ hk;refine⟨⟨o,e,ex.1⟩,fun a e2=>?_⟩;cases e2;exact⟨o,e,ex.2.1⟩
 | _=>exact bY ty
variable {o e:Expr} {es:List Expr} {to:TE} {t:TA} {name:Str} {apos lC:Pos} {T id:String} {r:V->List V->Hp->VK->Prop}
/- xs.append(e),list.index on a Xk tuple .. are MtR facts of 06m -/
end
noncomputable def MtM(X:Cx)(id:String)(r:V->List V->Hp->VK->Prop):Prop :=
 ∀ (pins:List (Addr×Obj)) (s:az) (σ:St) (H:Hp) (x:V) (xs:List V) (v:Value) (us:List Value) (Q:VK),Inv X pins σ H s->RelV x v->Vals xs us->r x xs H Q ->
  wpAny (model X.prog X.w) X.A (call (.builtin id) (v :: us)) (EP X pins σ Q) X.xe s
theorem Vals.one:∀ {x:V} {us:List Value},Vals [x] us->∃ u,us=[u]/\RelV x u:=by
 intro x us h;cases h with
 | cons r t=>cases t; exact⟨_,rfl,r⟩
section
variable {X:Cx} {pins:List (Addr×Obj)} {σ:St} {H:Hp} {s:az} {l b:Addr} {xs ys zs:List V}
theorem Inv.Xo{bM its':List Value}{n:Nat}{f:Array Value->Array Value}{t':Nat}(I:Inv X pins σ H s)(hH:H l=some (.lst xs))
  (e:s.heap.get? l=some { cls:=.type "list",data:=.seq bM.toArray n }) (hf:f bM.toArray=its'.toArray) (hv:Vals ys its') (hz:ys.length<=bu) :
  Inv X pins σ (upd H l (.lst ys)) { s with heap:=s.heap.update l (jt f),toks:=t' }:=by
 have q:=PySem.IsL.update e f;rw [hf] at q;refine I.write (x:=l) (e:=l) (by rw [hH]; exact trivial) (.inl rfl) (fun b' u hb hu=>(dc s.heap (jt f) (dW hb)).trans hu) ⟨_,q⟩ ?_;exact⟨hz,its',_,hv,q⟩
theorem Inv.aaN{bM:List Value}{t':Nat}(I:Inv X pins σ H s)(hv:Vals ys bM)(hz:ys.length<=bu) :
  Inv X pins σ (upd H s.heap.objs.size (.lst ys)) { s with heap:=s.heap.push { cls:=.type "list",data:=.seq bM.toArray },toks:=t' } :=
 I.laid (fun _ _ q=>aE _ q) (aF _) ⟨hz,bM,0,hv,bh _ rfl⟩
theorem Inv.Xn (I:Inv X pins σ H s) (hH:H l=some (.lst xs)):xs.length<=bu/\∃ (bM:List Value) (n:Nat),Vals xs bM/\xs.length=bM.length/\s.heap.get? l=some { cls:=.type "list",data:=.seq bM.toArray n }:=by
 obtain⟨z,bM,n,r,e⟩:=I.cN l _ hH;exact⟨z,bM,n,r,r.length,e⟩
theorem Pk{n:Nat}(h:n<=bu):j6 n=false:=by
 unfold j6;exact decide_eq_false (by lia)
end
section
variable {X:Cx}
noncomputable def Sd:V->List V->Hp->VK->Prop:=fun x vs H Q=>∃ l xs y,x=.ref l/\vs=[y]/\H l=some (.lst xs)/\xs.length < bu/\Q .fh (upd H l (.lst (xs++[y])))
theorem Cg:MtM X "list.append" Sd:=by
 intro pins s σ H x vs v us Q I rx rv h;obtain⟨l,xs,y,rfl,rfl,hH,hz,q⟩:=h;cases rx;obtain⟨u,rfl,ru⟩:=rv.one;obtain⟨z,bM,n,r,hl,e⟩:=I.Xn hH;refine Iq F.slot_list_append ⟨_,e,rfl⟩ F.entry_list_append (F.args_list_append_2 _ _) (PySem.list_append l bM.toArray n u (by rw [aY]; lia)) ⟨e,?_⟩;refine⟨.fh,_,I.Xo (its':=bM++[u]) hH e (by simp) (r.append (.cons ru .nil)) ?_,rfl,q⟩;rw [ar,cW];lia
end
section
variable {κ:Type} [DecidableEq κ]
noncomputable def mT(kvs:List (κ×V))(k:κ):Option V:=(kvs.find? fun kv=>decide (kv.1=k)).map (·.2)
noncomputable def putK(kvs:List (κ×V))(k:κ)(v:V):List (κ×V) :=
 if (kvs.any fun kv=>decide (kv.1=k))=true then kvs.map (fun kv=>if kv.1=k then (kv.1,v) else kv) else kvs++[(k,v)]
theorem sr{p:κ×V}{r:List (κ×V)}{k:κ}(e:p.1=k):mT (p :: r) k=some p.2:=by simp [mT,di,e]
theorem su{p:κ×V}{r:List (κ×V)}{k:κ}(e:¬ p.1=k):mT (p :: r) k=mT r k:=by simp [mT,di,e]
theorem Fc(k:κ):∀ kvs:List (κ×V),(kvs.any fun kv=>decide (kv.1=k))=(mT kvs k).isSome
 | []=>rfl
 | p :: r=>by
  rw [pR];by_cases e:p.1=k
  ·simp only [sr e,decide_eq_true e,Bool.true_or,Option.isSome_some]
  ·rw [su e,decide_eq_false e,NI]; exact Fc k r
theorem ym(kvs:List (κ×V))(k:κ)(v:V):(putK kvs k v).length<=kvs.length+1:=by
 unfold putK;split
 ·rw [ao]; lia
 ·rw [ar,ai,aB]; lia
theorem yF.qf{o:Option V}{u:Option Value}(r:yF o u):o.isSome=u.isSome:=by
 cases o with
 | none=>cases u with
  | none=>rfl
  | some _=>exact(show False from r).elim
 | some _=>cases u with
  | none=>exact(show False from r).elim
  | some _=>rfl
theorem yF.getD{o:Option V}{u:Option Value}{d:V}{d':Value}(r:yF o u)(rd:RelV d d'):RelV (o.getD d) (u.getD d'):=by
 cases o with
 | none=>cases u with
  | none=>exact rd
  | some _=>exact(show False from r).elim
 | some _=>cases u with
  | none=>exact(show False from r).elim
  | some _=>exact r
theorem KV.val{kvs:List (κ×V)}{vs:List (κ×Value)}(r:KV kvs vs)(k:κ):yF (mT kvs k) (N7 vs k):=by
 unfold KV at r;induction r with
 | nil=>exact iO
 | @cons p q ps qs h t ih =>
  obtain⟨h1,h2⟩:=h;by_cases e:p.1=k
  ·have e':q.1=k:=h1.symm.trans e;have b:N7 (q :: qs) k=some q.2:=by simp [N7,di,e']
   rw [sr e,b]; exact h2
  ·have e':¬ q.1=k:=fun z=>e (h1.trans z);have b:N7 (q :: qs) k=N7 qs k:=by simp [N7,di,e']
   rw [su e,b]; exact ih
theorem KV.any{kvs:List (κ×V)}{vs:List (κ×Value)}(r:KV kvs vs)(k:κ):(kvs.any fun kv=>decide (kv.1=k))=vs.any fun kv=>decide (kv.1=k):=by
 unfold KV at r;induction r with
 | nil=>rfl
 | cons h t ih=>rw [pR,pR,ih,h.1]
theorem KV.OU{kvs:List (κ×V)}{vs:List (κ×Value)}(r:KV kvs vs)(k:κ){y:V}{u:Value}(ry:RelV y u) :
  KV (kvs.map fun kv=>if kv.1=k then (kv.1,y) else kv) (vs.map fun kv=>if kv.1=k then (kv.1,u) else kv):=by
 unfold KV at r ⊢;induction r with
 | nil=>exact .nil
 | @cons p q ps qs h t ih =>
  rw [av,av];refine .cons ?_ ih;obtain⟨h1,h2⟩:=h;by_cases e:p.1=k
  ·rw [if_pos e,if_pos (h1.symm.trans e)]; exact⟨h1,ry⟩
  ·rw [if_neg e,if_neg (fun z=>e (h1.trans z))]; exact⟨h1,h2⟩
theorem KV.put{kvs:List (κ×V)}{vs:List (κ×Value)}(r:KV kvs vs)(k:κ){y:V}{u:Value}(ry:RelV y u):KV (putK kvs k y) (Kt vs k u):=by
 unfold putK Kt;rw [r.any k];by_cases e:(vs.any fun kv=>decide (kv.1=k))=true
 ·rw [if_pos e,if_pos e]; exact r.OU k ry
 ·rw [if_neg e,if_neg e]; exact Paired.snoc r ⟨rfl,ry⟩
theorem KV.length{kvs:List (κ×V)}{vs:List (κ×Value)}(r:KV kvs vs):kvs.length=vs.length:=lE r
end
theorem yn{P:bG}{w:World}{k:Key}{u:Value}(r:RelV (kV k) u):(cx P w).is k u=true:=by
 cases k with
 | inl i=>obtain⟨t,e⟩:=(show ∃ t,u=dZ i t from r); subst e; exact yj P w i t
 | inr x=>obtain⟨t,e⟩:=(show ∃ t,u=Value.str x t from r); subst e; exact Gd P w x t
theorem Cq{P:bG}{w:World}:∀ {ks:List Key} {us:List Value},Vals (ks.map kV) us->ItemsAre (cx P w) ks us
 | [],_,r=>by rw [aQ] at r; cases r; exact .nil
 | k :: ks,_,r=>by
  rw [av] at r;cases r with
  | cons h t=>exact .cons (yn h) (Cq t)
noncomputable abbrev KT(H:Hp):List (List Key×V)->List (List Key×Addr×Value)->Prop:=Kz fun p q=>p.1=q.1/\H q.2.1=some (.tup (p.1.map kV))/\RelV p.2 q.2.2
theorem KT.val{H:Hp}{kvs:List (List Key×V)}{xs:List (List Key×Addr×Value)}(r:KT H kvs xs)(k:List Key):yF (mT kvs k) ((atKey xs k).map (·.2)):=by
 induction r with
 | nil=>exact iO
 | @cons p q ps qs h t ih =>
  obtain⟨h1,_,h2⟩:=h;by_cases e:p.1=k
  ·have e':q.1=k:=h1.symm.trans e;have b:atKey (q :: qs) k=some q.2:=by simp [atKey,di,e']
   rw [sr e,b]; exact h2
  ·have e':¬ q.1=k:=fun z=>e (h1.trans z);have b:atKey (q :: qs) k=atKey qs k:=by simp [atKey,di,e']
   rw [su e,b]; exact ih
theorem KT.OU{H:Hp}{kvs:List (List Key×V)}{xs:List (List Key×Addr×Value)}(r:KT H kvs xs)(k:List Key){y:V}{u:Value}(ry:RelV y u) :
  KT H (kvs.map fun kv=>if kv.1=k then (kv.1,y) else kv) (xs.map (putAt k u)):=by
 induction r with
 | nil=>exact .nil
 | @cons p q ps qs h t ih =>
  rw [av,av];refine .cons ?_ ih;obtain⟨h1,h2,h3⟩:=h;unfold putAt;by_cases e:p.1=k
  ·rw [if_pos e,if_pos (h1.symm.trans e)]; exact⟨h1,h2,ry⟩
  ·rw [if_neg e,if_neg (fun z=>e (h1.trans z))]; exact⟨h1,h2,h3⟩
theorem KT.put{H:Hp}{kvs:List (List Key×V)}{xs:List (List Key×Addr×Value)}(r:KT H kvs xs)(k:List Key){b:Addr}{y:V}{u:Value}(hb:H b=some (.tup (k.map kV)))(ry:RelV y u) :
  KT H (putK kvs k y) (storedH xs k b u):=by
 have e:(kvs.any fun kv=>decide (kv.1=k))=(atKey xs k).isSome:=by
  rw [Fc,(r.val k).qf,rV]
 unfold putK storedH;rw [e];by_cases q:(atKey xs k).isSome=true
 ·rw [if_pos q,if_pos q]; exact r.OU k ry
 ·rw [if_neg q,if_neg q]; exact Paired.snoc r ⟨rfl,hb,ry⟩
theorem KT.keeps{H H':Hp}{kvs:List (List Key×V)}{xs:List (List Key×Addr×Value)}(r:KT H kvs xs)(ht:∀ b ys,H b=some (.tup ys)->H' b=some (.tup ys)):KT H' kvs xs :=
 Paired.Xm r fun _ _ z=>⟨z.1,ht _ _ z.2.1,z.2.2⟩
section
variable {P:bG} {w:World} {H:Hp} {h:Heap} {a:Addr}
theorem TU{u:HO}(ok:vD P w H h)(e:Rd H a u):ig P w H h a u:=e.ok ok
theorem tw{kvs:List (Key×V)}(ok:vD P w H h)(e:Rd H a (.dK kvs)):kvs.length<=bu/\(a == dS)=false/\∃ vs,KV kvs vs/\h.DictOf (cx P w) a vs :=
 show ig P w H h a (.dK kvs) from TU ok e
theorem AM{kvs:List (Key×V)}(ok:vD P w H h)(e:H a=some (.dK kvs)):kvs.length<=bu/\(a == dS)=false/\∃ vs,KV kvs vs/\h.DictOf (cx P w) a vs:=tw ok (.inl e)
theorem pF{ks:List Key}(ok:vD P w H h)(e:H a=some (.tup (ks.map kV))):(rX (cx P w)).is h ks a:=by
 obtain⟨_,bM,r,o,h1,h2,n,h3⟩:=(show ig P w H h a (.tup (ks.map kV)) from ok a _ e);exact⟨o,bM.toArray,n,h1,h2,h3,by simpa using Cq r⟩
theorem yt{kvs:List (List Key×V)}(ok:vD P w H h)(e:Rd H a (.dT kvs)):kvs.length<=bu/\(a == dS)=false /\
  ∃ xs,KT H kvs xs/\h.DictOfH (rX (cx P w)) a xs:=by
 obtain⟨z,y,xs,r,o,es,ep,h1,h2,h3,h4,h5⟩:=(show ig P w H h a (.dT kvs) from TU ok e);refine⟨z,y,xs,r,o,es,ep,h1,h2,h3,h4,fun x hx=>?_,h5⟩;have all:∀ {l:List (List Key×V)} {m:List (List Key×Addr×Value)},KT H l m->∀ x∈m,(rX (cx P w)).is h x.1 x.2.1:=by
  intro l m q;induction q with
  | nil=>intro x hx; exact nomatch hx
  | @cons p q ps qs hq t ih =>
   intro x hx;rcases List.mem_cons.mp hx with e | hx
   ·subst e;exact pF ok (by rw [<-hq.1]; exact hq.2.1)
   ·exact ih x hx
 exact all r x hx
theorem Ui{kvs:List (List Key×V)}(ok:vD P w H h)(e:H a=some (.dT kvs)):kvs.length<=bu/\(a == dS)=false /\
  ∃ xs,KT H kvs xs/\h.DictOfH (rX (cx P w)) a xs:=yt ok (.inl e)
end
noncomputable def yG(H:Hp)(a:Addr)(y:V)(r:Option V):Prop :=
 (∃ kvs k,Rd H a (.dK kvs)/\y=kV k/\r=mT kvs k)\/∃ kvs k b,Rd H a (.dT kvs)/\y=.ref b/\H b=some (.tup (k.map kV))/\r=mT kvs k
noncomputable def NB(H:Hp)(a:Addr)(y v:V)(H':Hp):Prop :=
 (∃ kvs k,H a=some (.dK kvs)/\y=kV k/\kvs.length < bu/\H'=upd H a (.dK (putK kvs k v))) \/
 ∃ kvs k b,H a=some (.dT kvs)/\y=.ref b/\H b=some (.tup (k.map kV))/\kvs.length < bu/\H'=upd H a (.dT (putK kvs k v))
theorem yG.k{H:Hp}{a:Addr}{kvs:List (Key×V)}{k:Key}(e:H a=some (.dK kvs)):yG H a (kV k) (mT kvs k):=.inl ⟨kvs,k,.inl e,rfl,rfl⟩
theorem yG.t{H:Hp}{a b:Addr}{kvs:List (List Key×V)}{k:List Key}(e:H a=some (.dT kvs))(eb:H b=some (.tup (k.map kV))):yG H a (.ref b) (mT kvs k):=.inr ⟨kvs,k,b,.inl e,rfl,eb,rfl⟩
theorem NB.k{H:Hp}{a:Addr}{kvs:List (Key×V)}{k:Key}{v:V}(e:H a=some (.dK kvs))(hl:kvs.length < bu):NB H a (kV k) v (upd H a (.dK (putK kvs k v))):=.inl ⟨kvs,k,e,rfl,hl,rfl⟩
theorem NB.t{H:Hp}{a b:Addr}{kvs:List (List Key×V)}{k:List Key}{v:V}(e:H a=some (.dT kvs))(eb:H b=some (.tup (k.map kV)))(hl:kvs.length < bu) :
  NB H a (.ref b) v (upd H a (.dT (putK kvs k v))):=.inr ⟨kvs,k,b,e,rfl,eb,hl,rfl⟩
section
variable {X:Cx} {pins:List (Addr×Obj)} {σ:St} {H:Hp} {s:az} {a:Addr} {y v:V} {u r:Value} {o:Option V} {A:du} {E:Value->az->Prop}
theorem Inv.big(I:Inv X pins σ H s):dS < s.heap.objs.size:=by
 have h:bP < s.heap.objs.size:=(I.mod.glob.keeps I.bk).lt;exact Nat.lt_trans (by decide) h
theorem xQ{Q:Value->az->Prop}(hu:A.units+1 < cLine)(I:Inv X pins σ H s)(g:yG H a y (some v))(ry:RelV y u)(h:∀ w' s',Inv X pins σ H s'->RelV v w'->Q w' s') :
  wpAny (model X.prog X.w) A (getItem (.ref a) u) Q E s:=by
 rcases g with ⟨kvs,k,e,ey,l⟩ | ⟨kvs,k,b,e,ey,eb,l⟩
 ·subst ey;obtain⟨z,hd,vs,rel,dd⟩:=tw I.cN e;obtain⟨w',hw,v3⟩:=yF.some_of (v:=v) (o:=N7 vs k) (by rw [l]; exact rel.val k);exact wpAny_getItem_of (yn ry) dd.mapOf hw (h w' _ (I.tok _) v3)
 ·subst ey;cases (show u=fi b from ry);obtain⟨z,hd,xs,rel,dd⟩:=yt I.cN e;obtain⟨w',hw,v3⟩:=yF.some_of (v:=v) (o:=(atKey xs k).map (·.2)) (by rw [l]; exact rel.val k);obtain⟨p,hp,qr⟩:=Option.map_eq_some_iff.mp hw;refine wpAny_getItem_heap (nE hu) (pF I.cN eb) dd hp ?_;rw [qr];exact h w' _ (I.tok _) v3
theorem Yc{Q:Value->az->Prop}(hu:A.units+1 < cLine)(I:Inv X pins σ H s)(g:yG H a y o)(ry:RelV y u)(h:∀ s',Inv X pins σ H s'->Q (.bool o.isSome) s') :
  wpAny (model X.prog X.w) A (fx .In u (.ref a)) Q E s:=by
 rcases g with ⟨kvs,k,e,ey,l⟩ | ⟨kvs,k,b,e,ey,eb,l⟩
 ·subst ey;obtain⟨z,hd,vs,rel,dd⟩:=tw I.cN e;refine wpAny_in_of (yn ry) hd dd.mapOf ?_;rw [<-(rel.val k).qf,<-l];exact h _ (I.tok _)
 ·subst ey;cases (show u=fi b from ry);obtain⟨z,hd,xs,rel,dd⟩:=yt I.cN e;refine wpAny_in_heap (nE hu) (pF I.cN eb) hd dd ?_;have q:=(rel.val k).qf;rw [rV] at q;rw [<-q,<-l];exact h _ (I.tok _)
theorem LG{Q:Value->az->Prop}(hu:A.units+1 < cLine)(I:Inv X pins σ H s)(g:yG H a y o)(ry:RelV y u)(h:∀ s',Inv X pins σ H s'->Q (.bool (!o.isSome)) s') :
  wpAny (model X.prog X.w) A (fx .NotIn u (.ref a)) Q E s:=by
 rcases g with ⟨kvs,k,e,ey,l⟩ | ⟨kvs,k,b,e,ey,eb,l⟩
 ·subst ey;obtain⟨z,hd,vs,rel,dd⟩:=tw I.cN e;refine wpAny_notIn_of (yn ry) hd dd.mapOf ?_;rw [<-(rel.val k).qf,<-l];exact h _ (I.tok _)
 ·subst ey;cases (show u=fi b from ry);obtain⟨z,hd,xs,rel,dd⟩:=yt I.cN e;refine wpAny_notIn_heap (nE hu) (pF I.cN eb) hd dd ?_;have q:=(rel.val k).qf;rw [rV] at q;rw [<-q,<-l];exact h _ (I.tok _)
theorem yW{h':Heap}{t':Nat}{ob:HO}(I:Inv X pins σ H s)(mu:Yv (H a))(hs:ip a s.heap h')(he:∃ q,h'.get? a=some q)(new:ig X.prog X.w (upd H a ob) h' a ob) :
  Inv X pins σ (upd H a ob) { s with heap:=h',toks:=t' } :=
 I.write (x:=a) (e:=a) mu (.inl rfl) (fun b q hb z=>(hs.2 b hb).trans z) he new
theorem xP{P:bG}{w:World}{H':Hp}{h':Heap}{kvs:List (Key×V)}{vs:List (Key×Value)}(z:kvs.length<=bu)(hd:(a == dS)=false)(rel:KV kvs vs)(dd:h'.DictOf (cx P w) a vs) :
  ig P w H' h' a (.dK kvs):=⟨z,hd,vs,rel,dd⟩
theorem Nh{H':Hp}{Q:Unit->az->Prop}(hu:A.units+1 < cLine)(I:Inv X pins σ H s)(g:NB H a y v H')(ry:RelV y u)(rv:RelV v r)(h:∀ s',Inv X pins σ H' s'->Q () s') :
  wpAny (model X.prog X.w) A (setItem (.ref a) u r) Q E s:=by
 rcases g with ⟨kvs,k,e,ey,l,eH⟩ | ⟨kvs,k,b,e,ey,eb,l,eH⟩
 ·subst ey eH;obtain⟨z,hd,vs,rel,dd⟩:=AM I.cN e;have hz:vs.length<=bu:=by rw [<-rel.length]; exact z
  have hl:(putK kvs k v).length<=bu:=by have:=ym kvs k v; lia
  refine wpAny_setItem_pairs (hsz:=hz) (yn ry) dd fun h' LF hs=>h _ ?_;have he:∃ q,h'.get? a=some q:=let ⟨q,_,_,hq,_⟩:=LF; ⟨q,hq⟩
  exact yW I (by rw [e]; exact iO) hs he (xP hl hd (rel.put k rv) LF)
 ·subst ey eH;cases (show u=fi b from ry);obtain⟨z,hd,xs,rel,dd⟩:=Ui I.cN e;have hz:xs.length<=bu:=by rw [<-lE rel]; exact z
  have hl:(putK kvs k v).length<=bu:=by have:=ym kvs k v; lia
  refine wpAny_setItem_heap (hsz:=hz) (nE hu) (pF I.cN eb) dd fun h' LF hs=>h _ ?_;obtain⟨q,es,ep,hq,h2,h3,h4,_,h5⟩:=LF;refine yW I (by rw [e]; exact iO) hs ⟨q,hq⟩ ⟨hl,hd,_,(rel.put k eb rv).keeps fun c ys ec=>?_,q,es,ep,hq,h2,h3,h4,h5⟩;rw [bK (Xg ec e (fun z=>nomatch z))];exact ec
end
section
variable {X:Cx} {pins:List (Addr×Obj)} {σ:St} {H:Hp} {s:az} {a:Addr} {kvs:List (Key×V)} {k:Key} {u:Value} {A:du} {E:Value->az->Prop}
theorem Uk {Q:Value->az->Prop} (I:Inv X pins σ H s) (e:Rd H a (.dK kvs)) (h:∀ t s',Inv X pins σ H s'->Q (.int kvs.length t) s'):wpAny (model X.prog X.w) A (call (.builtin "len") [.ref a]) Q E s:=by
 obtain⟨z,hd,vs,rel,dd⟩:=tw I.cN e;refine call_len_dict hd dd (by rw [<-rel.length]; rw [cH] at z; lia) ?_;rw [<-rel.length];exact h _ _ (I.tok _)
theorem S9{Q:Bool->az->Prop}(I:Inv X pins σ H s)(e:Rd H a (.dK kvs))(h:∀ s',Inv X pins σ H s'->Q (!kvs.isEmpty) s'):wpAny (model X.prog X.w) A (truthy (.ref a)) Q E s:=by
 obtain⟨z,hd,vs,rel,dd⟩:=tw I.cN e;refine Ii hd dd (by rw [<-rel.length]; rw [cH] at z; lia) ?_;have q:kvs.isEmpty=vs.isEmpty:=by cases rel <;> rfl
 rw [<-q];exact h _ (I.tok _)
end
theorem tx {X:Cx} {pins:List (Addr×Obj)} {σ:St} {H:Hp} {s:az} {a:Addr} {y:V} {o:Option V} (I:Inv X pins σ H s) (g:yG H a y o):s.TypeIs (.ref a) "dict":=by
 rcases g with ⟨kvs,k,e,_,_⟩ | ⟨kvs,k,b,e,_,_,_⟩
 ·obtain⟨_,_,vs,_,dd⟩:=tw I.cN e;exact dd.typeIs
 ·obtain⟨_,_,xs,_,dd⟩:=yt I.cN e;exact dd.typeIs
theorem AN {P:bG} {w:World} {H:Hp} (h:Heap) (hb:dS < h.objs.size):ig P w H (h.push { cls:=.type "dict",data:=.dict #[] }) h.objs.size (.dK []) :=
 ⟨cq _,beq_eq_false_iff_ne.mpr (dW (bc hb)),[],.nil,Ol h⟩
noncomputable def UH:TE:=fun _ H Q=>∀ p,H p=none->Q (.ref p) (upd H p (.dK []))
section
variable {X:Cx} {pos:Pos}
theorem O8:PE X (.Dict [] [] pos) UH:=fun pins s σ H Q I h =>
 wpAny_Dict_empty ⟨.ref s.heap.objs.size,_,I.laid (a:=s.heap.objs.size) (o:=.dK []) (t':=s.toks) (fun _ _ q=>aE _ q) (aF _) (AN s.heap I.big),rfl,h _ (I.cN.fresh (aF _))⟩
end
noncomputable abbrev VV:List (V×V)->List (Value×Value)->Prop:=Kz fun p q=>RelV p.1 q.1/\RelV p.2 q.2
noncomputable def zZ(kvs more:List (Key×V)):List (Key×V):=more.foldl (fun acc kv=>putK acc kv.1 kv.2) kvs
theorem KV.merge:∀ {more:List (Key×V)} {rs:List (Key×Value)} {kvs:List (Key×V)} {vs:List (Key×Value)},KV more rs->KV kvs vs->KV (zZ kvs more) (merged vs rs):=by
 intro more rs kvs vs r;unfold KV at r;induction r generalizing kvs vs with
 | nil=>intro q; exact q
 | @cons p q ps qs h t ih =>
  intro r0;have e:KV (putK kvs p.1 p.2) (Kt vs q.1 q.2):=by
   have:=r0.put p.1 h.2;rw [<-h.1]; exact this
  exact ih e
theorem vm{P:bG}{w:World}:∀ {kvs:List (Key×V)} {ws:List (Value×Value)},VV (kvs.map fun kv=>(kV kv.1,kv.2)) ws->∃ rs,Carries (cx P w) ws rs/\KV kvs rs
 | [],_,r=>by rw [aQ] at r; cases r; exact⟨[],iO,.nil⟩
 | p :: kvs,_,r=>by
  rw [av] at r;cases r with
  | @cons a b as bs h t =>
   obtain⟨rs,c,q⟩:=vm (P:=P) (w:=w) t;obtain⟨b1,b2⟩:=b;exact⟨(p.1,b2) :: rs,⟨yn h.1,rfl,c⟩,.cons ⟨rfl,h.2⟩ q⟩
structure M1(X:Cx)(o:Expr)(m:Str)(apos:Pos)(e:Expr)(lC:Pos):Prop where
 base:xr o m X.env (eval o X.env)=eval o X.env
 oG:((mJ lC (bR [e] X.env)).all (fun x=>!x.1)&&(backToKw lC (keywordEach [] X.env)).all (fun x=>x.1.isSome)
  && decide (([e]:List Expr).length+([]:List Oj).length+(if ([]:List Oj).isEmpty then 0 else 1) < 30))=true
 line:(apos.endLine == lC.line)=true
 trees:mJ lC (bR [e] X.env)=[(false,eval e X.env)]
structure M2(X:Cx)(o:Expr)(m:Str)(apos:Pos)(e f:Expr)(lC:Pos):Prop where
 base:xr o m X.env (eval o X.env)=eval o X.env
 oG:((mJ lC (bR [e,f] X.env)).all (fun x=>!x.1)&&(backToKw lC (keywordEach [] X.env)).all (fun x=>x.1.isSome)
  && decide (([e,f]:List Expr).length+([]:List Oj).length+(if ([]:List Oj).isEmpty then 0 else 1) < 30))=true
 line:(apos.endLine == lC.line)=true
 trees:mJ lC (bR [e,f] X.env)=[(false,eval e X.env),(false,eval f X.env)]
noncomputable def IsD(H:Hp)(a:Addr):Prop:=(∃ kvs,Rd H a (.dK kvs))\/∃ kvs,Rd H a (.dT kvs)
theorem PQ{X:Cx}{pins:List (Addr×Obj)}{σ:St}{H:Hp}{s:az}{a:Addr}(I:Inv X pins σ H s)(d:IsD H a) :
  s.TypeIs (.ref a) "dict"/\(∀ b,fi a=.ref b->∃ ob,s.heap.get? b=some ob/\ob.dict=none)/\(a == dS)=false:=by
 rcases d with ⟨kvs,e⟩ | ⟨kvs,e⟩
 ·obtain⟨_,hd,vs,_,dd⟩:=tw I.cN e;refine⟨dd.typeIs,fun b q=>?_,hd⟩;cases q;obtain⟨ob,_,_,h1,h2,_⟩:=dd;exact⟨ob,h1,h2.2.1⟩
 ·obtain⟨_,hd,xs,_,dd⟩:=yt I.cN e;refine⟨dd.typeIs,fun b q=>?_,hd⟩;cases q;obtain⟨ob,_,_,h1,h2,_⟩:=dd;exact⟨ob,h1,h2.2.1⟩
section
variable {X:Cx} {pins:List (Addr×Obj)} {σ:St} {H:Hp} {s:az} {a:Addr} {y d:V} {u r:Value} {o:Option V} {A:du} {E:Value->az->Prop}
theorem VQ{Q:Value->az->Prop}(hu:A.units+1 < cLine)(I:Inv X pins σ H s)(g:yG H a y o)(ry:RelV y u)(rd:RelV d r)(h:∀ w' s',Inv X pins σ H s'->RelV (o.getD d) w'->Q w' s') :
  wpAny (model X.prog X.w) A (call (.builtin "dict.get") [.ref a,u,r]) Q E s:=by
 rcases g with ⟨kvs,k,e,ey,l⟩ | ⟨kvs,k,b,e,ey,eb,l⟩
 ·subst ey;obtain⟨z,hd,vs,rel,dd⟩:=tw I.cN e;refine zg fg dd.typeIs ux (si _ _ _) (meets_dict_get_default (cx X.prog X.w) a (yn ry) hd r) ⟨_,dd.mapOf,h _ _ (I.tok _) ?_⟩;rw [l];exact(rel.val k).getD rd
 ·subst ey;cases (show u=fi b from ry);obtain⟨z,hd,xs,rel,dd⟩:=yt I.cN e;refine zg fg dd.typeIs ux (si _ _ _) (meetsH_dict_get_default (rX (cx X.prog X.w)) a b hd r) ⟨nE hu,k,xs,pF I.cN eb,dd,h _ _ (I.tok _) ?_⟩;rw [l];exact(rel.val k).getD rd
end
end L2
namespace Att
open PySem PySem.W PySem.Calls PyProof.Rows
theorem yB{P:Params}{h:Heap}:∀ (ns:List Int) (vs:List Value),WellAll P h vs (ns.map WData.int)->nG vs ns:=by
 intro ns;induction ns with
 | nil =>
  intro vs w;rw [aQ] at w;cases w;exact .nil
 | cons n ns ih =>
  intro vs w;rw [av] at w;cases w with
  | cons a b =>
   cases a;exact .cons _ _ (ih _ b)
theorem Mf{l:OpenLaw}{n:Nat}(hn:l.most=some n){P:Params}{h:Heap}{args:List WData}{vals:List Value}
  (Av:l.row.toRowW.claim.pre args=true) (hwl:WellAll P h vals args) :
  ∃ a vs ns,vals=[fi a]/\args=[WData.list (ns.map WData.int)]/\h.get? a=some { cls:=.type "list",data:=.seq vs.toArray }/\nG vs ns/\ns.length<=n:=by
 have hsh:WShape.hasAll [] args [.list .int]=true:=(pre_splitW Av).1;have hc:l.pre.holds [] { args:=args } = true:=(pre_splitW Av).2;obtain⟨d,r,rfl,h1,h2⟩:=hasAllW_cons hsh;obtain rfl:=hasAllW_nil h2;obtain⟨xs,rfl,h3⟩:=hasW_list h1;obtain⟨ns,rfl⟩:=items_int h3;have hlen:ns.length<=n:=by
  unfold OpenLaw.pre at hc;have h4:(WTm.not (.lt (.lit (.int (n:Int))) (.len (.arg 0)))).holds [] { args:=[.list (ns.map .int)] } = true:=by
   have h4:=(holds_andW hc).1;rw [hn] at h4;exact h4
  have h5:=condW_of h4 (w_not (w_lt w_lit (w_len_list (w_arg rfl))));rw [ao] at h5;refine Nat.le_of_not_lt fun q=>?_;have q':(n:Int) < ((ns.length:Nat):Int):=by lia
  first
   | (rw [decide_eq_true q'] at h5; exact absurd h5 (by decide))
   | (simp at h5; lia)
 cases hwl with
 | cons w1 w2 =>
  cases w2;cases w1 with
  | list ho nY=>exact⟨_,_,ns,rfl,rfl,ho,yB ns _ nY,hlen⟩
theorem Mr(l:OpenLaw)(args:List WData):l.row.toRowW.claim.post args (.bool true) args=true :=
 postW_of (r:=l.row.toRowW) (X:=(true == true))
  (show WShape.has [] (.bool true) .bool=true by first | rfl | decide | simp [WShape.has,WShape.arms,WShape.armsAll])
  (show (WTm.eq .res (.lit (.bool true))).value [] { args:=args,res:=some (.bool true),after:=args } = some (.bool (true == true)) from w_eq_bool (w_res rfl) w_lit) rfl
theorem Ht{l:OpenLaw}{n:Nat}{q:bG}{loose:List Str}{XP:(Str->Option Value)->Heap->Prop}{YP:World->Heap->Prop}{d:DefRec}
  (hn:l.most=some n) (XR:d.params.defaults=[])
  (call:∀ (w:World) (oD fM:az) (mg mb:Str->Option Value) (fa:Addr) (o:Obj) (pm cd doc:Value) (a:Addr) (vs:List Value) (ns:List Int),
   Ground q loose [] XP w oD mg mb fM.heap->YP w fM.heap ->
   fM.heap.get? fa=some o->o.data=.func (docDef d.name d.params d.body d.scope pm cd doc)->fM.heap.CodeRec cd d.name->mg d.name=some (.ref fa) ->
   fM.heap.get? a=some { cls:=.type "list",data:=.seq vs.toArray }->nG vs ns->ns.length<=n->fM.gens=#[] ->
   sd (model l.prog w) Ip (.call (.ref fa) ⟨[.ref a],[]⟩) (fun r s'=>r=.ok (.ret (.bool true))/\OldK fM.heap s'.heap/\s'.os=fM.os/\C3 s'.gens) fM) :
  WalkO q loose XP YP l.row.toRowW d [] (fun f vs=>Kv f vs):=by
 intro w oD fM mg mb G Y fa o pm cd doc dV kV ho hd Ls hD Vv hg args vals as Av afk hrd hwl hlo;obtain rfl:dV=.none:=Dflts.none hD XR;obtain rfl:kV=.none:=Dflts.noKw hD;obtain⟨a,vs,ns,rfl,rfl,Vu,hints,hlen⟩:=Mf hn Av hwl;refine enter_call (zf (call w oD fM mg mb fa o pm cd doc a vs ns G Y ho (fd_plain hd) Ls Vv Vu hints hlen hg) fun r s' hq=>?_);obtain⟨rfl,h2,h3,h4⟩:=hq;exact⟨.inl ⟨.bool true,.bool true,[],rfl,fun _=>rfl,.bool true,Mr l _,fun _=>⟨List.Pairwise.nil,fun _ hm=>(nomatch hm)⟩⟩,h2,h3,h4⟩
end Att
namespace L2
open PySem PySem.Spec PyProof.Rows
theorem B3:∀ {vs:List Value} {ns:List Int},nG vs ns->Vals (ns.map V.int) vs
 | _,_,.nil=>.nil
 | _,_,.cons n t h=>.cons ⟨t,rfl⟩ (B3 h)
noncomputable def TB(H:Hp):Prop:=∀ b,H b=none\/∃ o xs,H b=some (.mC o (.lst xs))
theorem PD{P:bG}{w:World}{K:aq}{mg mb:Str->Option Value}{CX:NC}{k:Nat}{fa a:Addr}{fd:aH}{x:Str}{sp:Sp}{fM:az}{vs:List Value}{ns:List Int}
  (KX:K.In fM.heap) (Ry:fM.heap.Ns bP mg) (hb:fM.heap.Ns builtinsNs mb) (hbb:∀ x:Str,x≠"__name__"->mb x=eE x) (abl:fM.heap.NoLimit) (hg:fM.gens=#[])
  (ha:fM.heap.get? a=some { cls:=.type "list",data:=.seq vs.toArray }) (hi:nG vs ns) (hl:ns.length<=bu) (hr:nv k Ip)
  (F:∀ base:Heap,K.In base->base.Ns bP mg->fK P w K mg base CX k fa fd [x] sp) (XU:∀ (s:az) (u:Value),Om s fd ⟨[u],[]⟩ [(x,u)])
  (Rv:∀ H:Hp,TB H->rH K H a (ns.map V.int)->sp [.ref a] H (fun v _=>v=.bl true) fun _ _ _=>False)
  (hCX:∀ H e s',CX [] H fM (fun _ _ _=>False) e s'->False) :
  sd (model P w) Ip (.call (.ref fa) ⟨[.ref a],[]⟩) (fun r s'=>r=.ok (.ret (.bool true))/\OldK fM.heap s'.heap/\s'.os=fM.os/\C3 s'.gens) fM:=by
 have rv:=B3 hi;have aaO:=hi.length;have core:∀ H:Hp,TB H->rH K H a (ns.map V.int)->vD P w H fM.heap->(∀ b,H b≠none->b=a)->(H a≠none->K.lookup a=none) ->
   sd (model P w) Ip (.call (.ref fa) ⟨[.ref a],[]⟩) (fun r s'=>r=.ok (.ret (.bool true))/\OldK fM.heap s'.heap/\s'.os=fM.os/\C3 s'.gens) fM:=by
  intro H hO hS cN hA hK;have LM:∀ {b:Addr} {o:Obj},fM.heap.get? b=some o->H b=none->(DV fM.heap H).get? b=some o:=fun e n=>P7 e n;have Xe:∀ {b:Addr} {o:Obj} {es:Array hU} {ep:Nat},fM.heap.get? b=some o->o.data=.dict es ep->H b=none:=fun {b o es ep} e d=>by
   cases q:H b with
   | none=>rfl
   | some u =>
    have e':b=a:=hA b (by rw [q]; simp);subst e';rw [ha] at e; cases e;have d':Data.seq vs.toArray _=Data.dict es ep:=d;cases d'
  have YK:∀ {b:Addr} {m:Str->Option Value},fM.heap.Ns b m->(DV fM.heap H).Ns b m:=fun {b m} ⟨o,es,ep,e,d,r⟩=>⟨o,es,ep,LM e (Xe e d),d,r⟩;have hKb:K.In (DV fM.heap H):=fun b o e=>LM (KX b o e) (by
   cases q:H b with
   | none=>rfl
   | some u =>
    have e':b=a:=hA b (by rw [q]; simp);subst e';rw [hK (by rw [q]; simp)] at e; cases e)
  have hM:Mod K mg (DV fM.heap H):=⟨hKb,YK Ry,⟨mb,YK hb,hbb⟩,let ⟨mc,h1,h2⟩:=abl; ⟨mc,YK h1,h2⟩⟩;have e0:TF P w K mg (DV fM.heap H) Ip [] fM H:=⟨rfl,hM,fun b o e=>Sy e,Nat.le_of_eq (MY _ _),trivial,fun b hb=>absurd (show b∈([]:List Addr) from hb) (by simp),cN,.of_eq hg⟩;refine zf ((F _ hKb (YK Ry)).run Ip [] fM H ⟨[.ref a],[]⟩ [.ref a] [.ref a] _ _ hr e0 (XU fM (.ref a)) (.cons rfl .nil) (Rv H hO hS)) fun r s' h=>?_;cases r with
  | error e=>exact(hCX H e s' h).elim
  | ok fl =>
   cases fl with
   | next=>exact bY h
   | brk=>exact bY h
   | cont=>exact bY h
   | ret u =>
    obtain⟨v,H',os,bare,un,abf,r',q⟩:=h;have q':v=.bl true:=q;subst q';obtain rfl:u=Value.bool true:=r';refine⟨rfl,OldK.of_keep fun b o e=>?_,os,bare⟩;cases q:H b with
    | none=>exact un.keep b o e q (by intro z; exact absurd (show b∈([]:List Addr) from z) (by simp)) (by simp)
    | some u =>
     rcases hO b with z | ⟨ob,xs,z⟩
     ·rw [q] at z; cases z
     ·have z2:=un.wO b ob _ z;obtain⟨e1,_⟩:=cN b _ z;obtain⟨e2,_⟩:=abf b _ z2;rw [e] at e1; cases e1;exact e2
 cases hk:K.lookup a with
 | some o =>
  have e:=KX a o hk;rw [ha] at e;cases e;refine core (fun _=>none) (fun _=>.inl rfl) (.inr ⟨_,vs.toArray,_,hk,rfl,rfl,rfl,by rw [aY,aaO]; exact hl,by simpa using rv⟩) (fun b u z=>by have z':(none:Option HO)=some u:=z; cases z') (fun b z=>absurd rfl z) fun z=>absurd rfl z
 | none =>
  refine core (fun b=>if b=a then some (.mC { cls:=.type "list",data:=.seq vs.toArray } (.lst (ns.map V.int))) else none) (fun b=>?_) (.inl (.inr ⟨{ cls:=.type "list",data:=.seq vs.toArray },if_pos rfl⟩)) (fun b u z=>?_) (fun b z=>?_) fun _=>hk
  ·by_cases hb:b=a
   ·exact .inr ⟨_,_,if_pos hb⟩
   ·exact .inl (if_neg hb)
  ·by_cases hb:b=a
   ·have z':=(if_pos hb).symm.trans z;cases z';subst hb;exact⟨ha,by rw [ao]; exact hl,vs,_,rv,ha⟩
   ·have z':=(if_neg hb).symm.trans z;cases z'
  ·by_cases hb:b=a
   ·exact hb
   ·exact absurd (if_neg hb) z
theorem RT{l:C0}{n k:Nat}{q:bG}{loose:List Str}{XP:(Str->Option Value)->Heap->Prop}{YP:World->Heap->Prop}{d:DefRec}{K:Params->aq}{CX:World->NC}{sp:World->Sp}{x:Str}
  (hn:l.most=some n) (hn2:n<=bu) (XR:d.params.defaults=[]) (hr:nv k Ip)
  (hY:∀ (w:World) (h:Heap),YP w h->(K w.params).In h)
  (F:∀ (w:World) (mg:Str->Option Value) (fa:Addr) (h:Heap),(K w.params).In h->h.Ns bP mg->mg d.name=some (.ref fa) ->
   ∃ fd:aH,(∀ (s:az) (u:Value),Om s fd ⟨[u],[]⟩ [(x,u)]) /\
    ∀ base:Heap,(K w.params).In base->base.Ns bP mg->fK l.prog w (K w.params) mg base (CX w) k fa fd [x] (sp w))
  (Rv:∀ (w:World) (H:Hp) (a:Addr) (ns:List Int),ns.length<=n->TB H->rH (K w.params) H a (ns.map V.int)->sp w [.ref a] H (fun v _=>v=.bl true) fun _ _ _=>False)
  (hCX:∀ (w:World) (H:Hp) (s:az) (e:Value) (s':az),CX w [] H s (fun _ _ _=>False) e s'->False) :
  PySem.W.WalkO q loose XP YP l.row.toRowW d [] (fun f vs=>Kv f vs):=by
 refine Att.Ht hn XR fun w oD fM mg mb fa o pm cd doc a vs ns G Y ho hd Ls Vv Vu hints hlen hg=>?_;have KX:=hY w _ Y;obtain⟨fd,hb,hF⟩:=F w mg fa _ KX G.T.g Vv;exact PD KX G.T.g G.T.b G.T.builtins G.T.nolimit hg Vu hints (a9 hlen hn2) hr hF hb (fun H hO hS=>Rv w H a ns hlen hO hS) fun H e s'=>hCX w H fM e s'
end L2
/- THE ahK Y8 (shape; LID,My.* are aca):
   My.Adr: a structure of ZN addresses ad1 adW acH names (classes,Wv); My.Txt K t: a structure (Prop) of ZN equations over K;
   My.ZM:{K} {implicit addresses ..} (e1:nsIn K bP "law" = some (some (.ref f))) (e2:K.lookup f=some ⟨oc,od,.func (fnOf "law" "law" params body scope dV kV doc pm an qk ct),sl⟩) (e3:codeIn K qk "law" = true) ..:∃ t,My.Txt K t
(ZN tactic k_is has no namespace: write k_is) -/
namespace L2
open PySem PySem.Spec PyProof.Rows
noncomputable def oZ(s:Stmt):Arguments:=match s with
 | .FunctionDef _ a _ _ _ _ _ _ _ _=>a
 | _=>{ posonlyargs:=[],args:=[],vararg:=none,kwonlyargs:=[],kw_defaults:=[],kwarg:=none,defaults:=[] }
noncomputable def kJ(s:Stmt):List Stmt:=match s with
 | .FunctionDef _ _ b _ _ _ _ _ _ _=>b
 | _=>[]
noncomputable def a0(s:Stmt):Scope:=match s with
 | .FunctionDef _ _ _ _ _ _ sc _ _ _=>sc
 | _=>{ kind:=.function,names:=[],isGenerator:=false,isCoroutine:=false }
noncomputable abbrev gu:NC:=fun _ _ _ _ _ _=>False
noncomputable abbrev E0:XK:=fun _ _ _=>False
theorem TZ{X:Cx}:Passes gu X E0:=fun _ _ _ _ _ _ _ h=>h.elim
structure nB(K:aq)(x qual:Str)(st:Stmt)(f:Addr)(fd:aH):Prop where
 ex:∃ (oc:Value) (od:Option Addr) (kV doc pm:Value) (an:Option Addr) (qk ct:Value) (Pg:Array (Option Value)),
  fd=kM x qual (oZ st) (kJ st) (a0 st) .none kV doc pm an qk ct/\K.lookup f=some ⟨oc,od,.func fd,Pg⟩/\E2 K qk qual=true
 kp:kg K (.ref f)=true
section
variable {P:bG} {w:World} {K:aq} {mg:Str->Option Value} {base:Heap}
theorem nB.ok{x qual:Str}{st:Stmt}{f:Addr}{fd:aH}{N ps:List Str}{k:Nat}{sp:Sp}(F:nB K x qual st f fd)(S:bU N ps (a0 st))(len:∀ vs H Q E,sp vs H Q E->vs.length=ps.length)
  (Qd:∀ (qk:Value) (A:du) (outer:List Env) (s:az) (H:Hp) (vs:List V) (Q:VK) (E:XK),nv k (A.deeper (EZ qual (a0 st) s.heap.objs.size f qk))->sp vs H Q E ->
   ∃ t,Wz (Hm gu P w K mg base N qual (a0 st) f qk A outer s H E).Wh (kJ st) t/\t { nx:=fun _ H'=>Q .fh H',rt:=Q } (start N vs) H):fK P w K mg base gu (k+1) f fd ps sp:=by
 obtain⟨oc,od,kV,doc,pm,an,qk,ct,Pg,rfl,lk,Ls⟩:=F.ex;refine X4 lk Ls S len fun A outer s H vs Q E hr Rv=>?_;obtain⟨t,h,q⟩:=Qd qk A outer s H vs Q E hr Rv;exact⟨t,h.Wh,q⟩
theorem nB.binds{x qual:Str}{st:Stmt}{f:Addr}{fd:aH}{ps:List Str}(F:nB K x qual st f fd)
  (h:∀ (kV doc pm:Value) (an:Option Addr) (qk ct:Value) (us:List Value),us.length=ps.length->bindArgs (kM x qual (oZ st) (kJ st) (a0 st) .none kV doc pm an qk ct) ⟨us,[]⟩=pure (ps.zip us)):Binds K fd ps []:=by
 obtain⟨oc,od,kV,doc,pm,an,qk,ct,Pg,rfl,lk,Ls⟩:=F.ex;exact .all (h kV doc pm an qk ct)
theorem VL{x qual:Str}{st:Stmt}{f:Addr}{oc:Value}{od an:Option Addr}{Pg:Array (Option Value)}{kV doc pm qk ct:Value}(l:K.lookup f=some ⟨oc,od,.func (kM x qual (oZ st) (kJ st) (a0 st) .none kV doc pm an qk ct),Pg⟩)
  (c:E2 K qk qual=true) (k:kg K (.ref f)=true):nB K x qual st f (kM x qual (oZ st) (kJ st) (a0 st) .none kV doc pm an qk ct):=⟨⟨oc,od,kV,doc,pm,an,qk,ct,Pg,rfl,l,c⟩,k⟩
end
end L2
set_option autoImplicit false
section
namespace K2
open PySem (Str)
inductive D where
 | fh | bl (b:Bool) | int (i:Int) | str (x:Str) | tup (ds:List D) | ez (ds:List D) | gZ (kvs:List (D×D)) | ref (a:Nat) | exc (c:Str)
 deriving Inhabited
inductive GO where
 | lst (ds:List D)
 | dI (kvs:List (D×D))
noncomputable abbrev Gp:=Nat->Option GO
noncomputable def c7(G:Gp)(a:Nat)(o:GO):Gp:=fun b=>if b=a then some o else G b
theorem aA{G:Gp}{a:Nat}{o:GO}:c7 G a o a=some o:=by unfold c7; rw [if_pos rfl]
theorem c6{G:Gp}{a b:Nat}{o:GO}(h:b≠a):c7 G a o b=G b:=by unfold c7; rw [if_neg h]
noncomputable abbrev SZ:Nat:=16777216
structure Ex where
 cls:Str
 af4:List (Str×D)
noncomputable abbrev mO:=Ex->Gp->Prop
noncomputable abbrev iX:=List (Option D)
noncomputable abbrev DK:=D->Gp->Prop
noncomputable abbrev gG:=mO->iX->Gp->DK->Prop
noncomputable abbrev yv:=mO->iX->Gp->(Bool->Gp->Prop)->Prop
noncomputable abbrev EW:=mO->iX->Gp->(List D->Gp->Prop)->Prop
structure mP where
 nx:iX->Gp->Prop
 rt:DK
 bk:iX->Gp->Prop
 ct:iX->Gp->Prop
noncomputable abbrev ie:=mO->mP->iX->Gp->Prop
noncomputable abbrev kN:=List D->Gp->DK->mO->Prop
noncomputable abbrev BR:=D->D->Gp->DK->Prop
noncomputable def Ju(n:Nat)(i:Int):Option Nat:=if 0<=i then (if i < n then some i.toNat else none) else if -(n:Int)<=i then some (i+n).toNat else none
noncomputable def vC{α:Type}(xs:List α)(i:Int):Option α:=(Ju xs.length i).bind fun j=>xs[j]?
noncomputable def jZ(n d:Nat):Option Int->Nat
 | none=>d
 | some v=>if v < 0 then (v+(n:Int)).toNat else min v.toNat n
noncomputable def cut{α:Type}(xs:List α)(lo hi:Option Int):List α:=(xs.drop (jZ xs.length 0 lo)).take (jZ xs.length xs.length hi - jZ xs.length 0 lo)
mutual
noncomputable def i5:D->D->Bool
 | .fh,.fh=>true
 | .bl a,.bl b=>a == b
 | .bl a,.int b=>(if a then 1 else 0) == b
 | .int a,.bl b=>a == (if b then 1 else 0)
 | .int a,.int b=>a == b
 | .str a,.str b=>a == b
 | .tup a,.tup b=>me a b
 | .ez a,.ez b=>me a b
 | _,_=>false
noncomputable def me:List D->List D->Bool
 | [],[]=>true
 | a :: r,b :: t=>i5 a b&&me r t
 | _,_=>false
end
mutual
noncomputable def nr:D->Bool
 | .ref _=>false
 | .exc _=>false
 | .gZ _=>false
 | .str x=>x.cps.all (· < 0x110000)
 | .tup ds=>sV ds
 | .ez ds=>sV ds
 | _=>true
noncomputable def sV:List D->Bool
 | []=>true
 | d :: r=>nr d&&sV r
end
class inductive Sn (G:Gp):Nat->D->D->Prop
 | fh {n:Nat}:Sn G n .fh .fh
 | bl {n:Nat} (b:Bool):Sn G n (.bl b) (.bl b)
 | int {n:Nat} (i:Int):Sn G n (.int i) (.int i)
 | str {n:Nat} (x:Str) (h:x.cps.all (· < 0x110000)=true):Sn G n (.str x) (.str x)
 | IH {n:Nat}:Sn G (n+1) (.tup []) (.tup [])
 | sx {n:Nat} {d s:D} {ds ss:List D}:Sn G n d s->Sn G (n+1) (.tup ds) (.tup ss)->Sn G (n+1) (.tup (d :: ds)) (.tup (s :: ss))
 | IS {n:Nat}:Sn G (n+1) (.ez []) (.ez [])
 | Cc {n:Nat} {d s:D} {ds ss:List D}:Sn G n d s->Sn G (n+1) (.ez ds) (.ez ss)->Sn G (n+1) (.ez (d :: ds)) (.ez (s :: ss))
 | ref {n:Nat} {a:Nat} {ds ss:List D}:G a=some (.lst ds)->Sn G n (.ez ds) (.ez ss)->Sn G n (.ref a) (.ez ss)
noncomputable abbrev SN:Nat:=8
theorem Sn.nr{G:Gp}{n:Nat}{d t:D}(h:Sn G n d t):K2.nr t=true:=by
 induction h with
 | fh=>rfl
 | bl b=>rfl
 | int i=>rfl
 | str x h=>exact h
 | IH=>rfl
 | sx _ _ PV PU =>
  show (K2.nr _&&K2.sV _)=true;rw [PV];exact PU
 | IS=>rfl
 | Cc _ _ PV PU =>
  show (K2.nr _&&K2.sV _)=true;rw [PV];exact PU
 | ref _ _ ih=>exact ih
noncomputable def dU:D->Bool
 | .int _=>true
 | .str _=>true
 | _=>false
noncomputable def L9:D->Gp->Option Bool
 | .fh,_=>some false
 | .bl b,_=>some b
 | .int i,_=>some (i != 0)
 | .str x,_=>if x.length<=SZ then some ((x.length:Int) != 0) else none
 | .tup ds,_=>some (!ds.isEmpty)
 | .ez ds,_=>some (!ds.isEmpty)
 | .exc _,_=>none
 | .gZ kvs,_=>if (kvs.all fun p=>dU p.1)=true then some (!kvs.isEmpty) else none
 | .ref a,G=>match G a with
  | some (.lst ds)=>some (!ds.isEmpty)
  | some (.dI kvs)=>if (kvs.all fun p=>dU p.1)=true then some (!kvs.isEmpty) else none
  | none=>none
noncomputable def au(i:Nat):gG:=fun _ τ G Q=>match τ[i]? with
 | some (some d)=>Q d G
 | _=>False
noncomputable def dC(d:D):gG:=fun _ _ G Q=>Q d G
noncomputable def aX:EW:=fun _ _ G Q=>Q [] G
noncomputable def ay(a:gG)(r:EW):EW:=fun E τ G Q=>a E τ G fun x G1=>r E τ G1 fun xs G2=>Q (x :: xs) G2
noncomputable def gv(t:EW):gG:=fun E τ G Q=>t E τ G fun ds G1=>ds.length<=SZ/\Q (.tup ds) G1
noncomputable def gF(t:EW):gG:=fun E τ G Q=>t E τ G fun ds G1=>ds.length<=SZ/\∀ p,G1 p=none->Q (.ref p) (c7 G1 p (.lst ds))
noncomputable def bo(r:BR)(a b:gG):gG:=fun E τ G Q=>a E τ G fun x G1=>b E τ G1 fun y G2=>r x y G2 Q
noncomputable def Ih(r:D->Gp->DK->Prop)(a:gG):gG:=fun E τ G Q=>a E τ G fun x G1=>r x G1 Q
noncomputable def gx(G:Gp)(o:GO)(Q:DK):Prop:=∀ p,G p=none->Q (.ref p) (c7 G p o)
noncomputable def MulOk(i j:Int):Prop:=(-(2 ^ 64) < i/\i < 2 ^ 64)\/(-(2 ^ 64) < j/\j < 2 ^ 64)
noncomputable def ma:D->Gp->Option (List D)
 | .ez ds,_=>some ds
 | .ref a,G=>match G a with
  | some (.lst ds)=>some ds
  | _=>none
 | _,_=>none
noncomputable def Ke(x y:D)(G:Gp)(Q:DK):Prop:=match ma x G,ma y G with
 | some xs,some ys=>xs.length+ys.length<=SZ/\gx G (.lst (xs++ys)) Q
 | _,_=>False
noncomputable def iH:BR
 | .int i,.int j,G,Q=>Q (.int (i+j)) G
 | .str a,.str b,G,Q=>a.length+b.length<=SZ/\Q (.str (a++b)) G
 | .tup a,.tup b,G,Q=>a≠[]/\a.length+b.length<=SZ/\Q (.tup (a++b)) G
 | x,y,G,Q=>Ke x y G Q
noncomputable def IT:BR
 | .int i,.int j,G,Q=>Q (.int (i - j)) G
 | _,_,_,_=>False
noncomputable def zO:BR
 | .int i,.int j,G,Q=>MulOk i j/\Q (.int (i * j)) G
 | _,_,_,_=>False
noncomputable def zP:BR
 | .int i,.int j,G,Q=>0 < j/\Q (.int (i % j)) G
 | _,_,_,_=>False
noncomputable def WY:BR
 | .int i,.int j,G,Q=>0 < j/\j < 2 ^ 30/\Q (.int (i / j)) G
 | _,_,_,_=>False
noncomputable def Ds:D->Gp->DK->Prop
 | .int i,G,Q=>Q (.int (-i)) G
 | _,_,_=>False
noncomputable def FI(neg:Bool):BR:=fun x y G Q=>∃ a b,Sn G SN x a/\Sn G SN y b/\Q (.bl (if neg then !i5 a b else i5 a b)) G
noncomputable def lexLt:List Int->List Int->Bool
 | [],[]=>false
 | [],_ :: _=>true
 | _ :: _,[]=>false
 | x :: xs,y :: ys=>if x=y then lexLt xs ys else decide (x < y)
noncomputable def Z2:BR
 | .int i,.int j,G,Q=>Q (.bl (decide (i < j))) G
 | .tup a,.tup b,G,Q=>∃ xs ys,a=xs.map D.int/\b=ys.map D.int/\Q (.bl (lexLt xs ys)) G
 | _,_,_,_=>False
noncomputable def rLe:BR
 | .int i,.int j,G,Q=>Q (.bl (decide (i<=j))) G
 | _,_,_,_=>False
noncomputable def rGt:BR
 | .int i,.int j,G,Q=>Q (.bl (decide (i > j))) G
 | _,_,_,_=>False
noncomputable def rGe:BR
 | .int i,.int j,G,Q=>Q (.bl (decide (i>=j))) G
 | _,_,_,_=>False
noncomputable def itemsOf:D->Gp->Option (List D)
 | .tup ds,_=>some ds
 | .ez ds,_=>some ds
 | .ref a,G=>match G a with
  | some (.lst ds)=>some ds
  | _=>none
 | _,_=>none
noncomputable def mH:D->Bool
 | .tup ds=>ds.all dU
 | _=>false
noncomputable def h8(kvs:List (D×D))(k:D):Bool:=(dU k&&kvs.all fun p=>dU p.1)||(mH k&&kvs.all fun p=>mH p.1)
noncomputable def look(kvs:List (D×D))(k:D):Option D:=(kvs.find? fun p=>i5 p.1 k).map (·.2)
noncomputable def put(kvs:List (D×D))(k v:D):List (D×D) :=
 if (kvs.any fun p=>i5 p.1 k)=true then kvs.map (fun p=>if i5 p.1 k=true then (p.1,v) else p) else kvs++[(k,v)]
noncomputable def NN(neg:Bool):BR:=fun x y G Q=>match y with
 | .ref a=>(match G a with
  | some (.dI kvs)=>h8 kvs x=true/\Q (.bl (if neg then !(look kvs x).isSome else (look kvs x).isSome)) G
  | some (.lst ds)=>∃ s ss,Sn G SN x s/\Sn G SN (.ez ds) (.ez ss)/\Q (.bl (if neg then !ss.any (i5 · s) else ss.any (i5 · s))) G
  | none=>False)
 | .gZ kvs=>kvs≠[]/\h8 kvs x=true/\Q (.bl (if neg then !(look kvs x).isSome else (look kvs x).isSome)) G
 | .tup ds=>∃ s ss,Sn G SN x s/\Sn G SN (.ez ds) (.ez ss)/\Q (.bl (if neg then !ss.any (i5 · s) else ss.any (i5 · s))) G
 | .ez ds=>∃ s ss,Sn G SN x s/\Sn G SN (.ez ds) (.ez ss)/\Q (.bl (if neg then !ss.any (i5 · s) else ss.any (i5 · s))) G
 | _=>False
noncomputable def jm:BR
 | .tup ds,.int i,G,Q=>(match vC ds i with
  | some d=>Q d G
  | none=>False)
 | .ez ds,.int i,G,Q=>(match vC ds i with
  | some d=>Q d G
  | none=>False)
 | .gZ kvs,k,G,Q=>h8 kvs k=true/\(match look kvs k with
  | some d=>Q d G
  | none=>False)
 | .ref a,k,G,Q=>(match G a with
  | some (.lst ds)=>(match k with
   | .int i=>(match vC ds i with
    | some d=>Q d G
    | none=>False)
   | _=>False)
  | some (.dI kvs)=>h8 kvs k=true/\(match look kvs k with
   | some d=>Q d G
   | none=>False)
  | none=>False)
 | _,_,_,_=>False
noncomputable abbrev Yr:=mO->iX->Gp->(Option Int->Gp->Prop)->Prop
noncomputable def fZ:Yr:=fun _ _ G Q=>Q none G
noncomputable def rG(t:gG):Yr:=fun E τ G Q=>t E τ G fun x G1=>match x with
 | .int i=>Q (some i) G1
 | _=>False
noncomputable def UZ:D->Option Int->Option Int->Gp->DK->Prop
 | .tup ds,lo,hi,G,Q=>¬ (jZ ds.length 0 lo=0/\jZ ds.length ds.length hi=ds.length)/\Q (.tup (cut ds lo hi)) G
 | .ez ds,lo,hi,G,Q=>gx G (.lst (cut ds lo hi)) Q
 | .ref a,lo,hi,G,Q=>(match G a with
  | some (.lst ds)=>gx G (.lst (cut ds lo hi)) Q
  | _=>False)
 | _,_,_,_,_=>False
noncomputable def BN(a:gG)(lo hi:Yr):gG:=fun E τ G Q=>a E τ G fun x G1=>lo E τ G1 fun l G2=>hi E τ G2 fun h G3=>UZ x l h G3 Q
noncomputable def ml(a:gG):yv:=fun E τ G Q=>a E τ G fun x G1=>match L9 x G1 with
 | some b=>Q b G1
 | none=>False
noncomputable def QJ(a b:yv):yv:=fun E τ G Q=>a E τ G fun c G1=>if c=true then b E τ G1 Q else Q false G1
noncomputable def RA(a b:yv):yv:=fun E τ G Q=>a E τ G fun c G1=>if c=true then Q true G1 else b E τ G1 Q
noncomputable def wY(a:yv):yv:=fun E τ G Q=>a E τ G fun c G1=>Q (!c) G1
noncomputable def CL(a b:gG):gG:=fun E τ G Q=>a E τ G fun x G1=>match L9 x G1 with
 | some true=>b E τ G1 Q
 | some false=>Q x G1
 | none=>False
noncomputable def Yd(a b:gG):gG:=fun E τ G Q=>a E τ G fun x G1=>match L9 x G1 with
 | some true=>Q x G1
 | some false=>b E τ G1 Q
 | none=>False
noncomputable def QE(a:gG):gG:=fun E τ G Q=>a E τ G fun x G1=>match L9 x G1 with
 | some c=>Q (.bl (!c)) G1
 | none=>False
noncomputable def Ye(c:yv)(a b:gG):gG:=fun E τ G Q=>c E τ G fun k G1=>if k=true then a E τ G1 Q else b E τ G1 Q
noncomputable def bB(sp:kN)(t:EW):gG:=fun E τ G Q=>t E τ G fun ds G1=>sp ds G1 Q fun _ _=>False
noncomputable def qW(r:List D->Gp->DK->Prop)(t:EW):gG:=fun E τ G Q=>t E τ G fun ds G1=>r ds G1 Q
noncomputable def C8(x:D)(G:Gp):Prop:=match x with
 | .ref a=>(match G a with
  | some (.lst _)=>True
  | _=>False)
 | .ez _=>True
 | _=>False
noncomputable def Ow(x:D)(G:Gp):Prop:=match x with
 | .gZ _=>True
 | .ref a=>(match G a with
  | some (.dI _)=>True
  | _=>False)
 | _=>False
noncomputable def tyS(x:D)(_:Gp):Prop:=match x with
 | .str _=>True
 | _=>False
noncomputable def vB(ty:D->Gp->Prop)(r:D->List D->Gp->DK->Prop)(o:gG)(t:EW):gG:=fun E τ G Q=>o E τ G fun x G1=>ty x G1/\t E τ G1 fun ds G2=>r x ds G2 Q
noncomputable def lenOf:D->Gp->Option Nat
 | .tup ds,_=>some ds.length
 | .ez ds,_=>some ds.length
 | .str x,_=>if x.length<=SZ then some x.length else none
 | .gZ kvs,_=>if (kvs.all fun p=>dU p.1)=true then some kvs.length else none
 | .ref a,G=>match G a with
  | some (.lst ds)=>some ds.length
  | some (.dI kvs)=>if (kvs.all fun p=>dU p.1)=true then some kvs.length else none
  | none=>none
 | _,_=>none
noncomputable def AW(ds:List D)(G:Gp)(Q:DK):Prop:=match ds with
 | [x]=>(match lenOf x G with
  | some n=>Q (.int (n:Int)) G
  | none=>False)
 | _=>False
noncomputable def AV(ds:List D)(G:Gp)(Q:DK):Prop:=match ds with
 | [x]=>(match itemsOf x G with
  | some xs=>gx G (.lst xs) Q
  | none=>False)
 | _=>False
noncomputable def Wl(C:String):D->Gp->Option Bool
 | .fh,_=>some false
 | .bl _,_=>some (C == "bool" || C == "int")
 | .int _,_=>some (C == "int")
 | .str _,_=>some (C == "str")
 | .tup _,_=>some (C == "tuple")
 | .ez _,_=>some (C == "list")
 | .gZ _,_=>some (C == "dict")
 | .exc _,_=>none
 | .ref a,G=>match G a with
  | some (.lst _)=>some (C == "list")
  | some (.dI _)=>some (C == "dict")
  | none=>none
noncomputable def QG(C:String)(a:gG):gG:=fun E τ G Q=>a E τ G fun x G1=>match Wl C x G1 with
 | some b=>Q (.bl b) G1
 | none=>False
noncomputable def qL(x:D)(ds:List D)(G:Gp)(Q:DK):Prop:=match x,ds with
 | .ref a,[d]=>(match G a with
  | some (.lst xs)=>xs.length < SZ/\Q .fh (c7 G a (.lst (xs++[d])))
  | _=>False)
 | _,_=>False
noncomputable def t4(x:D)(ds:List D)(G:Gp)(Q:DK):Prop:=match x,ds with
 | .ref a,[y]=>(match G a,ma y G with
  | some (.lst xs),some ys=>xs.length+ys.length<=SZ/\Q .fh (c7 G a (.lst (xs++ys)))
  | _,_=>False)
 | _,_=>False
noncomputable def Sz(x:D)(ds:List D)(G:Gp)(Q:DK):Prop:=match x,ds with
 | .ref a,[.int i,d]=>(match G a with
  | some (.lst xs)=>0<=i/\i<=xs.length/\xs.length < SZ/\Q .fh (c7 G a (.lst (xs.take i.toNat++d :: xs.drop i.toNat)))
  | _=>False)
 | _,_=>False
noncomputable def Gf(x:D)(ds:List D)(G:Gp)(Q:DK):Prop:=match x,ds with
 | .ref a,[k,d]=>(match G a with
  | some (.dI kvs)=>h8 kvs k=true/\dU k=true/\(match look kvs k with
   | some v=>Q v G
   | none=>kvs.length < SZ/\Q d (c7 G a (.dI (put kvs k d))))
  | _=>False)
 | _,_=>False
noncomputable def gm:ie:=fun _ K τ G=>K.nx τ G
noncomputable def bO(a b:ie):ie:=fun E K τ G=>a E { K with nx:=b E K } τ G
noncomputable def jQ(a:gG):ie:=fun E K τ G=>a E τ G fun _ G1=>K.nx τ G1
noncomputable def cy(a:gG):ie:=fun E K τ G=>a E τ G K.rt
noncomputable def Hk:ie:=fun _ K _ G=>K.rt .fh G
noncomputable def mr(c:yv)(a b:ie):ie:=fun E K τ G=>c E τ G fun k G1=>if k=true then a E K τ G1 else b E K τ G1
noncomputable def QF:ie:=fun _ _ _ _=>False
noncomputable abbrev BQ:=mO->D->iX->Gp->(iX->Gp->Prop)->Prop
noncomputable abbrev EC:=mO->List D->iX->Gp->(iX->Gp->Prop)->Prop
noncomputable def aC(i:Nat):BQ:=fun _ d τ G Q=>Q (τ.set i (some d)) G
noncomputable def jP:EC:=fun _ ds τ G Q=>match ds with
 | []=>Q τ G
 | _=>False
noncomputable def eA(t:BQ)(r:EC):EC:=fun E ds τ G Q=>match ds with
 | d :: ds=>t E d τ G fun qv G1=>r E ds qv G1 Q
 | _=>False
noncomputable def j7(t:EC):BQ:=fun E d τ G Q=>match d with
 | .tup ds=>t E ds τ G Q
 | _=>False
noncomputable def zx(o k d:D)(G:Gp)(Q:Gp->Prop):Prop:=match o with
 | .ref a=>(match G a with
  | some (.lst xs)=>(match k with
   | .int i=>(match Ju xs.length i with
    | some j=>Q (c7 G a (.lst (xs.set j d)))
    | none=>False)
   | _=>False)
  | some (.dI kvs)=>h8 kvs k=true/\kvs.length < SZ/\Q (c7 G a (.dI (put kvs k d)))
  | none=>False)
 | _=>False
noncomputable def fX(o k:gG):BQ:=fun E d τ G Q=>o E τ G fun x G1=>k E τ G1 fun y G2=>zx x y d G2 fun G3=>Q τ G3
noncomputable def bq(a:gG)(g:BQ):ie:=fun E K τ G=>a E τ G fun x G1=>g E x τ G1 K.nx
noncomputable abbrev NW:=mO->iX->Gp->(List D->(Gp->Prop)->Gp->Prop)->Prop
noncomputable def kR(a:gG):NW:=fun E τ G R=>a E τ G fun x G1=>match x with
 | .tup ds=>R ds (fun _=>True) G1
 | .ez ds=>R ds (fun _=>True) G1
 | .ref p=>(match G1 p with
  | some (.lst ds)=>R ds (fun G2=>G2 p=some (.lst ds)) G1
  | _=>False)
 | _=>False
noncomputable def gH(lo:Int)(n:Nat):List D:=(c9 n).map fun (i:Nat)=>D.int (lo+(i:Int))
noncomputable def uQ(a:gG):NW:=fun E τ G R=>a E τ G fun x G1=>match x with
 | .int n=>-(2 ^ 62)<=n/\n < 2 ^ 62/\R (gH 0 n.toNat) (fun _=>True) G1
 | _=>False
noncomputable def uR(g:BQ)(body:ie)(ok:Gp->Prop):List D->ie
 | []=>fun _ K τ G=>ok G/\K.nx τ G
 | d :: r=>fun E K τ G=>ok G/\g E d τ G fun qv G1=>body E { K with nx:=uR g body ok r E K,ct:=uR g body ok r E K,bk:=K.nx } qv G1
noncomputable def cO(i:NW)(g:BQ)(body:ie):ie:=fun E K τ G=>i E τ G fun ds ok G1=>uR g body ok ds E K τ G1
noncomputable def Fb(c:yv)(body:ie):Nat->ie
 | 0=>fun _ _ _ _=>False
 | n+1=>fun E K τ G=>c E τ G fun k G1=>if k=true then body E { K with nx:=Fb c body n E K,ct:=Fb c body n E K,bk:=K.nx } τ G1 else K.nx τ G1
noncomputable def J3(c:yv)(body:ie):ie:=fun E K τ G=>∃ n,Fb c body n E K τ G
noncomputable def jE(g:BQ)(c:Option yv)(e:gG)(ok:Gp->Prop):List D->mO->iX->Gp->List D->(List D->Gp->Prop)->Prop
 | [],_,_,G,acc,Q=>ok G/\Q acc G
 | d :: r,E,τ,G,acc,Q=>ok G/\g E d τ G fun qv G1=>match c with
  | none=>e E qv G1 fun x G2=>jE g c e ok r E qv G2 (acc++[x]) Q
  | some c=>c E qv G1 fun k G2=>if k=true then e E qv G2 fun x G3=>jE g (some c) e ok r E qv G3 (acc++[x]) Q else jE g (some c) e ok r E qv G2 acc Q
noncomputable def AS(m:Nat)(fr:List Nat)(τ:iX):iX:=aU m none++fr.map fun i=>(τ[i]?).getD none
noncomputable def gO(m:Nat)(fr:List Nat)(i:NW)(g:BQ)(c:Option yv)(e:gG):gG:=fun E τ G Q =>
 i E τ G fun ds ok G1=>ds.length<=SZ/\jE g c e ok ds (fun _ _=>False) (AS m fr τ) G1 [] fun xs G2=>gx G2 (.lst xs) Q
noncomputable abbrev tI(ns:List Int):D:=.tup (ns.map D.int)
noncomputable def aaK:List Int->Option Int
 | []=>none
 | a :: r=>some (r.foldl (fun m x=>if x < m then x else m) a)
noncomputable def aaJ:List (List Int)->Option (List Int)
 | []=>none
 | a :: r=>some (r.foldl (fun m x=>if lexLt x m=true then x else m) a)
noncomputable def Tj(ds:List D)(G:Gp)(Q:DK):Prop:=match ds with
 | [x]=>(∃ ns m,itemsOf x G=some (ns.map D.int)/\aaK ns=some m/\Q (.int m) G)\/∃ YJ m,itemsOf x G=some (YJ.map tI)/\aaJ YJ=some m/\Q (tI m) G
 | _=>False
noncomputable def iq:gG:=fun _ _ G Q=>gx G (.dI []) Q
noncomputable def eY(G G':Gp):Prop:=∀ a o,G a=some o->G' a=some o
theorem eY.refl(G:Gp):eY G G:=fun _ _ h=>h
theorem eY.trans{G G1 G2:Gp}(a:eY G G1)(b:eY G1 G2):eY G G2:=fun c o h=>b c o (a c o h)
theorem eY.new{G:Gp}{p:Nat}{o:GO}(h:G p=none):eY G (c7 G p o):=fun a ob e=>by
 by_cases ha:a=p
 ·subst ha; rw [h] at e; cases e
 ·rw [c6 ha]; exact e
theorem eY.free{G G':Gp}{p:Nat}(l:eY G G')(h:G' p=none):G p=none:=by
 cases q:G p with
 | none=>rfl
 | some o=>rw [l p o q] at h; cases h
theorem eY.put{G G':Gp}{p:Nat}{o:GO}(l:eY G G')(h:G p=none):eY G (c7 G' p o):=fun a ob e=>by
 by_cases ha:a=p
 ·subst ha; rw [h] at e; cases e
 ·rw [c6 ha]; exact l a ob e
noncomputable def ends(Q:DK):mP:=⟨fun _ G=>Q .fh G,Q,fun _ _=>False,fun _ _=>False⟩
noncomputable def bb(n:Nat)(ds:List D):iX:=ds.map some++aU (n - ds.length) none
noncomputable def T9(x:D)(G1:Gp)(R:List D->(Gp->Prop)->Gp->Prop):Prop:=match x with
 | .tup ds=>R ds (fun _=>True) G1
 | .ez ds=>R ds (fun _=>True) G1
 | .ref p=>(match G1 p with
  | some (.lst ds)=>R ds (fun G2=>G2 p=some (.lst ds)) G1
  | _=>False)
 | _=>False
noncomputable def Pc(x:D)(G1:Gp)(Q:Option Int->Gp->Prop):Prop:=match x with
 | .int i=>Q (some i) G1
 | _=>False
noncomputable def uJ(x:D)(G1:Gp)(Q:Bool->Gp->Prop):Prop:=match L9 x G1 with
 | some b=>Q b G1
 | none=>False
noncomputable def TR(x:D)(G1:Gp)(R:List D->(Gp->Prop)->Gp->Prop):Prop:=match x with
 | .int n=>-(2 ^ 62)<=n/\n < 2 ^ 62/\R (gH 0 n.toNat) (fun _=>True) G1
 | _=>False
noncomputable def isAt(C:String)(x:D)(G1:Gp)(Q:DK):Prop:=match Wl C x G1 with
 | some b=>Q (.bl b) G1
 | none=>False
theorem dE{i j:Int}{G:Gp}{Q:DK}:iH (.int i) (.int j) G Q=Q (.int (i+j)) G:=rfl
theorem sT{a b:List D}{G:Gp}{Q:DK}:iH (.tup a) (.tup b) G Q=(a≠[]/\a.length+b.length<=SZ/\Q (.tup (a++b)) G):=rfl
theorem lY{i j:Int}{G:Gp}{Q:DK}:IT (.int i) (.int j) G Q=Q (.int (i - j)) G:=rfl
theorem jL{i j:Int}{G:Gp}{Q:DK}:zO (.int i) (.int j) G Q=(MulOk i j/\Q (.int (i * j)) G):=rfl
theorem kE{i j:Int}{G:Gp}{Q:DK}:zP (.int i) (.int j) G Q=(0 < j/\Q (.int (i % j)) G):=rfl
theorem pW{i j:Int}{G:Gp}{Q:DK}:WY (.int i) (.int j) G Q=(0 < j/\j < 2 ^ 30/\Q (.int (i / j)) G):=rfl
theorem lZ{i:Int}{G:Gp}{Q:DK}:Ds (.int i) G Q=Q (.int (-i)) G:=rfl
theorem tQ{i j:Int}{G:Gp}{Q:DK}:Z2 (.int i) (.int j) G Q=Q (.bl (decide (i < j))) G:=rfl
theorem wg{i j:Int}{G:Gp}{Q:DK}:rLe (.int i) (.int j) G Q=Q (.bl (decide (i<=j))) G:=rfl
theorem wj{i j:Int}{G:Gp}{Q:DK}:rGt (.int i) (.int j) G Q=Q (.bl (decide (i > j))) G:=rfl
theorem wm{i j:Int}{G:Gp}{Q:DK}:rGe (.int i) (.int j) G Q=Q (.bl (decide (i>=j))) G:=rfl
theorem R8{ds:List D}{i:Int}{d:D}{G:Gp}{Q:DK}(h:vC ds i=some d):jm (.ez ds) (.int i) G Q=Q d G:=by unfold jm; simp only [h]
theorem R9{a:Nat}{ds:List D}{i:Int}{d:D}{G:Gp}{Q:DK}(h1:G a=some (.lst ds))(h:vC ds i=some d):jm (.ref a) (.int i) G Q=Q d G:=by unfold jm; simp only [h1,h]
theorem Sa{a:Nat}{kvs:List (D×D)}{k d:D}{G:Gp}{Q:DK}(h1:G a=some (.dI kvs))(h0:h8 kvs k=true)(h:look kvs k=some d):jm (.ref a) k G Q=Q d G:=by unfold jm; simp only [h1,h,h0,true_and]
theorem oU{ds:List D}{lo hi:Option Int}{G:Gp}{Q:DK}:UZ (.tup ds) lo hi G Q=(¬ (jZ ds.length 0 lo=0/\jZ ds.length ds.length hi=ds.length)/\Q (.tup (cut ds lo hi)) G):=rfl
theorem tO{ds:List D}{lo hi:Option Int}{G:Gp}{Q:DK}:UZ (.ez ds) lo hi G Q=gx G (.lst (cut ds lo hi)) Q:=rfl
theorem R7{a:Nat}{ds:List D}{lo hi:Option Int}{G:Gp}{Q:DK}(h:G a=some (.lst ds)):UZ (.ref a) lo hi G Q=gx G (.lst (cut ds lo hi)) Q:=by unfold UZ; simp only [h]
theorem ot{ds:List D}{G:Gp}{Q:DK}:AW [.ez ds] G Q=Q (.int (ds.length:Int)) G:=rfl
theorem tE{ds:List D}{G:Gp}{Q:DK}:AW [.tup ds] G Q=Q (.int (ds.length:Int)) G:=rfl
theorem QR{a:Nat}{ds:List D}{G:Gp}{Q:DK}(h:G a=some (.lst ds)):AW [.ref a] G Q=Q (.int (ds.length:Int)) G:=by unfold AW lenOf; simp only [h]
theorem dF{a:gG}{E:mO}{τ:iX}{G:Gp}{R:List D->(Gp->Prop)->Gp->Prop}:kR a E τ G R=a E τ G fun x G1=>T9 x G1 R:=by
 unfold kR T9; rfl
theorem jo{ds:List D}{G:Gp}{R:List D->(Gp->Prop)->Gp->Prop}:T9 (.ez ds) G R=R ds (fun _=>True) G:=rfl
theorem t7{ds:List D}{G:Gp}{R:List D->(Gp->Prop)->Gp->Prop}:T9 (.tup ds) G R=R ds (fun _=>True) G:=rfl
theorem DT{a:Nat}{ds:List D}{G:Gp}{R:List D->(Gp->Prop)->Gp->Prop}(h:G a=some (.lst ds)):T9 (.ref a) G R=R ds (fun G2=>G2 a=some (.lst ds)) G:=by unfold T9; simp only [h]
theorem jc{t:gG}{E:mO}{τ:iX}{G:Gp}{Q:Option Int->Gp->Prop}:rG t E τ G Q=t E τ G fun x G1=>Pc x G1 Q:=rfl
theorem fP{i:Int}{G:Gp}{Q:Option Int->Gp->Prop}:Pc (.int i) G Q=Q (some i) G:=rfl
theorem fm{a:gG}{E:mO}{τ:iX}{G:Gp}{Q:Bool->Gp->Prop}:ml a E τ G Q=a E τ G fun x G1=>uJ x G1 Q:=rfl
theorem cV{b:Bool}{G:Gp}{Q:Bool->Gp->Prop}:uJ (.bl b) G Q=Q b G:=rfl
theorem L8{a:Nat}{ds:List D}{G:Gp}{Q:Bool->Gp->Prop}(h:G a=some (.lst ds)):uJ (.ref a) G Q=Q (!ds.isEmpty) G:=by unfold uJ L9; simp only [h]
theorem ja{a:gG}{E:mO}{τ:iX}{G:Gp}{R:List D->(Gp->Prop)->Gp->Prop}:uQ a E τ G R=a E τ G fun x G1=>TR x G1 R:=rfl
theorem hX{n:Int}{G:Gp}{R:List D->(Gp->Prop)->Gp->Prop}:TR (.int n) G R=(-(2 ^ 62)<=n/\n < 2 ^ 62/\R (gH 0 n.toNat) (fun _=>True) G):=rfl
theorem qV{C:String}{a:gG}{E:mO}{τ:iX}{G:Gp}{Q:DK}:QG C a E τ G Q=a E τ G fun x G1=>isAt C x G1 Q:=rfl
theorem qg {C:String} {i:Int} {G:Gp} {Q:DK}:isAt C (.int i) G Q=Q (.bl (C == "int")) G:=rfl
theorem sY {C:String} {ds:List D} {G:Gp} {Q:DK}:isAt C (.tup ds) G Q=Q (.bl (C == "tuple")) G:=rfl
theorem oh{a b:gG}{E:mO}{τ:iX}{G:Gp}{Q:DK}:CL a b E τ G Q=a E τ G fun x G1=>uJ x G1 fun k G2=>if k=true then b E τ G2 Q else Q x G2:=by
 unfold CL uJ;refine congrArg (a E τ G) ?_;funext x G1;cases L9 x G1 with
 | none=>rfl
 | some k=>cases k <;> simp
theorem wX{a b:gG}{E:mO}{τ:iX}{G:Gp}{Q:DK}:Yd a b E τ G Q=a E τ G fun x G1=>uJ x G1 fun k G2=>if k=true then Q x G2 else b E τ G2 Q:=by
 unfold Yd uJ;refine congrArg (a E τ G) ?_;funext x G1;cases L9 x G1 with
 | none=>rfl
 | some k=>cases k <;> simp
theorem qj{a:gG}{E:mO}{τ:iX}{G:Gp}{Q:DK}:QE a E τ G Q=a E τ G fun x G1=>uJ x G1 fun k G2=>Q (.bl (!k)) G2:=rfl
theorem nR{a:Nat}{y:D}{G:Gp}{Q:DK}:iH (.ref a) y G Q=Ke (.ref a) y G Q:=by cases y <;> rfl
theorem l6{a:List D}{y:D}{G:Gp}{Q:DK}:iH (.ez a) y G Q=Ke (.ez a) y G Q:=by cases y <;> rfl
theorem tP{a:Nat}{lo hi:Option Int}{G:Gp}{Q:DK}:UZ (.ref a) lo hi G Q=(match G a with
  | some (.lst ds)=>gx G (.lst (cut ds lo hi)) Q
  | _=>False):=rfl
theorem KY{a:Nat}{k:D}{G:Gp}{Q:DK}:jm (.ref a) k G Q=(match G a with
  | some (.lst ds)=>(match k with
   | .int i=>(match vC ds i with
    | some d=>Q d G
    | none=>False)
   | _=>False)
  | some (.dI kvs)=>h8 kvs k=true/\(match look kvs k with
   | some d=>Q d G
   | none=>False)
  | none=>False):=by unfold jm; cases k <;> rfl
theorem fJ{ds:List D}{i:Int}{G:Gp}{Q:DK}:jm (.tup ds) (.int i) G Q=(match vC ds i with
  | some d=>Q d G
  | none=>False):=rfl
theorem nQ{ds:List D}{i:Int}{G:Gp}{Q:DK}:jm (.ez ds) (.int i) G Q=(match vC ds i with
  | some d=>Q d G
  | none=>False):=rfl
theorem ql{a:Nat}{G:Gp}{Q:DK}:AV [.ref a] G Q=(match G a with
  | some (.lst ds)=>gx G (.lst ds) Q
  | _=>False):=by
 unfold AV itemsOf;cases h:G a with
 | none=>simp only [h]
 | some g=>cases g <;> simp only [h]
theorem iA{a:Nat}{d:D}{G:Gp}{Q:DK}:qL (.ref a) [d] G Q=(match G a with
  | some (.lst xs)=>xs.length < SZ/\Q .fh (c7 G a (.lst (xs++[d])))
  | _=>False):=rfl
theorem iz{a:Nat}{y:D}{G:Gp}{Q:DK}:t4 (.ref a) [y] G Q=(match G a,ma y G with
  | some (.lst xs),some ys=>xs.length+ys.length<=SZ/\Q .fh (c7 G a (.lst (xs++ys)))
  | _,_=>False):=rfl
theorem l8{a:Nat}{i:Int}{d:D}{G:Gp}{Q:DK}:Sz (.ref a) [.int i,d] G Q=(match G a with
  | some (.lst xs)=>0<=i/\i<=xs.length/\xs.length < SZ/\Q .fh (c7 G a (.lst (xs.take i.toNat++d :: xs.drop i.toNat)))
  | _=>False):=rfl
theorem iK{a:Nat}{k d:D}{G:Gp}{Q:DK}:Gf (.ref a) [k,d] G Q=(match G a with
  | some (.dI kvs)=>h8 kvs k=true/\dU k=true/\(match look kvs k with
   | some v=>Q v G
   | none=>kvs.length < SZ/\Q d (c7 G a (.dI (put kvs k d))))
  | _=>False):=rfl
theorem PR{C:String}{p:Nat}{G:Gp}{Q:DK}:isAt C (.ref p) G Q=(match G p with
  | some (.lst _)=>Q (.bl (C == "list")) G
  | some (.dI _)=>Q (.bl (C == "dict")) G
  | none=>False):=by
 unfold isAt Wl;cases h:G p with
 | none=>simp only [h]
 | some g=>cases g <;> simp only [h]
theorem wH {C:String} {b:Bool} {G:Gp} {Q:DK}:isAt C (.bl b) G Q=Q (.bl (C == "bool" || C == "int")) G:=rfl
theorem ko{a:Nat}{G:Gp}:C8 (.ref a) G=(match G a with
  | some (.lst _)=>True
  | _=>False):=rfl
theorem lJ{a:Nat}{G:Gp}:Ow (.ref a) G=(match G a with
  | some (.dI _)=>True
  | _=>False):=rfl
theorem vO{ds:List D}{G:Gp}:C8 (.ez ds) G=True:=rfl
theorem lL{kvs:List (D×D)}{k:D}{G:Gp}{Q:DK}:jm (.gZ kvs) k G Q=(h8 kvs k=true/\(match look kvs k with
  | some d=>Q d G
  | none=>False)):=by unfold jm; cases k <;> rfl
theorem vN{x:Str}{G:Gp}:tyS (.str x) G=True:=rfl
end K2
end
section
namespace K2
open PySem (Str)
noncomputable def BG(R:Nat->Bool)(G:Gp):Gp:=fun a=>if R a=true then none else G a
mutual
inductive Fz (G:Gp) (R:Nat->Bool):D->D->Prop
 | same (d:D):Fz G R d d
 | tup {ds ss:List D}:EY G R ds ss->Fz G R (.tup ds) (.tup ss)
 | ez {ds ss:List D}:EY G R ds ss->Fz G R (.ez ds) (.ez ss)
 | ref {a:Nat} {ds ss:List D}:G a=some (.lst ds)->R a=true->EY G R ds ss->Fz G R (.ref a) (.ez ss)
 | dI {a:Nat} {kvs PF:List (D×D)}:G a=some (.dI kvs)->R a=true->Kq G R kvs PF->Fz G R (.ref a) (.gZ PF)
inductive EY (G:Gp) (R:Nat->Bool):List D->List D->Prop
 | nil:EY G R [] []
 | cons {d s:D} {ds ss:List D}:Fz G R d s->EY G R ds ss->EY G R (d :: ds) (s :: ss)
inductive Kq (G:Gp) (R:Nat->Bool):List (D×D)->List (D×D)->Prop
 | nil:Kq G R [] []
 | cons {k d s:D} {ds ss:List (D×D)}:Fz G R d s->Kq G R ds ss->Kq G R ((k,d) :: ds) ((k,s) :: ss)
end
theorem Kq.same{G:Gp}{R:Nat->Bool}:∀ (kvs:List (D×D)),Kq G R kvs kvs
 | []=>.nil
 | (k,v) :: r=>.cons (.same v) (Kq.same r)
noncomputable def Rf(G:Gp)(x:D)(Q:DK):Prop:=∃ (R:Nat->Bool) (t:D),Fz G R x t/\Q t (BG R G)
noncomputable def cZ(e:gG):gG:=fun E τ G Q=>e E τ G fun x G1=>Rf G1 x Q
noncomputable def Np(i:Nat)(t:ie):ie:=fun E K τ G=>t E { K with nx:=fun qv G1=>match qv[i]? with
 | some (some d)=>Rf G1 d fun t G2=>K.nx (qv.set i (some t)) G2
 | _=>False } τ G
theorem EY.same{G:Gp}{R:Nat->Bool}:∀ (ds:List D),EY G R ds ds
 | []=>.nil
 | d :: ds=>.cons (.same d) (EY.same ds)
theorem AQ{G G1:Gp}(l:eY G G1):BG (fun a=>(G a).isNone) G1=G:=by
 funext a;unfold BG;cases h:G a with
 | none=>simp [h]
 | some o=>simp [l a o h,h]
theorem Nf{G G1:Gp}{p:Nat}{o:GO}(l:eY G G1)(hp:G p=none)(h1:G1 p=some o):BG (fun a=>(G a).isNone&&decide (a≠p)) G1=c7 G p o:=by
 funext a;unfold BG c7;by_cases ha:a=p
 ·subst ha; simp [h1]
 ·cases h:G a with
  | none=>simp [ha,h]
  | some o=>simp [l a o h,ha,h]
theorem fO{G:Gp}{d:D}{Q:DK}(q:Q d G):Rf G d Q:=⟨fun _=>false,d,.same d,by
 have e:BG (fun _=>false) G=G:=by funext a; simp [BG]
 rw [e]; exact q⟩
theorem D4{G G1:Gp}{d:D}{Q:DK}(l:eY G G1)(q:Q d G):Rf G1 d Q:=⟨_,d,.same d,by rw [AQ l]; exact q⟩
theorem VJ{G G1:Gp}{p:Nat}{o:GO}{Q:DK}(l:eY G G1)(hp:G p=none)(h1:G1 p=some o)(q:Q (.ref p) (c7 G p o)):Rf G1 (.ref p) Q :=
 ⟨_,.ref p,.same _,by rw [Nf l hp h1]; exact q⟩
theorem qR{G G1:Gp}{p:Nat}{ds ss:List D}{Q:DK}(l:eY G G1)(hp:G p=none)(h1:G1 p=some (.lst ds))(hs:EY G1 (fun a=>(G a).isNone) ds ss)(q:Q (.ez ss) G):Rf G1 (.ref p) Q :=
 ⟨_,.ez ss,.ref h1 (by simp [hp]) hs,by rw [AQ l]; exact q⟩
theorem fY{G G1:Gp}{p:Nat}{kvs:List (D×D)}{Q:DK}(l:eY G G1)(hp:G p=none)(h1:G1 p=some (.dI kvs))(q:Q (.gZ kvs) G):Rf G1 (.ref p) Q :=
 ⟨fun a=>(G a).isNone,.gZ kvs,.dI h1 (by simp [hp]) (.same _),by rw [AQ l]; exact q⟩
noncomputable def B6:kN:=fun ds G Q _=>∃ ns:List Int,ds=[.ez (ns.map D.int)]/\ns.length<=63/\(∀ a,G a=none)/\∀ G',Q (.bl true) G'
theorem eS{a b:ie}{E:mO}{K:mP}{τ:iX}{G:Gp}(P:iX->Gp->Prop)(h1:∀ N,(∀ τ G,P τ G->N τ G)->a E { K with nx:=N } τ G)(h2:∀ τ G,P τ G->b E K τ G):bO a b E K τ G:=h1 (b E K) h2
theorem gK{a b:ie}{E:mO}{K:mP}{τ:iX}{G:Gp}:bO a b E K τ G=a E { K with nx:=b E K } τ G:=rfl
theorem cM{a:gG}{g:BQ}{b:ie}{E:mO}{K:mP}{τ:iX}{G:Gp}:bO (bq a g) b E K τ G=bq a g E { K with nx:=b E K } τ G:=rfl
theorem sE{a:gG}{b:ie}{E:mO}{K:mP}{τ:iX}{G:Gp}:bO (jQ a) b E K τ G=jQ a E { K with nx:=b E K } τ G:=rfl
theorem JG{g:BQ}{body:ie}{ok:Gp->Prop}{ds:List D}{E:mO}{K:mP}{τ:iX}{G:Gp}(I:List D->iX->Gp->Prop)
  (h0:I [] τ G) (cN:∀ pre τ G,I pre τ G->ok G)
  (step:∀ (pre:List D) (d:D) (post:List D) τ G (N:iX->Gp->Prop),ds=pre++d :: post->I pre τ G->(∀ xw G2,I (pre++[d]) xw G2->N xw G2) ->
   g E d τ G fun qv G1=>body E { K with nx:=N,ct:=N,bk:=K.nx } qv G1)
  (fin:∀ τ G,I ds τ G->K.nx τ G):uR g body ok ds E K τ G:=by
 have main:∀ (post pre:List D) τ G,ds=pre++post->I pre τ G->uR g body ok post E K τ G:=by
  intro post;induction post with
  | nil =>
   intro pre τ G e h;rw [cX] at e;subst e;exact⟨cN _ _ _ h,fin _ _ h⟩
  | cons d post ih =>
   intro pre τ G e h;refine⟨cN _ _ _ h,?_⟩;exact step pre d post τ G _ e h fun xw G2 h2=>ih (pre++[d]) xw G2 (by rw [e,cf]; rfl) h2
 exact main ds [] τ G rfl h0
theorem Tf{g:BQ}{c:Option yv}{e:gG}{ok:Gp->Prop}{ds:List D}{E:mO}{τ:iX}{G:Gp}{Q:List D->Gp->Prop}(I:List D->List D->iX->Gp->Prop)
  (h0:I [] [] τ G) (cN:∀ pre acc τ G,I pre acc τ G->ok G)
  (step:∀ (pre:List D) (d:D) (post acc:List D) τ G (N:iX->List D->Gp->Prop),ds=pre++d :: post->I pre acc τ G->(∀ xw xV G2,I (pre++[d]) xV xw G2->N xw xV G2) ->
   g E d τ G fun qv G1=>match c with
    | none=>e E qv G1 fun x G2=>N qv (acc++[x]) G2
    | some c=>c E qv G1 fun k G2=>if k=true then e E qv G2 fun x G3=>N qv (acc++[x]) G3 else N qv acc G2)
  (fin:∀ acc τ G,I ds acc τ G->Q acc G):jE g c e ok ds E τ G [] Q:=by
 have main:∀ (post pre acc:List D) τ G,ds=pre++post->I pre acc τ G->jE g c e ok post E τ G acc Q:=by
  intro post;induction post with
  | nil =>
   intro pre acc τ G e h;rw [cX] at e;subst e;exact⟨cN _ _ _ _ h,fin _ _ _ h⟩
  | cons d post ih =>
   intro pre acc τ G e' h;refine⟨cN _ _ _ _ h,?_⟩;have:=step pre d post acc τ G (fun xw xV G2=>jE g c e ok post E xw G2 xV Q) e' h fun xw xV G2 h2=>ih (pre++[d]) xV xw G2 (by rw [e',cf]; rfl) h2;cases c with
   | none=>exact this
   | some c=>exact this
 exact main ds [] [] τ G rfl h0
theorem Sn.rI{G:Gp}{n:Nat}:∀ (ns:List Int),Sn G (n+1) (.ez (ns.map D.int)) (.ez (ns.map D.int))
 | []=>.IS
 | i :: ns=>.Cc (.int i) (Sn.rI ns)
theorem qT(a b:D)(r t:List D):me (a :: r) (b :: t)=(i5 a b&&me r t):=rfl
theorem oe(a b:Int):i5 (.int a) (.int b)=(a == b):=rfl
theorem JV(a b:List D):i5 (.tup a) (.tup b)=me a b:=rfl
theorem Hd{α:Type} [DecidableEq α](a b:α)(as bs:List α):(decide (a=b)&&decide (as=bs))=decide (a :: as=b :: bs):=by
 by_cases h:a=b <;> by_cases h2:as=bs <;> simp [h,h2]
end K2
end
section
namespace K2
open PySem (Str)
set_option genInjectivity true in structure T2 where
 a:Int
 b:Int
 deriving DecidableEq
set_option genInjectivity true in structure T3 where
 a:Int
 b:Int
 c:Int
 deriving DecidableEq
class Enc (α:Type) [DecidableEq α] where
 enc:α->D
 dep:Nat
 eqv:∀ a b,i5 (enc a) (enc b)=decide (a=b)
 sn:∀ (G:Gp) (n:Nat) (a:α),dep<=n->Sn G n (enc a) (enc a)
open Enc (enc)
noncomputable instance:Enc Int where
 enc:=D.int
 dep:=0
 eqv:=fun a b=>rfl
 sn:=fun G n a _=>.int a
noncomputable instance:Enc Bool where
 enc:=D.bl
 dep:=0
 eqv:=fun a b=>Ro a b
 sn:=fun G n a _=>.bl a
noncomputable instance:Enc T2 where
 enc:=fun t=>.tup [.int t.a,.int t.b]
 dep:=1
 eqv:=fun x y=>by
  cases x; cases y;rw [JV,qT,qT,oe,oe]; simp only [T2.mk.injEq]; rename_i a b c d; by_cases h:a=c <;> by_cases h2:b=d <;> simp [h,h2,show me [] []=true from rfl]
 sn:=fun G n t h=>by
  obtain⟨m,rfl⟩:∃ m,n=m+1:=⟨n - 1,by lia⟩;exact .sx (.int _) (.sx (.int _) .IH)
noncomputable instance:Enc T3 where
 enc:=fun t=>.tup [.int t.a,.int t.b,.int t.c]
 dep:=1
 eqv:=fun x y=>by
  cases x; cases y;rw [JV,qT,qT,qT,oe,oe,oe]; simp only [T3.mk.injEq]; rename_i a b e c d f; by_cases h:a=c <;> by_cases h2:b=d <;> by_cases h3:e=f <;> simp [h,h2,h3,show me [] []=true from rfl]
 sn:=fun G n t h=>by
  obtain⟨m,rfl⟩:∃ m,n=m+1:=⟨n - 1,by lia⟩;exact .sx (.int _) (.sx (.int _) (.sx (.int _) .IH))
noncomputable instance {α β:Type} [DecidableEq α] [DecidableEq β] [Enc α] [Enc β]:Enc (α×β) where
 enc:=fun t=>.tup [enc t.1,enc t.2]
 dep:=max (Enc.dep α) (Enc.dep β)+1
 eqv:=fun x y=>by
  cases x; cases y;rw [JV,qT,qT,Enc.eqv,Enc.eqv]; simp only [Prod.mk.injEq]; rename_i a b c d; by_cases h:a=c <;> by_cases h2:b=d <;> simp [h,h2,show me [] []=true from rfl]
 sn:=fun G n t h=>by
  obtain⟨m,rfl⟩:∃ m,n=m+1:=⟨n - 1,by lia⟩;exact .sx (Enc.sn _ _ _ (by lia)) (.sx (Enc.sn _ _ _ (by lia)) .IH)
theorem Ha{α:Type} [DecidableEq α] [Enc α]:∀ (a b:List α),me (a.map enc) (b.map enc)=decide (a=b)
 | [],[]=>(decide_eq_true rfl).symm
 | [],b :: bs=>(decide_eq_false (fun z=>nomatch z)).symm
 | a :: as,[]=>(decide_eq_false (fun z=>nomatch z)).symm
 | a :: as,b :: bs=>by
  show (i5 (enc a) (enc b)&&me (as.map enc) (bs.map enc))=_;rw [Enc.eqv,Ha as bs,Hd]
theorem IM{α:Type} [DecidableEq α] [Enc α](G:Gp)(n:Nat)(h:Enc.dep α<=n):∀ (xs:List α),Sn G (n+1) (.ez (xs.map enc)) (.ez (xs.map enc))
 | []=>.IS
 | a :: as=>.Cc (Enc.sn _ _ _ h) (IM G n h as)
noncomputable instance {α:Type} [DecidableEq α] [Enc α]:Enc (List α) where
 enc:=fun xs=>.ez (xs.map enc)
 dep:=Enc.dep α+1
 eqv:=fun a b=>by
  show me _ _=_;exact Ha a b
 sn:=fun G n t h=>by
  obtain⟨m,rfl⟩:∃ m,n=m+1:=⟨n - 1,by lia⟩;exact IM G m (by lia) t
section
variable {α:Type} [DecidableEq α] [Enc α]
theorem EB(L:List α)(t:α):(L.map enc).any (i5 · (enc t))=decide (t∈L):=by
 induction L with
 | nil=>simp
 | cons a r ih =>
  simp only [av,pR,Enc.eqv,ih,bQ];by_cases h:a=t
  ·simp [h]
  ·have h':¬ t=a:=fun z=>h z.symm;by_cases h2:t∈r <;> simp [h,h',h2]
end
section
variable {κ α:Type} [DecidableEq κ] [Enc κ] [DecidableEq α] [Enc α]
noncomputable def aR(l:List (κ×α)):List (D×D):=l.map fun p=>(enc p.1,enc p.2)
noncomputable def cB(l:List (κ×α))(k:κ):Option α:=(l.find? fun p=>p.1=k).map (·.2)
noncomputable def dJ(l:List (κ×α))(k:κ)(v:α):List (κ×α):=if (l.any fun p=>p.1=k)=true then l.map (fun p=>if p.1=k then (p.1,v) else p) else l++[(k,v)]
theorem i9(l:List (κ×α))(k:κ):look (aR l) (enc k)=(cB l k).map enc:=by
 unfold look cB aR;induction l with
 | nil=>rfl
 | cons p r ih =>
  rw [av,di,di];simp only [Enc.eqv];by_cases h:p.1=k
  ·simp [h]
  ·simp only [h,decide_false]; exact ih
theorem K1(l:List (κ×α))(k:κ)(v:α):put (aR l) (enc k) (enc v)=aR (dJ l k v):=by
 unfold put dJ;have e:((aR l).any fun p=>i5 p.1 (enc k))=l.any fun p=>decide (p.1=k):=by
  unfold aR; rw [List.any_map]; congr 1; funext p; exact Enc.eqv _ _
 rw [e];split
 ·unfold aR; rw [bA,bA];refine gR fun p _=>?_;simp only [Function.comp,Enc.eqv,decide_eq_true_eq];split <;> rfl
 ·unfold aR; rw [aT]; rfl
theorem uv(l:List (κ×α))(k j:κ)(v:α):cB (dJ l k v) j=if k=j then some v else cB l j:=by
 unfold dJ;split
 ·rename_i h;unfold cB;induction l with
  | nil=>simp at h
  | cons p r ih =>
   rw [av,di,di];by_cases h1:p.1=k
   ·rw [if_pos h1];by_cases h2:k=j
    ·simp [h1,h2]
    ·have:¬ p.1=j:=fun z=>h2 (h1.symm.trans z);simp only [this,decide_false,h2,if_false];by_cases h3:(r.any fun p=>decide (p.1=k))=true
     ·have:=ih h3;rw [if_neg h2] at this;exact this
     ·congr 1;have:r.map (fun p=>if p.1=k then (p.1,v) else p)=r:=by
       conv=>rhs; rw [<-uI r]
       refine gR fun q hq=>?_;rw [if_neg]; rfl;intro z; exact h3 (List.any_eq_true.mpr ⟨q,hq,by simpa using z⟩)
      rw [this]
   ·rw [if_neg h1];have h3:(r.any fun p=>decide (p.1=k))=true:=by simpa [h1] using h
    by_cases h2:p.1=j
    ·have:¬ k=j:=fun z=>h1 (h2.trans z.symm);simp [h2,this]
    ·simp only [h2,decide_false]; exact ih h3
 ·rename_i h;unfold cB;rw [B0];by_cases h2:k=j
  ·subst h2;have:l.find? (fun p=>decide (p.1=k))=none:=by
    rw [ij];intro p hp z;exact h (List.any_eq_true.mpr ⟨p,hp,z⟩)
   rw [this]; simp
  ·simp [h2]
theorem A2(l:List (κ×α))(k:κ)(v:α):(dJ l k v).length<=l.length+1:=by
 unfold dJ; split <;> simp
end
class pN (κ:Type) [DecidableEq κ] [Enc κ] where
 ok:(∀ k:κ,dU (enc k)=true)\/∀ k:κ,mH (enc k)=true
noncomputable instance:pN Int:=⟨.inl fun _=>rfl⟩
noncomputable instance:pN T2:=⟨.inr fun _=>rfl⟩
noncomputable instance:pN T3:=⟨.inr fun _=>rfl⟩
theorem fA{κ α:Type} [DecidableEq κ] [Enc κ] [pN κ] [DecidableEq α] [Enc α](l:List (κ×α))(k:κ):h8 (aR l) (enc k)=true:=by
 unfold h8 aR;rcases pN.ok (κ:=κ) with h | h
 ·rw [xn]; left;rw [h k,NH,xl,fB];intro p _; exact h p.1
 ·rw [xn]; right;rw [h k,NH,xl,fB];intro p _; exact h p.1
end K2
end
section
namespace K2
open PySem (Str)
open Enc (enc)
mutual
noncomputable def qp:D->D->Bool
 | .int a,.int b=>decide (a < b)
 | .tup a,.tup b=>oF a b
 | .ez a,.ez b=>oF a b
 | _,_=>false
noncomputable def oF:List D->List D->Bool
 | [],[]=>false
 | [],_ :: _=>true
 | _ :: _,[]=>false
 | x :: xs,y :: ys=>if i5 x y=true then oF xs ys else qp x y
end
theorem qM(x y:D)(xs ys:List D):oF (x :: xs) (y :: ys)=if i5 x y=true then oF xs ys else qp x y:=rfl
theorem PA(a b:Int):qp (.int a) (.int b)=decide (a < b):=rfl
inductive o9 where
 | int | tup (l:List o9) | lst (s:o9)
mutual
noncomputable def df:o9->D->Bool
 | .int,.int _=>true
 | .tup l,.tup ds=>fN l ds
 | .lst s,.ez ds=>ic s ds
 | _,_=>false
noncomputable def fN:List o9->List D->Bool
 | [],[]=>true
 | s :: l,d :: ds=>df s d&&fN l ds
 | _,_=>false
noncomputable def ic:o9->List D->Bool
 | _,[]=>true
 | s,d :: ds=>df s d&&ic s ds
end
theorem dQ{a:D}(h:df .int a=true):∃ i,a=.int i:=by cases a <;> first | exact⟨_,rfl⟩ | exact bI (show false=true from h)
theorem dO{l:List o9}{a:D}(h:df (.tup l) a=true):∃ x,a=.tup x:=by cases a <;> first | exact⟨_,rfl⟩ | exact bI (show false=true from h)
theorem dP{l:o9}{a:D}(h:df (.lst l) a=true):∃ x,a=.ez x:=by cases a <;> first | exact⟨_,rfl⟩ | exact bI (show false=true from h)
mutual
noncomputable def Uj:o9->Nat
 | .int=>0
 | .tup l=>Qv l+1
 | .lst s=>Uj s+1
noncomputable def Qv:List o9->Nat
 | []=>0
 | s :: l=>max (Uj s) (Qv l)
end
noncomputable def Ph(sh:o9):Bool:=decide (Uj sh<=7)&&(match sh with
 | .tup []=>false
 | _=>true)
noncomputable def Rt(a b:D):Bool:=!qp b a
noncomputable def sD(ds:List D):List D:=ds.mergeSort Rt
noncomputable def rm(ds:List D)(G:Gp)(Q:DK):Prop:=match ds with
 | [x]=>∃ (sh:o9) (xs:List D),C8 x G/\itemsOf x G=some xs/\xs.all (df sh)=true/\Ph sh=true/\xs.length < 64/\gx G (.lst (sD xs)) Q
 | _=>False
class bV (α:Type) [DecidableEq α] [Enc α] where
 lt:α->α->Bool
 Di:o9
 M0:∀ a:α,df Di (enc a)=true
 Wj:∀ a b:α,qp (enc a) (enc b)=lt a b
 SK:∀ a,lt a a=false
 trans:∀ a b c,lt a b=true->lt b c=true->lt a c=true
 RV:∀ a b,lt a b=false->lt b a=false->a=b
noncomputable instance:bV Int where
 lt:=fun a b=>decide (a < b)
 Di:=.int
 M0:=fun _=>rfl
 Wj:=fun a b=>rfl
 SK:=fun a=>by simp
 trans:=fun a b c h1 h2=>by simp at *; lia
 RV:=fun a b h1 h2=>by simp at *; lia
noncomputable def wD{α:Type} [DecidableEq α](lt:α->α->Bool):List α->List α->Bool
 | [],[]=>false
 | [],_ :: _=>true
 | _ :: _,[]=>false
 | x :: xs,y :: ys=>if x=y then wD lt xs ys else lt x y
theorem Ah{α:Type} [DecidableEq α](lt:α->α->Bool)(x y:α)(xs ys:List α):wD lt (x :: xs) (y :: ys)=if x=y then wD lt xs ys else lt x y:=rfl
section
variable {α:Type} [DecidableEq α] {lt:α->α->Bool}
theorem wC:∀ x:List α,wD lt x x=false
 | []=>rfl
 | a :: x=>by simp only [Ah,if_true]; exact wC x
theorem wB(t:∀ a b,lt a b=false->lt b a=false->a=b):∀ (x y:List α),wD lt x y=false->wD lt y x=false->x=y
 | [],[],_,_=>rfl
 | [],_ :: _,h,_=>by cases h
 | _ :: _,[],_,h=>by cases h
 | a :: x,b :: y,h1,h2=>by
  simp only [Ah] at h1 h2;by_cases e:a=b
  ·subst e;simp only [if_true] at h1 h2;rw [wB t x y h1 h2]
  ·rw [if_neg e] at h1;rw [if_neg (dW e)] at h2;exact absurd (t a b h1 h2) e
theorem qN(ir:∀ a,lt a a=false)(tr:∀ a b c,lt a b=true->lt b c=true->lt a c=true):∀ (x y z:List α),wD lt x y=true->wD lt y z=true->wD lt x z=true
 | [],[],_,h,_=>by cases h
 | [],_ :: _,[],_,h=>by cases h
 | [],_ :: _,_ :: _,_,_=>rfl
 | _ :: _,[],_,h,_=>by cases h
 | _ :: _,_ :: _,[],_,h=>by cases h
 | a :: x,b :: y,c :: z,h1,h2=>by
  simp only [Ah] at h1 h2 ⊢;by_cases e1:a=b
  ·subst e1;simp only [if_true] at h1;by_cases e2:a=c
   ·subst e2;simp only [if_true] at h2 ⊢;exact qN ir tr x y z h1 h2
   ·rw [if_neg e2] at h2 ⊢; exact h2
  ·rw [if_neg e1] at h1;by_cases e2:b=c
   ·subst e2;rw [if_neg e1]; exact h1
   ·rw [if_neg e2] at h2;have h3:=tr _ _ _ h1 h2;rw [if_neg (by rintro rfl; rw [ir] at h3; cases h3)]; exact h3
end
theorem wy{α:Type} [DecidableEq α] [Enc α] [bV α]:∀ (x y:List α),oF (x.map enc) (y.map enc)=wD (bV.lt (α:=α)) x y
 | [],[]=>rfl
 | [],_ :: _=>rfl
 | _ :: _,[]=>rfl
 | a :: x,b :: y=>by simp only [av,qM,Ah,Enc.eqv,wy x y,bV.Wj,decide_eq_true_eq]
theorem Cw{α:Type} [DecidableEq α] [Enc α] [bV α]:∀ (x:List α),ic (bV.Di α) (x.map enc)=true
 | []=>rfl
 | a :: x=>by simp only [av,ic,bV.M0,Cw x,Bool.and_self]
noncomputable instance {α:Type} [DecidableEq α] [Enc α] [bV α]:bV (List α) where
 lt:=wD bV.lt
 Di:=.lst (bV.Di α)
 M0:=fun a=>Cw a
 Wj:=fun a b=>wy a b
 SK:=wC
 trans:=qN bV.SK bV.trans
 RV:=wB bV.RV
noncomputable def T2.l(t:T2):List Int:=[t.a,t.b]
noncomputable def T3.l(t:T3):List Int:=[t.a,t.b,t.c]
noncomputable instance:bV T2 where
 lt:=fun x y=>wD (fun a b=>decide (a < b)) x.l y.l
 Di:=.tup [.int,.int]
 M0:=fun _=>rfl
 Wj:=fun a b=>wy a.l b.l
 SK:=fun a=>wC _
 trans:=fun a b c=>qN (α:=Int) bV.SK bV.trans _ _ _
 RV:=fun ⟨a,b⟩ ⟨c,d⟩ h1 h2=>by
  have:=wB (α:=Int) bV.RV _ _ h1 h2;simpa [T2.l] using this
noncomputable instance:bV T3 where
 lt:=fun x y=>wD (fun a b=>decide (a < b)) x.l y.l
 Di:=.tup [.int,.int,.int]
 M0:=fun _=>rfl
 Wj:=fun a b=>wy a.l b.l
 SK:=fun a=>wC _
 trans:=fun a b c=>qN (α:=Int) bV.SK bV.trans _ _ _
 RV:=fun ⟨a,b,e⟩ ⟨c,d,f⟩ h1 h2=>by
  have:=wB (α:=Int) bV.RV _ _ h1 h2;simpa [T3.l] using this
section
variable {α:Type} [DecidableEq α] [Enc α] [bV α]
noncomputable def Bk(a b:α):Bool:=!bV.lt b a
noncomputable def NM(xs:List α):List α:=xs.mergeSort Bk
theorem Md(xs:List α):sD (xs.map enc)=(NM xs).map enc:=by
 unfold sD NM;symm;exact List.map_mergeSort fun a _ b _=>by unfold Bk Rt; rw [bV.Wj]
theorem Co(a b c:α)(h1:Bk a b=true)(h2:Bk b c=true):Bk a c=true:=by
 unfold Bk at *;simp only [Bool.not_eq_true'] at *;cases h:bV.lt c a with
 | false=>rfl
 | true =>
  by_cases e:a=b
  ·subst e; rw [h] at h2; cases h2
  ·have hab:bV.lt a b=true:=by
    cases q:bV.lt a b with
    | true=>rfl
    | false=>exact absurd (bV.RV _ _ q h1) e
   rw [bV.trans _ _ _ h hab] at h2; cases h2
theorem Gm(a b:α)(h1:Bk a b=true)(h2:Bk b a=true):a=b:=by
 unfold Bk at *;exact bV.RV a b (by simpa using h2) (by simpa using h1)
theorem nI(xs:List α):(NM xs).Perm xs:=List.mergeSort_perm xs Bk
theorem RZ{xs:List α}{x:α}:x∈NM xs↔x∈xs:=(nI xs).mem_iff
theorem De(xs:List α):(NM xs).length=xs.length:=(nI xs).length_eq
end
end K2
end
section
namespace K2
open PySem (Str)
mutual
theorem lB:∀ (sh:o9) (a:D),df sh a=true->i5 a a=true
 | .int,.int i,_=>by show (i == i)=true; exact beq_self_eq_true i
 | .tup l,.tup xs,h=>by show me xs xs=true; exact yq l xs h
 | .lst l,.ez xs,h=>by show me xs xs=true; exact yr l xs h
theorem yq:∀ (l:List o9) (xs:List D),fN l xs=true->me xs xs=true
 | [],[],_=>rfl
 | s :: l,x :: xs,h=>by
  have h:(df s x&&fN l xs)=true:=h;rw [aM] at h;show (i5 x x&&me xs xs)=true;rw [lB s x h.1,yq l xs h.2]; rfl
theorem yr:∀ (s:o9) (xs:List D),ic s xs=true->me xs xs=true
 | _,[],_=>rfl
 | s,x :: xs,h=>by
  have h:(df s x&&ic s xs)=true:=h;rw [aM] at h;show (i5 x x&&me xs xs)=true;rw [lB s x h.1,yr s xs h.2]; rfl
end
theorem VO(s:o9)(ih:∀ (a b:D),df s a=true->df s b=true->i5 a b=true->a=b):∀ (xs ys:List D),ic s xs=true->ic s ys=true->me xs ys=true->xs=ys:=by
 intro xs;induction xs with
 | nil=>intro ys _ _ h; cases ys with
  | nil=>rfl
  | cons _ _=>cases h
 | cons x xs Xq =>
  intro ys h1 h2 h;cases ys with
  | nil=>cases h
  | cons y ys =>
   have h1:(df s x&&ic s xs)=true:=h1;have h2:(df s y&&ic s ys)=true:=h2;have h:(i5 x y&&me xs ys)=true:=h;rw [aM] at h1 h2 h;rw [ih x y h1.1 h2.1 h.1,Xq ys h1.2 h2.2 h.2]
mutual
theorem rF:∀ (sh:o9) (a b:D),df sh a=true->df sh b=true->i5 a b=true->a=b
 | .int,a,b,h1,h2,h=>by
  first | obtain⟨_,rfl⟩:=dQ h1 | obtain⟨_,rfl⟩:=dO h1 | obtain⟨_,rfl⟩:=dP h1
  first | obtain⟨_,rfl⟩:=dQ h2 | obtain⟨_,rfl⟩:=dO h2 | obtain⟨_,rfl⟩:=dP h2
  rw [oe] at h; rw [beq_iff_eq.mp h]
 | .tup l,a,b,h1,h2,h=>by
  first | obtain⟨_,rfl⟩:=dQ h1 | obtain⟨_,rfl⟩:=dO h1 | obtain⟨_,rfl⟩:=dP h1
  first | obtain⟨_,rfl⟩:=dQ h2 | obtain⟨_,rfl⟩:=dO h2 | obtain⟨_,rfl⟩:=dP h2
  rw [Qr l _ _ h1 h2 h]
 | .lst l,a,b,h1,h2,h=>by
  first | obtain⟨_,rfl⟩:=dQ h1 | obtain⟨_,rfl⟩:=dO h1 | obtain⟨_,rfl⟩:=dP h1
  first | obtain⟨_,rfl⟩:=dQ h2 | obtain⟨_,rfl⟩:=dO h2 | obtain⟨_,rfl⟩:=dP h2
  rw [VO l (rF l) _ _ h1 h2 h]
theorem Qr:∀ (l:List o9) (xs ys:List D),fN l xs=true->fN l ys=true->me xs ys=true->xs=ys
 | [],xs,ys,h1,h2,_=>by
  cases xs with
  | nil=>cases ys with
   | nil=>rfl
   | cons _ _=>cases h2
  | cons _ _=>cases h1
 | s :: l,xs,ys,h1,h2,h=>by
  cases xs with
  | nil=>cases h1
  | cons x xs =>
   cases ys with
   | nil=>cases h2
   | cons y ys =>
    have h1:(df s x&&fN l xs)=true:=h1;have h2:(df s y&&fN l ys)=true:=h2;have h:(i5 x y&&me xs ys)=true:=h;rw [aM] at h1 h2 h;rw [rF s x y h1.1 h2.1 h.1,Qr l xs ys h1.2 h2.2 h.2]
end
theorem Pz(s:o9)(ih:∀ (a b:D),df s a=true->df s b=true->qp a b=false->qp b a=false->a=b):∀ (xs ys:List D),ic s xs=true->ic s ys=true->oF xs ys=false->oF ys xs=false->xs=ys:=by
 intro xs;induction xs with
 | nil=>intro ys _ _ h _; cases ys with
  | nil=>rfl
  | cons _ _=>cases h
 | cons x xs Xq =>
  intro ys h1 h2 h3 h4;cases ys with
  | nil=>cases h4
  | cons y ys =>
   have h1:(df s x&&ic s xs)=true:=h1;have h2:(df s y&&ic s ys)=true:=h2;rw [aM] at h1 h2;simp only [qM] at h3 h4;by_cases e:i5 x y=true
   ·have exy:=rF s x y h1.1 h2.1 e;subst exy;rw [if_pos e] at h3 h4;rw [Xq ys h1.2 h2.2 h3 h4]
   ·rw [if_neg e] at h3;by_cases e2:i5 y x=true
    ·have:=rF s y x h2.1 h1.1 e2;subst this; exact absurd e2 e
    ·rw [if_neg e2] at h4;have:=ih x y h1.1 h2.1 h3 h4;subst this;exact absurd (lB s x h1.1) e
mutual
theorem yR:∀ (sh:o9) (a b:D),df sh a=true->df sh b=true->qp a b=false->qp b a=false->a=b
 | .int,a,b,h1,h2,h3,h4=>by
  first | obtain⟨_,rfl⟩:=dQ h1 | obtain⟨_,rfl⟩:=dO h1 | obtain⟨_,rfl⟩:=dP h1
  first | obtain⟨_,rfl⟩:=dQ h2 | obtain⟨_,rfl⟩:=dO h2 | obtain⟨_,rfl⟩:=dP h2
  simp [PA] at h3 h4; congr 1; lia
 | .tup l,a,b,h1,h2,h3,h4=>by
  first | obtain⟨_,rfl⟩:=dQ h1 | obtain⟨_,rfl⟩:=dO h1 | obtain⟨_,rfl⟩:=dP h1
  first | obtain⟨_,rfl⟩:=dQ h2 | obtain⟨_,rfl⟩:=dO h2 | obtain⟨_,rfl⟩:=dP h2
  rw [Gg l _ _ h1 h2 h3 h4]
 | .lst l,a,b,h1,h2,h3,h4=>by
  first | obtain⟨_,rfl⟩:=dQ h1 | obtain⟨_,rfl⟩:=dO h1 | obtain⟨_,rfl⟩:=dP h1
  first | obtain⟨_,rfl⟩:=dQ h2 | obtain⟨_,rfl⟩:=dO h2 | obtain⟨_,rfl⟩:=dP h2
  rw [Pz l (yR l) _ _ h1 h2 h3 h4]
theorem Gg:∀ (l:List o9) (xs ys:List D),fN l xs=true->fN l ys=true->oF xs ys=false->oF ys xs=false->xs=ys
 | [],xs,ys,h1,h2,_,_=>by
  cases xs with
  | nil=>cases ys with
   | nil=>rfl
   | cons _ _=>cases h2
  | cons _ _=>cases h1
 | s :: l,xs,ys,h1,h2,h3,h4=>by
  cases xs with
  | nil=>cases h1
  | cons x xs =>
   cases ys with
   | nil=>cases h2
   | cons y ys =>
    have h1:(df s x&&fN l xs)=true:=h1;have h2:(df s y&&fN l ys)=true:=h2;rw [aM] at h1 h2;simp only [qM] at h3 h4;by_cases e:i5 x y=true
    ·have exy:=rF s x y h1.1 h2.1 e;subst exy;rw [if_pos e] at h3 h4;rw [Gg l xs ys h1.2 h2.2 h3 h4]
    ·rw [if_neg e] at h3;by_cases e2:i5 y x=true
     ·have:=rF s y x h2.1 h1.1 e2;subst this; exact absurd e2 e
     ·rw [if_neg e2] at h4;have:=yR s x y h1.1 h2.1 h3 h4;subst this;exact absurd (lB s x h1.1) e
end
mutual
theorem DN:∀ (sh:o9) (a:D),df sh a=true->qp a a=false
 | .int,.int i,_=>by rw [PA]; exact decide_eq_false (Int.lt_irrefl _)
 | .tup l,.tup xs,h=>by show oF xs xs=false; exact Gh l xs h
 | .lst l,.ez xs,h=>by show oF xs xs=false; exact Gi l xs h
theorem Gh:∀ (l:List o9) (xs:List D),fN l xs=true->oF xs xs=false
 | [],[],_=>rfl
 | s :: l,x :: xs,h=>by
  have h:(df s x&&fN l xs)=true:=h;rw [aM] at h;simp only [qM,lB s x h.1,if_true]; exact Gh l xs h.2
theorem Gi:∀ (s:o9) (xs:List D),ic s xs=true->oF xs xs=false
 | _,[],_=>rfl
 | s,x :: xs,h=>by
  have h:(df s x&&ic s xs)=true:=h;rw [aM] at h;simp only [qM,lB s x h.1,if_true]; exact Gi s xs h.2
end
theorem Jn(s:o9)(ih:∀ (a b c:D),df s a=true->df s b=true->df s c=true->qp a b=true->qp b c=true->qp a c=true):∀ (xs ys zs:List D),ic s xs=true->ic s ys=true->ic s zs=true->oF xs ys=true->oF ys zs=true->oF xs zs=true:=by
 intro xs;induction xs with
 | nil =>
  intro ys zs _ _ _ h4 h5;cases ys with
  | nil=>cases h4
  | cons _ _=>cases zs with
   | nil=>cases h5
   | cons _ _=>rfl
 | cons x xs Xq =>
  intro ys zs h1 h2 h3 h4 h5;cases ys with
  | nil=>cases h4
  | cons y ys =>
   cases zs with
   | nil=>cases h5
   | cons z zs =>
    have h1:(df s x&&ic s xs)=true:=h1;have h2:(df s y&&ic s ys)=true:=h2;have h3:(df s z&&ic s zs)=true:=h3;rw [aM] at h1 h2 h3;simp only [qM] at h4 h5 ⊢;by_cases e1:i5 x y=true
    ·have:=rF s x y h1.1 h2.1 e1;subst this;rw [if_pos e1] at h4;by_cases e2:i5 x z=true
     ·rw [if_pos e2] at h5 ⊢;exact Xq ys zs h1.2 h2.2 h3.2 h4 h5
     ·rw [if_neg e2] at h5 ⊢; exact h5
    ·rw [if_neg e1] at h4;by_cases e2:i5 y z=true
     ·have:=rF s y z h2.1 h3.1 e2;subst this;rw [if_neg e1]; exact h4
     ·rw [if_neg e2] at h5;have h6:=ih x y z h1.1 h2.1 h3.1 h4 h5;rw [if_neg (fun e3=>by
       have:=rF s x z h1.1 h3.1 e3;subst this;rw [DN s x h1.1] at h6; cases h6)]
      exact h6
mutual
theorem t6:∀ (sh:o9) (a b c:D),df sh a=true->df sh b=true->df sh c=true->qp a b=true->qp b c=true->qp a c=true
 | .int,a,b,c,h1,h2,h3,h4,h5=>by
  first | obtain⟨_,rfl⟩:=dQ h1 | obtain⟨_,rfl⟩:=dO h1 | obtain⟨_,rfl⟩:=dP h1
  first | obtain⟨_,rfl⟩:=dQ h2 | obtain⟨_,rfl⟩:=dO h2 | obtain⟨_,rfl⟩:=dP h2
  first | obtain⟨_,rfl⟩:=dQ h3 | obtain⟨_,rfl⟩:=dO h3 | obtain⟨_,rfl⟩:=dP h3
  simp [PA] at *; lia
 | .tup l,a,b,c,h1,h2,h3,h4,h5=>by
  first | obtain⟨_,rfl⟩:=dQ h1 | obtain⟨_,rfl⟩:=dO h1 | obtain⟨_,rfl⟩:=dP h1
  first | obtain⟨_,rfl⟩:=dQ h2 | obtain⟨_,rfl⟩:=dO h2 | obtain⟨_,rfl⟩:=dP h2
  first | obtain⟨_,rfl⟩:=dQ h3 | obtain⟨_,rfl⟩:=dO h3 | obtain⟨_,rfl⟩:=dP h3
  exact z9 l _ _ _ h1 h2 h3 h4 h5
 | .lst l,a,b,c,h1,h2,h3,h4,h5=>by
  first | obtain⟨_,rfl⟩:=dQ h1 | obtain⟨_,rfl⟩:=dO h1 | obtain⟨_,rfl⟩:=dP h1
  first | obtain⟨_,rfl⟩:=dQ h2 | obtain⟨_,rfl⟩:=dO h2 | obtain⟨_,rfl⟩:=dP h2
  first | obtain⟨_,rfl⟩:=dQ h3 | obtain⟨_,rfl⟩:=dO h3 | obtain⟨_,rfl⟩:=dP h3
  exact Jn l (t6 l) _ _ _ h1 h2 h3 h4 h5
theorem z9:∀ (l:List o9) (xs ys zs:List D),fN l xs=true->fN l ys=true->fN l zs=true->oF xs ys=true->oF ys zs=true->oF xs zs=true
 | [],xs,ys,zs,h1,h2,_,h,_=>by
  cases xs with
  | nil=>cases ys with
   | nil=>cases h
   | cons _ _=>cases h2
  | cons _ _=>cases h1
 | s :: l,xs,ys,zs,h1,h2,h3,h4,h5=>by
  cases xs with
  | nil=>cases h1
  | cons x xs =>
   cases ys with
   | nil=>cases h2
   | cons y ys =>
    cases zs with
    | nil=>cases h3
    | cons z zs =>
     have h1:(df s x&&fN l xs)=true:=h1;have h2:(df s y&&fN l ys)=true:=h2;have h3:(df s z&&fN l zs)=true:=h3;rw [aM] at h1 h2 h3;simp only [qM] at h4 h5 ⊢;by_cases e1:i5 x y=true
     ·have:=rF s x y h1.1 h2.1 e1;subst this;rw [if_pos e1] at h4;by_cases e2:i5 x z=true
      ·rw [if_pos e2] at h5 ⊢;exact z9 l xs ys zs h1.2 h2.2 h3.2 h4 h5
      ·rw [if_neg e2] at h5 ⊢; exact h5
     ·rw [if_neg e1] at h4;by_cases e2:i5 y z=true
      ·have:=rF s y z h2.1 h3.1 e2;subst this;rw [if_neg e1]; exact h4
      ·rw [if_neg e2] at h5;have h6:=t6 s x y z h1.1 h2.1 h3.1 h4 h5;rw [if_neg (fun e3=>by
        have:=rF s x z h1.1 h3.1 e3;subst this;rw [DN s x h1.1] at h6; cases h6)]
       exact h6
end
theorem Ci(sh:o9){a b:D}(h1:df sh a=true)(h2:df sh b=true)(h:qp a b=true):qp b a=false:=by
 cases q:qp b a with
 | false=>rfl
 | true=>have:=t6 sh a b a h1 h2 h1 h q; rw [DN sh a h1] at this; cases this
theorem Aa(sh:o9){a b c:D}(h1:df sh a=true)(h2:df sh b=true)(h3:df sh c=true)(q1:qp b a=false)(q2:qp c b=false):qp c a=false:=by
 cases h:qp c a with
 | false=>rfl
 | true =>
  exfalso;cases q:qp a b with
  | false =>
   have:=yR sh a b h1 h2 q q1;subst this; rw [h] at q2; cases q2
  | true=>rw [t6 sh c a b h3 h1 h2 h q] at q2; cases q2
theorem vT(sh:o9){xs ys:List D}(hx:∀ x∈xs,df sh x=true)(hp:ys.Perm xs)(hs:ys.Pairwise fun a b=>qp b a=false):sD xs=ys:=by
 have hy:∀ y∈ys,df sh y=true:=fun y h=>hx y (hp.mem_iff.mp h);have p1:(sD xs).Perm xs:=List.mergeSort_perm xs Rt;have hz:∀ z∈sD xs,df sh z=true:=fun z h=>hx z (p1.mem_iff.mp h);have s1:(sD xs).Pairwise fun a b=>qp b a=false:=by
  let WJ:List { d:D // df sh d=true }:=xs.attach.map fun x=>⟨x.1,hx x.1 x.2⟩
  have ex:xs=WJ.map (·.1):=by
   simp only [WJ,bA]
   conv=>lhs; rw [<-List.attach_map_subtype_val xs]
   rfl
  have e2:sD xs=(WJ.mergeSort fun a b=>Rt a.1 b.1).map (·.1):=by
   unfold sD;rw [ex];exact(List.map_mergeSort (r:=fun (a b:{ d:D // df sh d=true })=>Rt a.1 b.1) (s:=Rt) (f:=fun x=>x.1) (l:=WJ) fun a _ b _=>rfl).symm
  rw [e2,iP]
  have:=List.pairwise_mergeSort (le:=fun (a b:{ d:D // df sh d=true })=>Rt a.1 b.1) (fun a b c h1 h2=>by
   unfold Rt at *;simp only [Bool.not_eq_true'] at *;exact Aa sh a.2 b.2 c.2 h1 h2) (fun a b=>by
   unfold Rt;cases q:qp b.1 a.1 with
   | false=>rfl
   | true=>rw [Ci sh b.2 a.2 q]; rfl) WJ
  exact this.imp fun h=>by unfold Rt at h; simpa using h
 refine List.Perm.eq_of_pairwise (le:=fun a b=>qp b a=false) (fun a b ha hb h h'=>?_) s1 hs (p1.trans hp.symm);exact yR sh a b (hz a ha) (hy b hb) h' h
end K2
end
section
namespace K2
open PySem (Str)
open Enc (enc)
noncomputable def og(k:Nat):List D->List D
 | []=>[]
 | d :: r=>.tup [.int (k:Int),d] :: og (k+1) r
theorem CH:∀ (ds:List D) (k i:Nat),(og k ds)[i]?=(ds[i]?).map fun d=>D.tup [.int ((k+i:Nat):Int),d]
 | [],k,i=>by simp [og]
 | d :: r,k,0=>by simp [og]
 | d :: r,k,i+1=>by
  rw [og,ae,CH r (k+1) i,ae];congr 1; funext x; congr 3; lia
theorem CG:∀ (ds:List D) (k:Nat),(og k ds).length=ds.length
 | [],_=>rfl
 | d :: r,k=>by rw [og,ai,ai,CG r]
noncomputable def wL(x:D)(G1:Gp)(R:List D->(Gp->Prop)->Gp->Prop):Prop:=match x with
 | .ez ds=>R (og 0 ds) (fun _=>True) G1
 | .ref p=>(match G1 p with
  | some (.lst ds)=>R (og 0 ds) (fun G2=>G2 p=some (.lst ds)) G1
  | _=>False)
 | _=>False
noncomputable def PX(a:gG):NW:=fun E τ G R=>a E τ G fun x G1=>wL x G1 R
noncomputable def Z8(P:D->Gp->Prop):List D->Gp->Prop
 | [x],G=>P x G
 | _,_=>False
noncomputable def W6(P:D->D->Gp->Prop):List D->Gp->Prop
 | [x,y],G=>P x y G
 | _,_=>False
noncomputable def uE:List D->List D->List D
 | x :: xs,y :: ys=>.tup [x,y] :: uE xs ys
 | _,_=>[]
theorem E7:∀ (xs ys:List D) (i:Nat),(uE xs ys)[i]?=(xs[i]?).bind fun x=>(ys[i]?).map fun y=>D.tup [x,y]
 | [],ys,i=>by simp [uE]
 | x :: xs,[],i=>by cases h:(x :: xs)[i]? <;> simp [uE]
 | x :: xs,y :: ys,0=>by simp [uE]
 | x :: xs,y :: ys,i+1=>by rw [uE,ae,E7 xs ys i,ae,ae]
theorem E6:∀ (xs ys:List D),(uE xs ys).length=min xs.length ys.length
 | [],ys=>by simp [uE]
 | x :: xs,[]=>by simp [uE]
 | x :: xs,y :: ys=>by rw [uE,ai,E6 xs ys,ai,ai]; lia
noncomputable def Ac(x:D)(G:Gp):Option (List D×(Gp->Prop)):=match x with
 | .ez ds=>some (ds,fun _=>True)
 | .ref p=>(match G p with
  | some (.lst ds)=>some (ds,fun G2=>G2 p=some (.lst ds))
  | _=>none)
 | _=>none
noncomputable def As(x y:D)(G1:Gp)(R:List D->(Gp->Prop)->Gp->Prop):Prop:=match Ac x G1,Ac y G1 with
 | some (xs,k1),some (ys,k2)=>R (uE xs ys) (fun G2=>k1 G2/\k2 G2) G1
 | _,_=>False
noncomputable def Vq(a b:gG):NW:=fun E τ G R=>a E τ G fun x G1=>b E τ G1 fun y G2=>As x y G2 R
noncomputable def mZ(x:D)(G1:Gp)(R:List D->(Gp->Prop)->Gp->Prop):Prop:=match x with
 | .gZ kvs=>R (kvs.map (·.1)) (fun _=>True) G1
 | _=>False
noncomputable def gC(a:gG):NW:=fun E τ G R=>a E τ G fun x G1=>mZ x G1 R
noncomputable def IsL(G:Gp)(d:D)(ds:List D):Prop:=d=.ez ds\/∃ a,d=.ref a/\G a=some (.lst ds)
theorem IsL.ez{G:Gp}{ds:List D}:IsL G (.ez ds) ds:=.inl rfl
theorem IsL.enc{α:Type} [DecidableEq α] [Enc α]{G:Gp}(xs:List α):IsL G (enc xs) (xs.map enc):=.inl rfl
theorem IsL.ref{G:Gp}{a:Nat}{ds:List D}(h:G a=some (.lst ds)):IsL G (.ref a) ds:=.inr ⟨a,rfl,h⟩
theorem Oz{G:Gp}{d:D}{ds:List D}{Q:Bool->Gp->Prop}(h:IsL G d ds)(k:Q (!ds.isEmpty) G):uJ d G Q:=by
 rcases h with rfl | ⟨a,rfl,e⟩
 ·exact k
 ·rw [L8 e]; exact k
theorem qQ{G:Gp}{d:D}{ds:List D}(h:IsL G d ds):itemsOf d G=some ds:=by
 rcases h with rfl | ⟨a,rfl,e⟩
 ·rfl
 ·unfold itemsOf; simp only [e]
theorem ID{G:Gp}{d:D}{ds:List D}(h:IsL G d ds):C8 d G:=by
 rcases h with rfl | ⟨a,rfl,e⟩
 ·trivial
 ·unfold C8; simp only [e]
theorem Dq{G:Gp}{d:D}{ds:List D}{lo hi:Option Int}{Q:DK}(h:IsL G d ds)(k:gx G (.lst (cut ds lo hi)) Q):UZ d lo hi G Q:=by
 rcases h with rfl | ⟨a,rfl,e⟩
 ·exact k
 ·rw [R7 e]; exact k
theorem LK{G:Gp}{d:D}{ds:List D}{Q:DK}(h:IsL G d ds)(k:Q (.int (ds.length:Int)) G):AW [d] G Q:=by
 rcases h with rfl | ⟨a,rfl,e⟩
 ·exact k
 ·rw [QR e]; exact k
theorem QQ{G:Gp}{d:D}{ds:List D}{Q:DK}(h:IsL G d ds)(k:gx G (.lst ds) Q):AV [d] G Q:=by
 unfold AV; simp only [qQ h]; exact k
theorem rj{α:Type} [DecidableEq α] [Enc α] [bV α]{G:Gp}{d:D}{xs:List α}{Q:DK}(h:IsL G d (xs.map enc))(hl:xs.length < 64)(k:gx G (.lst ((NM xs).map enc)) Q)(ok:autoParam (Ph (bV.Di α)=true) Ad._auto_1):rm [d] G Q :=
 ⟨bV.Di α,xs.map enc,ID h,qQ h,by rw [xl,fB]; intro x _; exact bV.M0 x,ok,by rw [ao]; exact hl,by rw [Md]; exact k⟩
theorem u3{G:Gp}{d x:D}{ds:List D}{i:Int}{Q:DK}(h:IsL G d ds)(e:vC ds i=some x)(k:Q x G):jm d (.int i) G Q:=by
 rcases h with rfl | ⟨a,rfl,e2⟩
 ·rw [R8 e]; exact k
 ·rw [R9 e2 e]; exact k
theorem wz{G:Gp}{d:D}{ds:List D}(h:IsL G d ds):ma d G=some ds:=by
 rcases h with rfl | ⟨a,rfl,e⟩
 ·rfl
 ·unfold ma; simp only [e]
theorem LS{G:Gp}{d e:D}{ds es:List D}{Q:DK}(h:IsL G d ds)(h':IsL G e es)(hz:ds.length+es.length<=SZ)(k:gx G (.lst (ds++es)) Q):Ke d e G Q:=by
 unfold Ke; simp only [wz h,wz h']; exact⟨hz,k⟩
theorem yM{G:Gp}{d e:D}{ds es:List D}{Q:DK}(h:IsL G d ds)(h':IsL G e es)(hz:ds.length+es.length<=SZ)(k:gx G (.lst (ds++es)) Q):iH d e G Q:=by
 have:=LS h h' hz k;rcases h with rfl | ⟨a,rfl,_⟩
 ·rw [l6]; exact this
 ·rw [nR]; exact this
theorem Hn{α:Type}(xs:List α)(i:Nat)(h:i<=xs.length):cut xs (some (i:Int)) none=xs.drop i:=by
 unfold cut jZ;simp only;rw [if_neg (by lia),eF,Nat.min_eq_left h];exact Of (by rw [cI]; lia)
theorem QK{α:Type}(xs:List α)(i:Nat)(h:i<=xs.length):cut xs none (some (i:Int))=xs.take i:=by
 unfold cut jZ;simp only;rw [if_neg (by lia),eF,Nat.min_eq_left h];simp
theorem wZ{α β:Type}(f:α->β)(xs:List α)(lo hi:Option Int):cut (xs.map f) lo hi=(cut xs lo hi).map f:=by
 unfold cut; rw [ao,List.map_take,List.map_drop]
theorem uq{α:Type}(xs:List α){k:Int}(h0:0<=k)(h1:k < xs.length):vC xs k=some (xs[k.toNat]'(by lia)):=by
 unfold vC Ju;rw [if_pos h0,if_pos h1];show xs[k.toNat]?=_;exact ax (by lia)
theorem zM{n:Nat}{pre post:List D}{d:D}(h:gH 0 n=pre++d :: post):d=.int (pre.length:Int)/\pre.length < n:=by
 have hl:pre.length < n:=by
  have:=congrArg dh h;simp [gH] at this; lia
 have:=congrArg (fun l=>l[pre.length]?) h;simp only [gH,bz,List.getElem?_range hl] at this;rw [bH (aF _)] at this;simp at this;exact⟨this.symm,hl⟩
noncomputable def UP{α β:Type} [DecidableEq α] [Enc α] [DecidableEq β] [Enc β](pre:α->Prop)(f:α->β):kN:=fun ds G Q _=>∃ a:α,ds=[enc a]/\pre a/\Q (enc (f a)) G
noncomputable def WQ{α β γ:Type} [DecidableEq α] [Enc α] [DecidableEq β] [Enc β] [DecidableEq γ] [Enc γ](pre:α->β->Prop)(f:α->β->γ):kN:=fun ds G Q _=>∃ (a:α) (b:β),ds=[enc a,enc b]/\pre a b/\Q (enc (f a b)) G
end K2
end
section
namespace K2
open PySem (Str)
open Enc (enc)
noncomputable def Z0:BR
 | .int i,.int j,G,Q=>(0<=j/\j<=1000000/\i.natAbs < 2 ^ 64)/\Q (.int (i ^ j.toNat)) G
 | _,_,_,_=>False
noncomputable def oH:Nat:=2 ^ 4000
noncomputable def zN:BR
 | .int i,.int j,G,Q=>(i.natAbs < oH/\j.natAbs < oH)/\Q (.int (i * j)) G
 | _,_,_,_=>False
theorem sS{i j:Int}{G:Gp}{Q:DK}:Z0 (.int i) (.int j) G Q=((0<=j/\j<=1000000/\i.natAbs < 2 ^ 64)/\Q (.int (i ^ j.toNat)) G):=rfl
theorem k9{i j:Int}{G:Gp}{Q:DK}:zN (.int i) (.int j) G Q=((i.natAbs < oH/\j.natAbs < oH)/\Q (.int (i * j)) G):=rfl
noncomputable def uS:D->Gp->Option (List (D×D))
 | .gZ kvs,_=>some kvs
 | .ref a,G=>match G a with
  | some (.dI kvs)=>some kvs
  | _=>none
 | _,_=>none
noncomputable def wG(kvs:List (D×D)):Bool:=kvs.all fun p=>dU p.1
noncomputable def AY(ds:List D)(G:Gp)(Q:DK):Prop:=match ds with
 | [x]=>∃ kvs,uS x G=some kvs/\wG kvs=true/\kvs.length<=SZ/\gx G (.dI kvs) Q
 | _=>False
noncomputable def DM(x:D)(ds:List D)(G:Gp)(Q:DK):Prop:=match ds with
 | [k,d]=>∃ kvs,uS x G=some kvs/\wG kvs=true/\dU k=true/\Q ((look kvs k).getD d) G
 | _=>False
noncomputable def Gw(x:D)(G1:Gp)(R:List D->(Gp->Prop)->Gp->Prop):Prop:=match x with
 | .gZ kvs=>wG kvs=true/\R (kvs.map fun p=>.tup [p.1,p.2]) (fun _=>True) G1
 | _=>False
noncomputable def ib(a:gG):NW:=fun E τ G R=>a E τ G fun x G1=>Gw x G1 R
noncomputable def u7:D->Bool
 | .fh=>true
 | .bl _=>true
 | .int _=>true
 | _=>false
noncomputable def J4(sp:kN)(t:EW):gG:=fun E τ G Q=>t E τ G fun ds G1=>match ds with
 | [.ref p]=>∃ kvs,G1 p=some (.dI kvs)/\sp [.gZ kvs] (fun _=>none) (fun x G2=>(u7 x=true/\Q x G1)\/∃ q PF,x=.ref q/\G2 q=some (.dI PF)/\(PF.all fun p=>dU p.1&&u7 p.2)=true/\gx G1 (.dI PF) Q) fun _ _=>False
 | _=>False
noncomputable def uT(k v:gG):gG:=fun E τ G Q=>k E τ G fun x G1=>v E τ G1 fun y G2=>dU x=true/\gx G2 (.dI [(x,y)]) Q
noncomputable def rS(l m:List (Int×Int)):Bool:=l.length == m.length&&l.all fun p=>cB m p.1 == some p.2
noncomputable def U0(neg:Bool):BR:=fun x y G Q=>∃ l m:List (Int×Int),uS x G=some (aR l)/\uS y G=some (aR m)/\Q (.bl (if neg then !rS l m else rS l m)) G
noncomputable def FH(neg:Bool):BR:=fun x y G Q=>FI neg x y G Q\/U0 neg x y G Q
noncomputable def tG{κ α:Type} [DecidableEq κ] [Enc κ] [DecidableEq α] [Enc α](G:Gp)(d:D)(l:List (κ×α)):Prop:=uS d G=some (aR l)
section
variable {κ α:Type} [DecidableEq κ] [Enc κ] [DecidableEq α] [Enc α] {l:List (κ×α)} {G G':Gp} {d:D}
theorem tG.ref{a:Nat}(h:G a=some (.dI (aR l))):tG G (.ref a) l:=by unfold tG uS; simp only [h]
theorem tG.gZ:tG G (.gZ (aR l)) l:=rfl
theorem tG.inv(h:tG G d l):d=.gZ (aR l)\/∃ a,d=.ref a/\G a=some (.dI (aR l)):=by
 unfold tG uS at h;split at h
 ·exact .inl (by rw [bx h])
 ·rename_i a;split at h
  ·rename_i kvs e;exact .inr ⟨a,rfl,by rw [e,bx h]⟩
  ·cases h
 ·cases h
theorem tG.mono(h:tG G d l)(le:eY G G'):tG G' d l:=by
 rcases h.inv with rfl | ⟨a,rfl,e⟩
 ·exact .gZ
 ·exact .ref (le a _ e)
noncomputable def Uq(_:Gp)(d:D)(l:List (κ×α)):Prop:=d=.gZ (aR l)
theorem Uq.p(h:Uq G d l):tG G' d l:=by unfold Uq at h; rw [h]; exact .gZ
theorem kd{β:Type} [DecidableEq β] [Enc β](l:List (Int×β)):wG (aR l)=true:=by
 unfold wG aR; rw [xl,fB]; intro p _; rfl
theorem CJ(l:List (κ×α)):(aR l).length=l.length:=by unfold aR; rw [ao]
theorem C9(h:tG G d l):Ow d G:=by
 rcases h.inv with rfl | ⟨a,rfl,e⟩
 ·trivial
 ·unfold Ow; simp only [e]
theorem PS {C:String} {Q:DK} (h:tG G d l) (k:Q (.bl (C == "dict")) G):isAt C d G Q:=by
 rcases h.inv with rfl | ⟨a,rfl,e⟩
 ·exact k
 ·rw [PR]; simp only [e]; exact k
end
section
variable {α:Type} [DecidableEq α] [Enc α] {l:List (Int×α)} {G:Gp} {d:D}
theorem AX{Q:DK}(h:tG G d l)(hs:l.length<=SZ)(k:gx G (.dI (aR l)) Q):AY [d] G Q:=⟨_,h,kd l,by rw [CJ]; exact hs,k⟩
theorem SA{Q:DK}{i:Int}{e:α}(h:tG G d l)(k:Q (enc ((cB l i).getD e)) G):DM d [.int i,enc e] G Q:=by
 refine⟨_,h,kd l,rfl,?_⟩;have:(look (aR l) (.int i)).getD (enc e)=enc ((cB l i).getD e):=by
  rw [show (D.int i)=enc i from rfl,i9]; cases cB l i <;> rfl
 rw [this]; exact k
theorem jb{G0:Gp}{R:List D->(Gp->Prop)->Gp->Prop}(h:Uq G0 d l)(le0:eY G0 G)(k:∀ ok:Gp->Prop,(∀ G',eY G0 G'->ok G')->R (l.map fun p=>.tup [.int p.1,enc p.2]) ok G):Gw d G R:=by
 unfold Uq at h;rw [h];refine⟨kd l,?_⟩;have:(aR l).map (fun p=>D.tup [p.1,p.2])=l.map fun p=>.tup [.int p.1,enc p.2]:=by unfold aR; rw [bA]; rfl
 rw [this];exact k _ fun G' le=>trivial
theorem lz{G0:Gp}{R:List D->(Gp->Prop)->Gp->Prop}(h:Uq G0 d l)(le0:eY G0 G)(k:∀ ok:Gp->Prop,(∀ G',eY G0 G'->ok G')->R (l.map fun p=>.int p.1) ok G):mZ d G R:=by
 unfold Uq at h;rw [h];show R ((aR l).map (·.1)) _ G;have:(aR l).map (·.1)=l.map fun p=>D.int p.1:=by unfold aR; rw [bA]; rfl
 rw [this];exact k _ fun G' le=>trivial
theorem uP{i:Int}{v:α}{Q:DK}(h:tG G d l)(e:cB l i=some v)(k:Q (enc v) G):jm d (.int i) G Q:=by
 have hk:h8 (aR l) (.int i)=true:=fA l i;have hl:look (aR l) (.int i)=some (enc v):=by rw [show (D.int i)=enc i from rfl,i9,e]; rfl
 rcases h.inv with rfl | ⟨a,rfl,e⟩
 ·rw [lL,hl]; exact⟨hk,k⟩
 ·rw [KY,e]; simp only [hl]; exact⟨hk,k⟩
theorem dB{a:Nat}{i:Int}{v:α}{Q:Gp->Prop}(h:G a=some (.dI (aR l)))(hs:l.length < SZ)(k:Q (c7 G a (.dI (aR (dJ l i v))))):zx (.ref a) (.int i) (enc v) G Q:=by
 unfold zx;simp only [h];refine⟨fA l i,by rw [CJ]; exact hs,?_⟩;rw [show (D.int i)=enc i from rfl,K1]; exact k
end
theorem FG{neg:Bool}{G:Gp}{d e:D}{l m:List (Int×Int)}{Q:DK}(h1:tG G d l)(h2:tG G e m)(k:Q (.bl (if neg then !rS l m else rS l m)) G):FH neg d e G Q:=.inr ⟨l,m,h1,h2,k⟩
theorem OX{neg:Bool}{G:Gp}{i j:Int}{Q:DK}(k:Q (.bl (if neg then !decide (i=j) else decide (i=j))) G):FH neg (.int i) (.int j) G Q:=.inl ⟨_,_,.int _,.int _,by
 have:i5 (.int i) (.int j)=decide (i=j):=Enc.eqv i j;rw [this]; exact k⟩
end K2
end
section
namespace K2
open PySem (Str)
open Enc (enc)
noncomputable abbrev TF2:=mO->iX->Gp->(List Str->Gp->Prop)->Prop
end K2
end
section
namespace K2
open PySem (Str)
open Enc (enc)
noncomputable def VY(ds:List D)(G:Gp)(Q:DK):Prop:=match ds with
 | [x]=>∃ ns:List Int,C8 x G/\itemsOf x G=some (ns.map D.int)/\(ns.length<=1000/\∀ n∈ns,-1000<=n/\n<=1000)/\Q (.int ns.sum) G
 | _=>False
end K2
end
section
namespace K2
open PySem (Str)
open Enc (enc)
noncomputable def cInt(ds:List D)(G:Gp)(Q:DK):Prop:=match ds with
 | [.bl b]=>Q (.int (if b=true then 1 else 0)) G
 | _=>False
end K2
end
section
namespace K2
open PySem (Str)
noncomputable def S8(ds:List D):List D:=ds.foldl (fun acc d=>if acc.any (i5 · d)=true then acc else acc++[d]) []
noncomputable def Et(ds:List D)(G:Gp)(Q:DK):Prop:=match ds with
 | [x]=>∃ zs:List D,C8 x G/\itemsOf x G=some zs/\(zs.length<=76/\zs.all mH=true)/\Q (.int ((S8 zs).length:Int)) G
 | _=>False
end K2
end
section
namespace K2
open PySem (Str)
noncomputable def Lg(x:D)(ds:List D)(G:Gp)(Q:DK):Prop:=match x,ds with
 | .ref a,[k,d]=>∃ kvs,G a=some (.dI kvs)/\h8 kvs k=true/\Q ((look kvs k).getD d) G
 | _,_=>False
noncomputable def Hl(k v k2 v2:gG):gG:=fun E τ G Q=>k E τ G fun x G1=>v E τ G1 fun y G2=>k2 E τ G2 fun x2 G3=>v2 E τ G3 fun y2 G4=>(dU x=true/\dU x2=true/\i5 x x2=false)/\gx G4 (.dI [(x,y),(x2,y2)]) Q
noncomputable def MS(x:D)(G1:Gp)(R:List D->(Gp->Prop)->Gp->Prop):Prop:=match x with
 | .gZ kvs=>(kvs.all fun p=>mH p.1)=true/\R (kvs.map fun p=>.tup [p.1,p.2]) (fun _=>True) G1
 | _=>False
noncomputable def DS(a:gG):NW:=fun E τ G R=>a E τ G fun x G1=>MS x G1 R
theorem Py{κ α:Type} [DecidableEq κ] [Enc κ] [pN κ] [DecidableEq α] [Enc α]{a:Nat}{l:List (κ×α)}{k:κ}{e:α}{G:Gp}{Q:DK}(h:G a=some (.dI (aR l)))(q:Q (Enc.enc ((cB l k).getD e)) G):Lg (.ref a) [Enc.enc k,Enc.enc e] G Q:=by
 refine⟨_,h,fA _ _,?_⟩;have:(look (aR l) (Enc.enc k)).getD (Enc.enc e)=Enc.enc ((cB l k).getD e):=by
  rw [i9]; cases cB l k <;> rfl
 rw [this]; exact q
end K2
end
section
namespace K2
open PySem (Str)
noncomputable def QH(a b:gG):gG:=fun E τ G Q=>a E τ G fun x G1=>b E τ G1 fun y G2=>∃ ks vs:List Int,ma x G2=some (ks.map D.int)/\ma y G2=some (vs.map D.int)/\(ks.Nodup/\ks.length=vs.length/\ks.length<=1000)/\gx G2 (.dI (aR (ks.zip vs))) Q
noncomputable def QI(kv:List (Int×Int)):gG:=fun _ _ G Q=>gx G (.dI (aR kv)) Q
noncomputable def VR(kv:List (Int×Int))(t:gG):gG:=fun E τ G Q=>t E τ G fun y G1=>∃ m:List (Int×Int),uS y G1=some (aR m)/\Q (.bl (rS kv m)) G1
end K2
end
section
namespace K2
open PySem (Str)
open Enc (enc)
noncomputable def h2(t:T2):Int:=PySem.reduceHash (PySem.Builtin.Tuple.tupleHashOf [PySem.hashInt t.a,PySem.hashInt t.b])
end K2
end
section
namespace K2.S
open PySem PySem.SetTable
noncomputable def f5(m i:Nat):Nat:=(i * 5+1) % (m+1)
noncomputable def Ru(m:Nat):Nat->Nat->Nat
 | 0,i=>i
 | k+1,i=>Ru m k (f5 m i)
theorem yT(m:Nat):∀ (a b i:Nat),Ru m (a+b) i=Ru m b (Ru m a i)
 | 0,b,i=>by rw [oB]; rfl
 | a+1,b,i=>by rw [RJ]; exact yT m a b (f5 m i)
noncomputable def Mk(m:Nat):Prop:=m=7\/m=31\/m=127
noncomputable def W3(m:Nat):Nat->Nat->List Nat
 | 0,_=>[]
 | k+1,i=>i :: W3 m k (f5 m i)
theorem DE(m:Nat):∀ (n i e:Nat),e∈W3 m n i->∃ k,k < n/\Ru m k i=e
 | 0,_,_,h=>by cases h
 | n+1,i,e,h=>by
  rcases List.mem_cons.mp h with rfl | h
  ·exact⟨0,lF _,rfl⟩
  ·obtain⟨k,hk,q⟩:=DE m n (f5 m i) e h;exact⟨k+1,Nat.succ_lt_succ hk,q⟩
theorem Sq{m:Nat}(h:Mk m):(∀ e,e < m+1->e∈W3 m (m+1) 0)/\Ru m (m+1) 0=0:=by
 have key:∀ m,((c9 (m+1)).all fun e=>(W3 m (m+1) 0).contains e)=true->Ru m (m+1) 0=0->(∀ e,e < m+1->e∈W3 m (m+1) 0)/\Ru m (m+1) 0=0:=fun m h1 h2 =>
  ⟨fun e he=>by simpa using (List.all_eq_true.mp h1) e (List.mem_range.mpr he),h2⟩
 rcases h with rfl | rfl | rfl
 ·exact key _ (by decide +kernel) (by decide +kernel)
 ·exact key _ (by decide +kernel) (by decide +kernel)
 ·exact key _ (by decide +kernel) (by decide +kernel)
theorem cover{m:Nat}(h:Mk m){i e:Nat}(hi:i < m+1)(he:e < m+1):∃ k,k < m+1/\Ru m k i=e:=by
 obtain⟨all,back⟩:=Sq h;obtain⟨a,ha,qa⟩:=DE m _ _ _ (all i hi);obtain⟨b,hb,qb⟩:=DE m _ _ _ (all e he);by_cases c:a<=b
 ·refine⟨b - a,by lia,?_⟩;rw [<-qa,<-yT,show a+(b - a)=b by lia,qb]
 ·refine⟨m+1 - a+b,by lia,?_⟩;rw [<-qa,<-yT,show a+(m+1 - a+b)=(m+1)+b by lia,yT,back,qb]
noncomputable def lp(m:Nat):Nat->Nat×Nat->Nat×Nat
 | 0,x=>x
 | k+1,x=>lp m k (leap m x.1 x.2)
theorem PB(m:Nat):∀ (a b:Nat) (x:Nat×Nat),lp m (a+b) x=lp m b (lp m a x)
 | 0,b,i=>by rw [oB]; rfl
 | a+1,b,i=>by rw [RJ]; exact PB m a b _
theorem Lj(m:Nat):∀ (k:Nat) (x:Nat×Nat),(lp m k x).2=x.2 / 32 ^ k
 | 0,x=>by rw [Nat.pow_zero,Nat.div_one]; rfl
 | k+1,x=>by
  show (lp m k _).2=_;rw [Lj m k];show x.2 / 32 / 32 ^ k=_;rw [Nat.div_div_eq_div_mul,xt,Nat.mul_comm]
theorem Li(m:Nat):∀ (k i:Nat),lp m k (i,0)=(Ru m k i,0)
 | 0,_=>rfl
 | k+1,i=>by
  show lp m k ((i * 5+1+0 / 32) % (m+1),0 / 32)=_;rw [Nat.zero_div,Nat.add_zero];exact Li m k _
theorem T6(m:Nat):∀ (k:Nat) (x:Nat×Nat),x.1 < m+1->(lp m k x).1 < m+1
 | 0,_,h=>h
 | k+1,x,_=>T6 m k _ (uB _ (lF m))
theorem Gk{m:Nat}(h:Mk m){x:Nat×Nat}(h1:x.1 < m+1)(h2:x.2 < 2 ^ 64){e:Nat}(he:e < m+1):∃ k,k < m+14/\(lp m k x).1=e:=by
 have z:(lp m 13 x).2=0:=by
  rw [Lj]; exact Nat.div_eq_of_lt (bD h2 (by decide))
 obtain⟨k,hk,q⟩:=cover h (T6 m 13 x h1) he;refine⟨13+k,by lia,?_⟩;rw [PB,show lp m 13 x=((lp m 13 x).1,0) from by rw [<-z],Li];exact q
noncomputable def Fg(m:Nat)(p:Probe):Probe :=
 if p.more > 0 then { p with j:=p.j+1,more:=p.more - 1 } else
 { p with j:=(leap m p.i p.perturb).1,more:=runEnd m (leap m p.i p.perturb).1 - (leap m p.i p.perturb).1,i:=(leap m p.i p.perturb).1,perturb:=(leap m p.i p.perturb).2 }
noncomputable def eL(m:Nat):Nat->Probe->Probe
 | 0,p=>p
 | k+1,p=>eL m k (Fg m p)
theorem jI(m:Nat):∀ (a b:Nat) (p:Probe),eL m (a+b) p=eL m b (eL m a p)
 | 0,b,p=>by rw [oB]; rfl
 | a+1,b,p=>by rw [RJ]; exact jI m a b _
theorem Mb(m k:Nat)(p:Probe):eL m (k+1) p=Fg m (eL m k p):=jI m k 1 p
noncomputable def Nu(m:Nat)(x:Nat×Nat):Probe:={ j:=x.1,more:=runEnd m x.1 - x.1,i:=x.1,perturb:=x.2,dummy:=none }
theorem more_le(m i:Nat):runEnd m i - i<=9:=by unfold runEnd; split <;> lia
theorem v5(m:Nat):∀ (n:Nat) (p:Probe),p.more=n->p.dummy=none->eL m (n+1) p=Nu m (leap m p.i p.perturb)
 | 0,p,h,hd=>by
  show Fg m p=_;unfold Fg;rw [if_neg (by lia)];obtain⟨j,mo,i,pe,d⟩:=p;cases hd; rfl
 | n+1,p,h,hd=>by
  show eL m (n+1) (Fg m p)=_;have e:Fg m p={ p with j:=p.j+1,more:=p.more - 1 }:=by unfold Fg; rw [if_pos (by lia)]
  rw [e];exact v5 m n _ (by show p.more - 1=n; lia) hd
theorem Ym(m:Nat):∀ (k:Nat) (x:Nat×Nat),∃ n,n<=10 * k/\eL m n (Nu m x)=Nu m (lp m k x)
 | 0,x=>⟨0,aF _,rfl⟩
 | k+1,x=>by
  obtain⟨n,hn,q⟩:=Ym m k (leap m x.1 x.2);refine⟨(runEnd m x.1 - x.1+1)+n,?_,?_⟩
  ·have:=more_le m x.1; lia
  ·rw [jI,v5 m (runEnd m x.1 - x.1) (Nu m x) rfl rfl]; exact q
structure Pb(m:Nat)(p:Probe):Prop where
 hi:p.i < m+1
 hp:p.perturb < 2 ^ 64
 hm:p.more<=9
 hd:p.dummy=none
theorem Pb.leap{m:Nat}{p:Probe}(h:Pb m p):(leap m p.i p.perturb).1 < m+1/\(leap m p.i p.perturb).2 < 2 ^ 64 :=
 ⟨uB _ (lF m),cL (Nat.div_le_self _ _) h.hp⟩
theorem Pb.Fg{m:Nat}{p:Probe}(h:Pb m p):Pb m (Fg m p):=by
 unfold S.Fg;split
 ·exact⟨h.hi,h.hp,a9 (Nat.sub_le _ _) h.hm,h.hd⟩
 ·exact⟨h.leap.1,h.leap.2,more_le _ _,h.hd⟩
theorem Pb.eL{m:Nat}:∀ (k:Nat) {p:Probe},Pb m p->Pb m (eL m k p)
 | 0,_,h=>h
 | k+1,_,h=>Pb.eL k h.Fg
theorem Pb.cover{m:Nat}(hm:Mk m){p:Probe}(h:Pb m p){e:Nat}(he:e < m+1):∃ n,n < 10 * turns m/\(S.eL m n p).j=e:=by
 obtain⟨k,hk,q⟩:=Gk hm h.leap.1 h.leap.2 he;obtain⟨n,hn,q2⟩:=Ym m k (SetTable.leap m p.i p.perturb);refine⟨p.more+1+n,?_,?_⟩
 ·have:=h.hm; unfold turns; lia
 ·rw [jI,v5 m p.more p rfl h.hd,q2]; exact q
theorem Pb.start(t:iZ)(h:Int):Pb t.mask (t.probeStart h):=by
 refine⟨uB _ (lF _),?_,more_le _ _,rfl⟩;show bits h < 2 ^ 64;unfold bits;have h1:0<=h % (2 ^ 64:Int):=mE _ (by decide);have h2:h % (2 ^ 64:Int) < 2 ^ 64:=jF _ (by decide);lia
end K2.S
end
section
namespace K2.S
open PySem PySem.SetTable
noncomputable def Up(xs:Array Nat):Prop:=∀ a b,a < b->b < xs.size->xs.getD a 0 < xs.getD b 0
theorem Qg(xs:Array Nat){k:Nat}(h:k < xs.size)(a b:Nat):xs.getD k a=xs.getD k b:=by
 rw [bf,bf,bE h]; rfl
theorem D1{xs:Array Nat}(up:Up xs)(j:Nat):∀ (fuel lo hi:Nat),hi - lo<=fuel->lo<=hi->hi<=xs.size->(∀ k,k < lo->xs.getD k 0 < j)->(∀ k,hi<=k->k < xs.size->j<=xs.getD k 0) ->
  below.go xs j fuel lo hi<=xs.size/\(∀ k,k < below.go xs j fuel lo hi->xs.getD k 0 < j)/\(∀ k,below.go xs j fuel lo hi<=k->k < xs.size->j<=xs.getD k 0)
 | 0,lo,hi,h1,h2,h3,h4,h5=>by
  have e:lo=hi:=by lia
  subst e;exact⟨h3,h4,h5⟩
 | fuel+1,lo,hi,h1,h2,h3,h4,h5=>by
  show (below.go xs j (fuel+1) lo hi)<=_/\_;unfold below.go;by_cases c:lo < hi
  ·rw [if_pos c];have hm:(lo+hi) / 2 < xs.size:=by lia
   dsimp only;rw [Qg xs hm j 0];by_cases q:xs.getD ((lo+hi) / 2) 0 < j
   ·rw [if_pos q];refine D1 up j fuel _ _ (by lia) (by lia) h3 (fun k hk=>?_) h5;by_cases e:k=(lo+hi) / 2
    ·rw [e]; exact q
    ·exact Nat.lt_trans (up _ _ (by lia) hm) q
   ·rw [if_neg q];refine D1 up j fuel _ _ (by lia) (by lia) (by lia) h4 fun k hk hs=>?_;by_cases e:k=(lo+hi) / 2
    ·rw [e]; lia
    ·have:=up ((lo+hi) / 2) k (by lia) hs; lia
  ·rw [if_neg c];exact⟨by lia,h4,fun k hk hs=>h5 k (by lia) hs⟩
theorem vo{xs:Array Nat}(up:Up xs)(j:Nat):below xs j<=xs.size/\(∀ k,k < below xs j->xs.getD k 0 < j)/\(∀ k,below xs j<=k->k < xs.size->j<=xs.getD k 0) :=
 D1 up j _ _ _ (by lia) (by lia) (by lia) (fun k h=>by lia) (fun k h1 h2=>by lia)
theorem below_at{xs:Array Nat}(up:Up xs){k:Nat}(hk:k < xs.size):below xs (xs.getD k 0)=k:=by
 obtain⟨h1,h2,h3⟩:=vo up (xs.getD k 0);by_cases a:below xs (xs.getD k 0) < k
 ·have:=h3 _ (aF _) (by lia);have:=up _ _ a hk;lia
 ·by_cases b:k < below xs (xs.getD k 0)
  ·have:=h2 _ b; lia
  ·lia
noncomputable def Full(xs:Array Nat)(j:Nat):Prop:=∃ k,k < xs.size/\xs.getD k 0=j
theorem Up.inj{xs:Array Nat}(up:Up xs){a b:Nat}(ha:a < xs.size)(hb:b < xs.size)(e:xs.getD a 0=xs.getD b 0):a=b:=by
 by_cases c:a < b
 ·have:=up _ _ c hb; lia
 ·by_cases d:b < a
  ·have:=up _ _ d ha; lia
  ·lia
theorem Qf(xs:Array Nat){k:Nat}(h:k < xs.size):xs[k]?=some (xs.getD k 0):=by
 rw [bf,bE h]; rfl
theorem B7{t:iZ}(up:Up t.place){k:Nat}(hk:k < t.place.size):t.slot (t.place.getD k 0)=.live k:=by
 unfold slot;dsimp only;rw [below_at up hk,Qf _ hk];rw [if_pos (by simp)]
theorem IP{t:iZ}(up:Up t.place)(dm:t.dummies=#[]){j:Nat}(h:¬ Full t.place j):t.slot j=.empty:=by
 unfold slot;dsimp only;have n1:(t.place[below t.place j]? == some j)=false:=by
  rw [Bool.eq_false_iff];intro q;have q:=beq_iff_eq.mp q;obtain⟨lt,e⟩:=Array.getElem?_eq_some_iff.mp q;exact h ⟨_,lt,by rw [bf,q]; rfl⟩
 rw [n1,dm];rfl
theorem IQ{t:iZ}(up:Up t.place)(dm:t.dummies=#[])(j:Nat):(¬ Full t.place j/\t.slot j=.empty)\/(∃ k,k < t.place.size/\t.place.getD k 0=j/\t.slot j=.live k):=by
 by_cases h:Full t.place j
 ·obtain⟨k,hk,e⟩:=h;exact .inr ⟨k,hk,e,e ▸ B7 up hk⟩
 ·exact .inl ⟨h,IP up dm h⟩
theorem FO{t:iZ}(up:Up t.place)(dm:t.dummies=#[])(hashAt:Nat->Int)(h:Int):∀ (fuel:Nat) (p:Probe),Pb t.mask p->(∃ n,n < fuel/\¬ Full t.place (eL t.mask n p).j) ->
    ∃ n met,probe.go t hashAt h fuel p=some met/\(∀ n',n' < n->∃ k,k < t.place.size/\t.place.getD k 0=(eL t.mask n' p).j/\hashAt k≠h) /\
      ((¬ Full t.place (eL t.mask n p).j/\met=.empty (eL t.mask n p).j none) \/
       (∃ k,k < t.place.size/\t.place.getD k 0=(eL t.mask n p).j/\hashAt k=h/\met=.candidate (eL t.mask n p).j k (eL t.mask (n+1) p)))
  | 0,_,_,⟨n,hn,_⟩=>absurd hn (cY _)
  | fuel+1,p,hp,⟨n,hn,hf⟩=>by
    rcases IQ up dm p.j with ⟨nf,e⟩ | ⟨k,hk,ek,e⟩
    · refine⟨0,.empty p.j p.dummy,?_,fun n' z=>absurd z (cY _),.inl ⟨nf,by rw [hp.hd]; rfl⟩⟩
      unfold probe.go;rw [e]
    · by_cases q:hashAt k=h
      · refine⟨0,.candidate p.j k (t.advance p),?_,fun n' z=>absurd z (cY _),.inr ⟨k,hk,ek,q,rfl⟩⟩
        unfold probe.go;rw [e];dsimp only;rw [if_pos (beq_iff_eq.mpr q)]
      · have hn0:∃ m,n=m+1:=by
          cases n with
          | zero=>exact absurd ⟨k,hk,ek⟩ hf
          | succ m=>exact⟨m,rfl⟩
        obtain⟨m,rfl⟩:=hn0;obtain⟨n',met,g,all,fin⟩:=FO up dm hashAt h fuel (Fg t.mask p) hp.Fg ⟨m,by lia,hf⟩;refine⟨n'+1,met,?_,fun n'' z=>?_,fin⟩
        · unfold probe.go
          rw [e];dsimp only;rw [if_neg (fun z=>q (beq_iff_eq.mp z))];exact g
        · cases n'' with
          | zero=>exact⟨k,hk,ek,q⟩
          | succ n''=>exact all n'' (by lia)
end K2.S
end
section
namespace K2.S
open PySem PySem.SetTable
noncomputable abbrev En:=Array (Int×Value)
noncomputable def hk(es:En)(k:Nat):Int:=(es[k]?.map (·.1)).getD 0
structure TC(t:iZ)(es:En):Prop where
 ms:Mk t.mask
 dm:t.dummies=#[]
 sz:t.place.size=es.size
 up:Up t.place
 le:∀ k,k < t.place.size->t.place.getD k 0<=t.mask
 oG:t.place.size<=t.mask
 way:∀ k,k < t.place.size->∃ n,(eL t.mask n (probeStart t (hk es k))).j=t.place.getD k 0/\∀ n',n' < n->Full t.place (eL t.mask n' (probeStart t (hk es k))).j
theorem PW{xs:Array Nat}(up:Up xs){m:Nat}(all:∀ e,e<=m->Full xs e):∀ e,e<=m->∀ k,k < xs.size->xs.getD k 0=e->e<=k
 | 0,_,_,_,_=>cq _
 | e+1,he,k,hk,q=>by
  obtain⟨k',P6,q'⟩:=all e (by lia);have ih:=PW up all e (by lia) k' P6 q';have:k' < k:=by
   by_cases c:k' < k
   ·exact c
   ·by_cases d:k=k'
    ·subst d; lia
    ·have:=up k k' (by lia) P6; lia
  lia
theorem Me{xs:Array Nat}(up:Up xs){m:Nat}(oG:xs.size<=m):∃ e,e<=m/\¬ Full xs e:=by
 apply dD;intro no;have all:∀ e,e<=m->Full xs e:=fun e he=>dD fun z=>no ⟨e,he,z⟩;obtain⟨k,hk,q⟩:=all m (aF _);have:=PW up all m (aF _) k hk q;lia
theorem AJ{t:iZ}{es:En}(O:TC t es)(p:Probe)(hp:Pb t.mask p):∃ N,N < 10 * turns t.mask/\¬ Full t.place (eL t.mask N p).j/\∀ n,n < N->Full t.place (eL t.mask n p).j:=by
 obtain⟨e,he,hf⟩:=Me O.up O.oG;obtain⟨n0,hn,q⟩:=hp.cover O.ms (show e < t.mask+1 by lia);have:∀ n,n<=n0->(∃ N,N < 10 * turns t.mask/\¬ Full t.place (eL t.mask N p).j/\∀ n,n < N->Full t.place (eL t.mask n p).j)\/(∀ n',n' < n->Full t.place (eL t.mask n' p).j):=by
  intro n;induction n with
  | zero=>intro _; exact .inr fun n' z=>absurd z (cY _)
  | succ n ih =>
   intro Rz;rcases ih (by lia) with a | a
   ·exact .inl a
   ·by_cases c:Full t.place (eL t.mask n p).j
    ·refine .inr fun n' z=>?_;by_cases d:n'=n
     ·rw [d]; exact c
     ·exact a n' (by lia)
    ·exact .inl ⟨n,by lia,c,a⟩
 rcases this n0 (aF _) with a | a
 ·exact a
 ·exact⟨n0,hn,by rw [q]; exact hf,a⟩
theorem iL{α:Type}(xs:Array α)(p:Nat)(x:α)(hp:p<=xs.size):(insertAt xs p x).size=xs.size+1:=by
 rw [<-bZ,toList_insertAt,ar,ai,eB,cI,bZ]; lia
theorem wK{α:Type}(xs:Array α)(p:Nat)(x:α)(hp:p<=xs.size)(k:Nat):(insertAt xs p x)[k]?=if k < p then xs[k]? else if k=p then some x else xs[k - 1]?:=by
 rw [<-cU,toList_insertAt];have hl:(xs.toList.take p).length=p:=by rw [eB,bZ]; lia
 by_cases c:k < p
 ·rw [if_pos c,bS (by lia),tJ c,cU]
 ·rw [if_neg c,bH (by lia),hl];by_cases d:k=p
  ·subst d; rw [if_pos rfl,EN]; rfl
  ·rw [if_neg d,show k - p=(k - p - 1)+1 by lia,ae,List.getElem?_drop,show p+(k - p - 1)=k - 1 by lia,cU]
theorem jO(xs:Array Nat)(p x:Nat)(hp:p<=xs.size)(k:Nat):(insertAt xs p x).getD k 0=if k < p then xs.getD k 0 else if k=p then x else xs.getD (k - 1) 0:=by
 rw [bf,wK xs p x hp];split
 ·rw [bf]
 ·split
  ·rfl
  ·rw [bf]
theorem Mn(t:iZ)(dm:t.dummies=#[])(j:Nat):t.put j=({ t with place:=insertAt t.place (below t.place j) j },below t.place j):=by
 unfold SetTable.put;dsimp only;rw [dm];have:has #[] j=false:=rfl;rw [this];cases t;cases dm;rfl
theorem GG{xs:Array Nat}{p j:Nat}(hp:p<=xs.size){e:Nat}:Full (insertAt xs p j) e↔Full xs e\/e=j:=by
 constructor
 ·rintro⟨k,hk,q⟩;rw [iL xs p j hp] at hk;rw [jO xs p j hp] at q;by_cases c:k < p
  ·rw [if_pos c] at q; exact .inl ⟨k,by lia,q⟩
  ·rw [if_neg c] at q;by_cases d:k=p
   ·rw [if_pos d] at q; exact .inr q.symm
   ·rw [if_neg d] at q; exact .inl ⟨k - 1,by lia,q⟩
 ·rintro(⟨k,hk,q⟩ | q)
  ·by_cases c:k < p
   ·exact⟨k,by rw [iL xs p j hp]; lia,by rw [jO xs p j hp,if_pos c]; exact q⟩
   ·exact⟨k+1,by rw [iL xs p j hp]; lia,by rw [jO xs p j hp,if_neg (by lia),if_neg (by lia)]; exact q⟩
  ·exact⟨p,by rw [iL xs p j hp]; lia,by rw [jO xs p j hp,if_neg (by lia),if_pos rfl]; exact q.symm⟩
theorem TC.add{t:iZ}{es:En}(O:TC t es){h:Int}{x:Value}{N:Nat}(h1:¬ Full t.place (eL t.mask N (probeStart t h)).j)(h2:∀ n,n < N->Full t.place (eL t.mask n (probeStart t h)).j)
  (hj:(eL t.mask N (probeStart t h)).j<=t.mask) (room:t.place.size+1<=t.mask) {t':iZ} (e1:t'.mask=t.mask) (e2:t'.dummies=t.dummies)
  (e3:t'.place=insertAt t.place (below t.place (eL t.mask N (probeStart t h)).j) (eL t.mask N (probeStart t h)).j) :
  TC t' (insertAt es (below t.place (eL t.mask N (probeStart t h)).j) (h,x)):=by
 generalize ej:(eL t.mask N (probeStart t h)).j=j at *;obtain⟨b1,b2,b3⟩:=vo O.up j;generalize below t.place j=p at *;have QX:p<=es.size:=by rw [<-O.sz]; exact b1
 have UI:t'.place.size=t.place.size+1:=by rw [e3,iL _ _ _ b1]
 have JA:∀ h,probeStart t' h=probeStart t h:=fun h=>by unfold probeStart; rw [e1]
 have fl:∀ e,Full t.place e->Full t'.place e:=fun e z=>by rw [e3]; exact(GG b1).mpr (.inl z)
 refine⟨by rw [e1]; exact O.ms,e2.trans O.dm,by rw [UI,iL _ _ _ QX,O.sz],?_,?_,by rw [UI,e1]; exact room,?_⟩
 ·intro a b ab hb;rw [UI] at hb;rw [e3,jO _ _ _ b1,jO _ _ _ b1];by_cases c1:a < p
  ·rw [if_pos c1];by_cases c2:b < p
   ·rw [if_pos c2]; exact O.up a b ab (by lia)
   ·rw [if_neg c2];by_cases c3:b=p
    ·rw [if_pos c3]; exact b2 a c1
    ·rw [if_neg c3];by_cases c4:a=b - 1
     ·lia
     ·exact O.up a (b - 1) (by lia) (by lia)
  ·rw [if_neg c1,if_neg (by lia:¬ b < p),if_neg (by lia:¬ b=p)];by_cases c3:a=p
   ·rw [if_pos c3];have:=b3 (b - 1) (by lia) (by lia);by_cases c5:t.place.getD (b - 1) 0=j
    ·exact absurd ⟨b - 1,by lia,c5⟩ h1
    ·lia
   ·rw [if_neg c3]; exact O.up (a - 1) (b - 1) (by lia) (by lia)
 ·intro k hk;rw [UI] at hk;rw [e3,jO _ _ _ b1,e1];by_cases c1:k < p
  ·rw [if_pos c1]; exact O.le k (by lia)
  ·rw [if_neg c1];by_cases c2:k=p
   ·rw [if_pos c2]; exact hj
   ·rw [if_neg c2]; exact O.le (k - 1) (by lia)
 ·intro k hk;rw [UI] at hk;have key:∀ k',k' < t.place.size->hk=hk->(insertAt es p (h,x))[k]?=es[k']?->t'.place.getD k 0=t.place.getD k' 0 ->
    ∃ n,(eL t'.mask n (probeStart t' (S.hk (insertAt es p (h,x)) k))).j=t'.place.getD k 0/\∀ n',n' < n->Full t'.place (eL t'.mask n' (probeStart t' (S.hk (insertAt es p (h,x)) k))).j:=by
   intro k' P6 _ ee ep;obtain⟨n,q1,q2⟩:=O.way k' P6;have eh:S.hk (insertAt es p (h,x)) k=S.hk es k':=by unfold S.hk; rw [ee]
   rw [eh,JA,e1,ep];exact⟨n,q1,fun n' z=>fl _ (q2 n' z)⟩
  by_cases c1:k < p
  ·refine key k (by lia) rfl ?_ ?_
   ·rw [wK _ _ _ QX,if_pos c1]
   ·rw [e3,jO _ _ _ b1,if_pos c1]
  ·by_cases c2:k=p
   ·have eh:S.hk (insertAt es p (h,x)) k=h:=by unfold S.hk; rw [wK _ _ _ QX,if_neg c1,if_pos c2]; rfl
    rw [eh,JA,e1,e3,jO _ _ _ b1,if_neg c1,if_pos c2];refine⟨N,ej,fun n' z=>?_⟩;exact(GG b1).mpr (.inl (h2 n' z))
   ·refine key (k - 1) (by lia) rfl ?_ ?_
    ·rw [wK _ _ _ QX,if_neg c1,if_neg c2]
    ·rw [e3,jO _ _ _ b1,if_neg c1,if_neg c2]
end K2.S
end
section
namespace K2.S
open PySem PySem.SetTable
theorem TN(m:Nat)(x:Nat×Nat):∀ n,n<=runEnd m x.1 - x.1->eL m n (Nu m x)={ Nu m x with j:=x.1+n,more:=runEnd m x.1 - x.1 - n }
 | 0,_=>rfl
 | n+1,h=>by
  rw [Mb,TN m x n (by lia)];unfold Fg;dsimp only;rw [if_pos (by lia)];rfl
theorem Dm{m i:Nat}(h:i < m+1){n:Nat}(hn:n<=runEnd m i - i):i+n < m+1:=by
 unfold runEnd at hn;split at hn <;> lia
noncomputable def ow(o:Array (Option Nat))(j:Nat):Option Nat:=o.getD j none
theorem So{o:Array (Option Nat)}{j:Nat}(h:j < o.size):o.getD j (some 0)=ow o j:=by
 unfold ow; rw [bf,bf,bE h]; rfl
theorem T1{o:Array (Option Nat)}{j k:Nat}(h:ow o j=some k):j < o.size:=by
 apply dD;intro z;unfold ow at h;rw [bf,mK (by lia)] at h;cases h
theorem CB{m:Nat}{o:Array (Option Nat)}(sz:o.size=m+1):∀ (fuel:Nat) (x:Nat×Nat),x.1 < m+1->(∃ k,k < fuel/\ow o (lp m k x).1=none) ->
  ∃ n j,layClean.free m o fuel x.1 x.2=some j/\(eL m n (Nu m x)).j=j/\j < m+1/\ow o j=none/\∀ n',n' < n->(eL m n' (Nu m x)).j < m+1/\ow o (eL m n' (Nu m x)).j≠none
 | 0,_,_,⟨_,h,_⟩=>absurd h (cY _)
 | fuel+1,x,hx,⟨k,hk,q⟩=>by
  have pe:∀ n,n<=runEnd m x.1 - x.1->(o.getD (x.1+n) (some 0))=ow o (x.1+n):=fun n hn=>So (by rw [sz]; exact Dm hx hn);have pj:∀ n,n<=runEnd m x.1 - x.1->(eL m n (Nu m x)).j=x.1+n:=fun n hn=>by rw [TN m x n hn]
  have hre:x.1<=runEnd m x.1:=by unfold runEnd; split <;> lia
  cases hf:(c9 (runEnd m x.1+1 - x.1)).find? fun k=>(o.getD (x.1+k) (some 0)).isNone with
  | some n =>
   obtain⟨h1,h2,h3⟩:=List.find?_range_eq_some.mp hf;have hn:n<=runEnd m x.1 - x.1:=by have:=List.mem_range.mp h2; lia
   rw [pe n hn] at h1;refine⟨n,x.1+n,?_,pj n hn,Dm hx hn,Option.isNone_iff_eq_none.mp h1,fun n' z=>?_⟩
   ·unfold layClean.free; rw [hf]
   ·have Rz:n'<=runEnd m x.1 - x.1:=by lia
    have:=h3 n' z;rw [pe n' Rz] at this;rw [pj n' Rz];refine⟨Dm hx Rz,fun e=>?_⟩;rw [e] at this; cases this
  | none =>
   have h3:=List.find?_range_eq_none.mp hf;have all:∀ n',n'<=runEnd m x.1 - x.1->ow o (x.1+n')≠none:=fun n' Rz e=>by
    have:=h3 n' (by lia);rw [pe n' Rz,e] at this; cases this
   obtain⟨k,rfl⟩:∃ k',k=k'+1:=by
    cases k with
    | zero=>exact absurd q (all 0 (cq _))
    | succ k=>exact⟨k,rfl⟩
   obtain⟨n,j,g,gj,hj,gn,ga⟩:=CB sz fuel (leap m x.1 x.2) (uB _ (lF m)) ⟨k,by lia,q⟩;refine⟨(runEnd m x.1 - x.1+1)+n,j,?_,?_,hj,gn,fun n' z=>?_⟩
   ·unfold layClean.free; rw [hf]; exact g
   ·rw [jI,v5 m (runEnd m x.1 - x.1) (Nu m x) rfl rfl]; exact gj
   ·by_cases c:n'<=runEnd m x.1 - x.1
    ·rw [pj n' c]; exact⟨Dm hx c,all n' c⟩
    ·have e:n'=(runEnd m x.1 - x.1+1)+(n' - (runEnd m x.1 - x.1+1)):=by lia
     rw [e,jI,v5 m (runEnd m x.1 - x.1) (Nu m x) rfl rfl];exact ga _ (by lia)
theorem pig:∀ (L:Nat) (l:List Nat),l.Nodup->(∀ x∈l,x < L)->l.length<=L
 | 0,l,_,h=>by
  cases l with
  | nil=>exact aF _
  | cons a r=>exact absurd (h a bJ) (cY _)
 | L+1,l,hn,h=>by
  have:=pig L (l.erase L) (hn.erase L) fun x hx=>by
   have:=(hn.mem_erase_iff).mp hx;have:=h x this.2;lia
  rw [List.length_erase] at this;split at this <;> lia
noncomputable def JA(m:Nat)(h:Int):Probe:=Nu m (bits h % (m+1),bits h)
structure Lay(m:Nat)(hs:List Int)(o:Array (Option Nat)):Prop where
 sz:o.size=m+1
 lt:∀ j k,ow o j=some k->k < hs.length
 one:∀ k,k < hs.length->∃ j,ow o j=some k
 ZL:∀ j j' k,ow o j=some k->ow o j'=some k->j=j'
 way:∀ j k,ow o j=some k->∃ n,(eL m n (JA m (hs.getD k 0))).j=j/\∀ n',n' < n->ow o (eL m n' (JA m (hs.getD k 0))).j≠none
theorem Lay.nil(m:Nat):Lay m [] (Array.replicate (m+1) none):=by
 have no:∀ j,ow (Array.replicate (m+1) none) j=none:=fun j=>by
  unfold ow;rw [bf,Array.getElem?_replicate];split <;> rfl
 refine⟨Array.size_replicate,fun j k h=>?_,fun k h=>absurd h (cY _),fun j j' k h=>?_,fun j k h=>?_⟩ <;> (rw [no] at h; cases h)
theorem Lay.free{m:Nat}{hs:List Int}{o:Array (Option Nat)}(L:Lay m hs o)(oG:hs.length<=m):∃ j,j < m+1/\ow o j=none:=by
 apply dD;intro no;have all:∀ j,j < m+1->ow o j≠none:=fun j hj e=>no ⟨j,hj,e⟩;have nd:((c9 (m+1)).map fun j=>(ow o j).getD 0).Nodup:=by
  rw [kh,iP];refine Bj (fun {a b} ha hb wM e=>?_) (List.nodup_iff_pairwise_ne.mp (List.nodup_range (n:=m+1)));obtain⟨x,hx⟩:=Option.ne_none_iff_exists'.mp (all a (List.mem_range.mp ha));obtain⟨y,hy⟩:=Option.ne_none_iff_exists'.mp (all b (List.mem_range.mp hb));rw [hx,hy] at e;have e:x=y:=e;subst e;exact wM (L.ZL a b x hx hy)
 have:=pig hs.length _ nd fun x hx=>by
  obtain⟨j,hj,rfl⟩:=List.mem_map.mp hx;obtain⟨k,e⟩:=Option.ne_none_iff_exists'.mp (all j (List.mem_range.mp hj));rw [e]; exact L.lt j k e
 rw [ao,ka] at this;lia
theorem Ja{o:Array (Option Nat)}{j k:Nat}(hj:j < o.size)(i:Nat):ow (o.setIfInBounds j (some k)) i=if j=i then some k else ow o i:=by
 unfold ow;rw [bf,Array.getElem?_setIfInBounds];by_cases c:j=i
 ·rw [if_pos c,if_pos c,if_pos hj]; rfl
 ·rw [if_neg c,if_neg c,bf]
theorem Lay.step{m:Nat}(hm:Mk m){hs:List Int}{o:Array (Option Nat)}(L:Lay m hs o)(oG:hs.length<=m)(h:Int) :
  ∃ j,layClean.free m o (turns m) (bits h % (m+1)) (bits h)=some j/\Lay m (hs++[h]) (o.setIfInBounds j (some hs.length)):=by
 obtain⟨e,he,hf⟩:=L.free oG;have hb:bits h < 2 ^ 64:=by
  unfold bits;have h1:0<=h % (2 ^ 64:Int):=mE _ (by decide);have h2:h % (2 ^ 64:Int) < 2 ^ 64:=jF _ (by decide);lia
 have hx:bits h % (m+1) < m+1:=uB _ (lF m);obtain⟨k,hk,q⟩:=Gk hm (x:=(bits h % (m+1),bits h)) hx hb he;obtain⟨n,j,g,gj,hj,gn,ga⟩:=CB L.sz (turns m) (bits h % (m+1),bits h) hx ⟨k,by unfold turns; lia,by rw [q]; exact hf⟩;have Vw:j < o.size:=by rw [L.sz]; exact hj
 have old:∀ i k,ow o i=some k->ow (o.setIfInBounds j (some hs.length)) i=some k:=fun i k z=>by
  rw [Ja Vw,if_neg (fun z2:j=i=>by rw [<-z2,gn] at z; cases z)]; exact z
 have inv:∀ i k,ow (o.setIfInBounds j (some hs.length)) i=some k->(i=j/\k=hs.length)\/(i≠j/\ow o i=some k/\k < hs.length):=fun i k z=>by
  rw [Ja Vw] at z;by_cases c:j=i
  ·rw [if_pos c] at z; cases z; exact .inl ⟨c.symm,rfl⟩
  ·rw [if_neg c] at z; exact .inr ⟨fun z2=>c z2.symm,z,L.lt _ _ z⟩
 have nn:∀ i,ow o i≠none->ow (o.setIfInBounds j (some hs.length)) i≠none:=fun i z=>by
  obtain⟨k,e⟩:=Option.ne_none_iff_exists'.mp z;rw [old i k e]; exact fun z=>by cases z
 refine⟨j,g,⟨by rw [Array.size_setIfInBounds]; exact L.sz,fun i k z=>?_,fun k hk=>?_,fun i i' k z z'=>?_,fun i k z=>?_⟩⟩
 ·rw [ar,cW];rcases inv i k z with ⟨_,rfl⟩ | ⟨_,_,hk⟩ <;> lia
 ·rw [ar,cW] at hk;by_cases c:k=hs.length
  ·exact⟨j,by rw [Ja Vw,if_pos rfl,c]⟩
  ·obtain⟨i,z⟩:=L.one k (by lia);exact⟨i,old i k z⟩
 ·rcases inv i k z with ⟨a,b⟩ | ⟨a,b,c⟩ <;> rcases inv i' k z' with ⟨a',b'⟩ | ⟨a',b',c'⟩
  ·rw [a,a']
  ·lia
  ·lia
  ·exact L.ZL i i' k b b'
 ·rcases inv i k z with ⟨a,b⟩ | ⟨a,b,c⟩
  ·have e:(hs++[h]).getD k 0=h:=by rw [b,a8,bH (aF _),EN]; rfl
   rw [e,a];exact⟨n,gj,fun n' z=>nn _ (ga n' z).2⟩
  ·have e:(hs++[h]).getD k 0=hs.getD k 0:=by rw [a8,bS c,<-a8]
   rw [e];obtain⟨n,q1,q2⟩:=L.way i k b;exact⟨n,q1,fun n' z=>nn _ (q2 n' z)⟩
theorem Lm{m:Nat}(hm:Mk m):∀ (hs:List Int) (Rw:List Int) (o:Array (Option Nat)),Lay m Rw o->Rw.length+hs.length<=m+1 ->
  ∃ o',hs.foldl (fun acc h=>do
   let (owner,k) ← acc
   let j ← layClean.free m owner (turns m) (bits h % (m+1)) (bits h)
   pure (owner.setIfInBounds j (some k),k+1)) (some (o,Rw.length))=some (o',(Rw++hs).length)/\Lay m (Rw++hs) o'
 | [],Rw,o,L,_=>⟨o,by rw [cX]; rfl,by rw [cX]; exact L⟩
 | h :: hs,Rw,o,L,oG=>by
  obtain⟨j,g,L'⟩:=L.step hm (by rw [ai] at oG; lia) h;obtain⟨o',e,L''⟩:=Lm hm hs (Rw++[h]) _ L' (by rw [ar,cW]; rw [ai] at oG; lia);rw [cf,List.singleton_append] at e L'';refine⟨o',?_,L''⟩;rw [bF];rw [ar,cW] at e;rw [<-e];congr 1;show (do let j ← layClean.free m o (turns m) (bits h % (m+1)) (bits h); pure (o.setIfInBounds j (some Rw.length),Rw.length+1))=_;rw [g]; rfl
theorem Gr{m:Nat}(hm:Mk m)(hs:Array Int)(oG:hs.size<=m+1):∃ o,layClean m hs=some o/\Lay m hs.toList o:=by
 obtain⟨o,e,L⟩:=Lm hm hs.toList [] _ (Lay.nil m) (by rw [aB,bZ]; lia);refine⟨o,?_,L⟩;unfold layClean;rw [<-Array.foldl_toList];rw [aB] at e;rw [e];rfl
end K2.S
end
section
namespace K2.S
open PySem PySem.SetTable
theorem Qm(es:En):∀ (l:List Nat),(∀ k∈l,k < es.size)->l.filterMap (es[·]?)=l.map fun k=>es.getD k (0,.none)
 | [],_=>rfl
 | k :: l,h=>by
  have hk:k < es.size:=h k bJ;have e:es[k]?=some (es.getD k (0,.none)):=by rw [bf,bE hk]; rfl
  rw [List.filterMap_cons_some e,av,Qm es l fun x hx=>h x (aK _ hx)]
theorem SF{m:Nat}(hm:Mk m)(es:En)(oG:es.size<=m)(finger moves:Nat)(led plain:Bool) :
  ∃ t' order,laid m finger moves led plain (es.map (·.1))=some (t',order)/\t'.mask=m/\t'.led=led/\t'.plain=plain/\(order.filterMap (es[·]?)).size=es.size /\
   Rn (order.filterMap (es[·]?)).toList es.toList/\TC t' (order.filterMap (es[·]?)):=by
 obtain⟨o,e,L⟩:=Gr hm (es.map (·.1)) (by rw [Array.size_map]; lia);have hl:(es.map (·.1)).toList.length=es.size:=by rw [bZ,Array.size_map]
 generalize hlv:((c9 (m+1)).filterMap fun j=>(o.getD j none).map (j,·))=lv;have mem:∀ p:Nat×Nat,p∈lv↔ow o p.1=some p.2:=by
  rintro⟨j,k⟩;rw [<-hlv,List.mem_filterMap];constructor
  ·rintro⟨a,_,q⟩;obtain⟨b,hb,q⟩:=Option.map_eq_some_iff.mp q;cases q; exact hb
  ·intro q;exact⟨j,List.mem_range.mpr (by have:=T1 q; rw [L.sz] at this; exact this),Option.map_eq_some_iff.mpr ⟨k,q,rfl⟩⟩
 have asc:lv.Pairwise fun a b=>a.1 < b.1:=by
  rw [<-hlv];refine List.Pairwise.filterMap _ (fun a a' r b hb b' D0=>?_) (List.pairwise_lt_range (n:=m+1));obtain⟨_,_,rfl⟩:=Option.map_eq_some_iff.mp hb;obtain⟨_,_,rfl⟩:=Option.map_eq_some_iff.mp D0;exact r
 have nd:(lv.map (·.2)).Nodup:=by
  rw [kh,iP];refine Bj (fun {a b} ha hb r e=>?_) asc;have h1:=(mem a).mp ha;have h2:=(mem b).mp hb;rw [e] at h1;have:=L.ZL _ _ _ h1 h2;lia
 have pm:(lv.map (·.2)).Perm (c9 es.size):=by
  refine(Iy nd List.nodup_range).mpr fun k=>?_;rw [List.mem_range,List.mem_map];constructor
  ·rintro⟨p,hp,rfl⟩;have:=L.lt _ _ ((mem p).mp hp);rw [hl] at this; exact this
  ·intro hk;obtain⟨j,q⟩:=L.one k (by rw [hl]; exact hk);exact⟨(j,k),(mem _).mpr q,rfl⟩
 have ll:lv.length=es.size:=by have:=pm.length_eq; rw [ao,ka] at this; exact this
 have inb:∀ k∈lv.map (·.2),k < es.size:=fun k hk=>List.mem_range.mp (pm.mem_iff.mp hk);have Ig:((lv.map (·.2)).toArray.filterMap (es[·]?)).toList=lv.map fun p=>es.getD p.2 (0,.none):=by
  rw [NJ,Qm es _ inb,bA]; rfl
 have pes:Rn ((lv.map (·.2)).toArray.filterMap (es[·]?)).toList es.toList:=by
  rw [NJ];refine(pm.filterMap _).trans ?_;rw [filterMap_getElem?_range]
 have ges:∀ i,((lv.map (·.2)).toArray.filterMap (es[·]?))[i]?=lv[i]?.map fun p:Nat×Nat=>es.getD p.2 (0,.none):=fun i=>by
  rw [<-cU,Ig,bz]
 have szs:((lv.map (·.2)).toArray.filterMap (es[·]?)).size=es.size:=by
  rw [<-bZ,pes.length_eq,bZ]
 have X3:∀ i (hi:i < lv.length),(lv.map (·.1)).toArray.getD i 0=lv[i].1:=fun i hi=>by
  rw [bf,jT,bz,ax hi]; rfl
 have Df:(lv.map (·.1)).toArray.size=es.size:=by rw [aY,ao,ll]
 have ful:∀ j,ow o j≠none->Full (lv.map (·.1)).toArray j:=fun j z=>by
  obtain⟨k,q⟩:=Option.ne_none_iff_exists'.mp z;obtain⟨i,hi,ei⟩:=kW ((mem (j,k)).mpr q);exact⟨i,by rw [Df,<-ll]; exact hi,by rw [X3 i hi,ei]⟩
 refine⟨{ mask:=m,place:=(lv.map (·.1)).toArray,dummies:=#[],finger,led,moves,plain },(lv.map (·.2)).toArray,?_,rfl,rfl,rfl,szs,pes,?_⟩
 ·unfold laid;rw [e];show some _=some _;rw [hlv]
 ·refine⟨hm,rfl,by show (lv.map (·.1)).toArray.size=_; rw [Df,szs],?_,?_,by show (lv.map (·.1)).toArray.size<=m; rw [Df]; exact oG,?_⟩
  ·intro a b ab hb;have hb:b < lv.length:=by rw [ll,<-Df]; exact hb
   show (lv.map (·.1)).toArray.getD a 0 < (lv.map (·.1)).toArray.getD b 0;rw [X3 a (by lia),X3 b hb];exact List.pairwise_iff_getElem.mp asc a b (by lia) hb ab
  ·intro k hk;have hk:k < lv.length:=by rw [ll,<-Df]; exact hk
   show (lv.map (·.1)).toArray.getD k 0<=m;rw [X3 k hk];have:=T1 ((mem _).mp (e8 hk));rw [L.sz] at this; lia
  ·intro k hk;have hk:k < lv.length:=by rw [ll,<-Df]; exact hk
   have hi:=(mem _).mp (e8 hk);have xK:=inb lv[k].2 (bg (e8 hk));have eh:S.hk ((lv.map (·.2)).toArray.filterMap (es[·]?)) k=(es.map (·.1)).toList.getD lv[k].2 0:=by
    unfold S.hk;rw [ges,ax hk,a8,cU,Array.getElem?_map,bE xK];show (es.getD lv[k].2 (0,.none)).1=(es[lv[k].2]).1;rw [bf,bE xK]; rfl
   rw [eh];obtain⟨n,q1,q2⟩:=L.way _ _ hi;refine⟨n,?_,fun n' z=>ful _ (q2 n' z)⟩;show _=(lv.map (·.1)).toArray.getD k 0;rw [X3 k hk]; exact q1
end K2.S
end
section
namespace K2
open PySem PySem.Spec PyProof.Rows L2
noncomputable def Wy(K:aq)(H:Hp)(a:Addr)(xs:List V):Prop :=
 (∃ o,H a=some (.mC o (.lst xs))) \/
  ∃ (o:Obj) (bM:Array Value) (n:Nat),K.lookup a=some o/\o.cls=.type "list"/\o.dict=none/\o.data=.seq bM n/\bM.size<=bu/\Vals xs bM.toList
theorem Wy.sq{K:aq}{H:Hp}{a:Addr}{xs:List V}(h:Wy K H a xs):rH K H a xs:=by
 rcases h with ⟨o,h⟩ | h
 ·exact .inl (.inr ⟨o,h⟩)
 ·exact .inr h
noncomputable def eZ:Key->D
 | .inl i=>.int i
 | .inr x=>.str x
noncomputable def ExcAt(K:aq)(H:Hp)(a:Addr)(c:Str):Prop:=∃ (o:Obj) (C:Addr),H a=some (.mC o (.ext fun h=>h.get? a=some o))/\o.cls=.ref C/\dG K bP c=some (some (.ref C))
mutual
inductive cK (K:aq) (H:Hp):V->D->Prop
 | fh:cK K H .fh .fh
 | bl (b:Bool):cK K H (.bl b) (.bl b)
 | int (i:Int):cK K H (.int i) (.int i)
 | str (x:Str):cK K H (.str x) (.str x)
 | tup {a:Addr} {vs:List V} {ds:List D}:H a=some (.tup vs)->bC K H vs ds->cK K H (.ref a) (.tup ds)
 | ez {a:Addr} {vs:List V} {ds:List D}:Wy K H a vs->bC K H vs ds->cK K H (.ref a) (.ez ds)
 | qC {a:Addr} {o:Obj} {kv:List (Key×V)} {kvs:List (D×D)}:H a=some (.mC o (.dK kv))->mD K H kv kvs->cK K H (.ref a) (.gZ kvs)
 | qB {a:Addr} {o:Obj} {kv:List (List Key×V)} {kvs:List (D×D)}:H a=some (.mC o (.dT kv))->oJ K H kv kvs->cK K H (.ref a) (.gZ kvs)
 | ref (a:Addr):cK K H (.ref a) (.ref a)
 | exc {a:Addr} {c:Str}:ExcAt K H a c->cK K H (.ref a) (.exc c)
inductive bC (K:aq) (H:Hp):List V->List D->Prop
 | nil:bC K H [] []
 | cons {v:V} {d:D} {vs:List V} {ds:List D}:cK K H v d->bC K H vs ds->bC K H (v :: vs) (d :: ds)
inductive mD (K:aq) (H:Hp):List (Key×V)->List (D×D)->Prop
 | nil:mD K H [] []
 | cons {k:Key} {v:V} {d:D} {r:List (Key×V)} {t:List (D×D)}:cK K H v d->mD K H r t->mD K H ((k,v) :: r) ((eZ k,d) :: t)
inductive oJ (K:aq) (H:Hp):List (List Key×V)->List (D×D)->Prop
 | nil:oJ K H [] []
 | cons {k:List Key} {v:V} {d:D} {r:List (List Key×V)} {t:List (D×D)}:cK K H v d->oJ K H r t->oJ K H ((k,v) :: r) ((.tup (k.map eZ),d) :: t)
end
structure Kp(H H':Hp):Prop where
 tup:∀ a xs,H a=some (.tup xs)->H' a=some (.tup xs)
 mC:∀ a o u,H a=some (.mC o u)->H' a=some (.mC o u)
theorem Kp.refl(H:Hp):Kp H H:=⟨fun _ _ h=>h,fun _ _ _ h=>h⟩
theorem Kp.trans{H H1 H2:Hp}(a:Kp H H1)(b:Kp H1 H2):Kp H H2:=⟨fun c xs h=>b.tup c xs (a.tup c xs h),fun c o u h=>b.mC c o u (a.mC c o u h)⟩
theorem Kp.sqT{K:aq}{H H':Hp}{a:Addr}{xs:List V}(k:Kp H H')(h:A4 K H a xs):A4 K H' a xs:=by
 rcases h with (h | ⟨o,h⟩) | h
 ·exact .inl (.inl (k.tup _ _ h))
 ·exact .inl (.inr ⟨o,k.mC _ _ _ h⟩)
 ·exact .inr h
theorem Kp.UN{K:aq}{H H':Hp}{a:Addr}{xs:List V}(k:Kp H H')(h:Wy K H a xs):Wy K H' a xs:=by
 rcases h with ⟨o,h⟩ | h
 ·exact .inl ⟨o,k.mC _ _ _ h⟩
 ·exact .inr h
theorem ExcAt.mono{K:aq}{H H':Hp}(k:Kp H H'){a:Addr}{c:Str}(h:ExcAt K H a c):ExcAt K H' a c :=
 let ⟨o,C,h1,h2,h3⟩:=h
 ⟨o,C,k.mC _ _ _ h1,h2,h3⟩
theorem bC.Jy{K:aq}{H:Hp}{P:List V->List D->Prop}(h0:P [] [])(h1:∀ {v:V} {d:D} {vs:List V} {ds:List D},cK K H v d->bC K H vs ds->P vs ds->P (v :: vs) (d :: ds)){vs:List V}{ds:List D}(h:bC K H vs ds):P vs ds :=
 bC.rec (motive_1:=fun _ _ _=>True) (motive_2:=fun vs ds _=>P vs ds) (motive_3:=fun _ _ _=>True) (motive_4:=fun _ _ _=>True) trivial (fun _=>trivial) (fun _=>trivial) (fun _=>trivial) (fun _ _ _=>trivial) (fun _ _ _=>trivial) (fun _ _ _=>trivial) (fun _ _ _=>trivial) (fun _=>trivial) (fun _=>trivial) h0 (fun a b _ ih=>h1 a b ih) trivial (fun _ _ _ _=>trivial) trivial (fun _ _ _ _=>trivial) h
theorem cK.mono{K:aq}{H H':Hp}(k:Kp H H'):∀ {v:V} {d:D},cK K H v d->cK K H' v d:=fun h =>
 cK.rec (motive_1:=fun v d _=>cK K H' v d) (motive_2:=fun v d _=>bC K H' v d) (motive_3:=fun v d _=>mD K H' v d) (motive_4:=fun v d _=>oJ K H' v d)
  .fh .bl .int .str (fun h _ r=>.tup (k.tup _ _ h) r) (fun h _ r=>.ez (k.UN h) r) (fun h _ r=>.qC (k.mC _ _ _ h) r) (fun h _ r=>.qB (k.mC _ _ _ h) r) .ref (fun h=>.exc (h.mono k)) .nil (fun _ _ a b=>.cons a b) .nil (fun _ _ a b=>.cons a b) .nil (fun _ _ a b=>.cons a b) h
theorem bC.mono{K:aq}{H H':Hp}(k:Kp H H'){v:List V}{d:List D}(h:bC K H v d):bC K H' v d :=
 bC.Jy (P:=fun v d=>bC K H' v d) .nil (fun r _ ih=>.cons (r.mono k) ih) h
theorem mD.mono{K:aq}{H H':Hp}(k:Kp H H'){v:List (Key×V)}{d:List (D×D)}(h:mD K H v d):mD K H' v d :=
 mD.rec (motive_1:=fun v d _=>cK K H' v d) (motive_2:=fun v d _=>bC K H' v d) (motive_3:=fun v d _=>mD K H' v d) (motive_4:=fun v d _=>oJ K H' v d)
  .fh .bl .int .str (fun h _ r=>.tup (k.tup _ _ h) r) (fun h _ r=>.ez (k.UN h) r) (fun h _ r=>.qC (k.mC _ _ _ h) r) (fun h _ r=>.qB (k.mC _ _ _ h) r) .ref (fun h=>.exc (h.mono k)) .nil (fun _ _ a b=>.cons a b) .nil (fun _ _ a b=>.cons a b) .nil (fun _ _ a b=>.cons a b) h
theorem oJ.mono{K:aq}{H H':Hp}(k:Kp H H'){v:List (List Key×V)}{d:List (D×D)}(h:oJ K H v d):oJ K H' v d :=
 oJ.rec (motive_1:=fun v d _=>cK K H' v d) (motive_2:=fun v d _=>bC K H' v d) (motive_3:=fun v d _=>mD K H' v d) (motive_4:=fun v d _=>oJ K H' v d)
  .fh .bl .int .str (fun h _ r=>.tup (k.tup _ _ h) r) (fun h _ r=>.ez (k.UN h) r) (fun h _ r=>.qC (k.mC _ _ _ h) r) (fun h _ r=>.qB (k.mC _ _ _ h) r) .ref (fun h=>.exc (h.mono k)) .nil (fun _ _ a b=>.cons a b) .nil (fun _ _ a b=>.cons a b) .nil (fun _ _ a b=>.cons a b) h
theorem bC.length{K:aq}{H:Hp}:∀ {vs:List V} {ds:List D},bC K H vs ds->vs.length=ds.length:=fun h =>
 bC.Jy (P:=fun vs ds=>vs.length=ds.length) rfl (fun _ _ ih=>congrArg (· + 1) ih) h
theorem bC.get{K:aq}{H:Hp}:∀ {vs:List V} {ds:List D} {i:Nat} {d:D},bC K H vs ds->ds[i]?=some d->∃ v,vs[i]?=some v/\cK K H v d:=by
 intro vs ds i d h;refine bC.Jy (P:=fun vs ds=>∀ (i:Nat) (d:D),ds[i]?=some d->∃ v,vs[i]?=some v/\cK K H v d) (fun i d e=>by cases e) (fun r _ ih i d e=>?_) h i d;cases i with
 | zero=>cases e; exact⟨_,rfl,r⟩
 | succ i=>exact ih i d e
theorem bC.append{K:aq}{H:Hp}:∀ {vs ws:List V} {ds es:List D},bC K H vs ds->bC K H ws es->bC K H (vs++ws) (ds++es):=fun {_ ws _ es} h s =>
 bC.Jy (P:=fun vs ds=>bC K H (vs++ws) (ds++es)) s (fun r _ ih=>.cons r ih) h
theorem bC.take{K:aq}{H:Hp}:∀ {vs:List V} {ds:List D} (n:Nat),bC K H vs ds->bC K H (vs.take n) (ds.take n):=fun {_ _} n h =>
 bC.Jy (P:=fun vs ds=>∀ n,bC K H (vs.take n) (ds.take n)) (fun n=>by rw [Bh,Bh]; exact .nil) (fun r _ ih n=>by
  cases n with
  | zero=>exact .nil
  | succ n=>exact .cons r (ih n)) h n
theorem bC.drop{K:aq}{H:Hp}:∀ {vs:List V} {ds:List D} (n:Nat),bC K H vs ds->bC K H (vs.drop n) (ds.drop n):=fun {_ _} n h =>
 bC.Jy (P:=fun vs ds=>∀ n,bC K H (vs.drop n) (ds.drop n)) (fun n=>by rw [Bi,Bi]; exact .nil) (fun r t ih n=>by
  cases n with
  | zero=>exact .cons r t
  | succ n=>exact ih n) h n
theorem bC.set{K:aq}{H:Hp}{v:V}{d:D}(r:cK K H v d):∀ {vs:List V} {ds:List D} (i:Nat),bC K H vs ds->bC K H (vs.set i v) (ds.set i d):=fun {_ _} i h =>
 bC.Jy (P:=fun vs ds=>∀ i,bC K H (vs.set i v) (ds.set i d)) (fun i=>by rw [C2,C2]; exact .nil) (fun q t ih i=>by
  cases i with
  | zero=>exact .cons r t
  | succ i=>exact .cons q (ih i)) h i
theorem bC.one{K:aq}{H:Hp}:∀ {vs:List V} {d:D},bC K H vs [d]->∃ v,vs=[v]/\cK K H v d:=by
 intro vs d h;cases h with
 | cons r t=>cases t; exact⟨_,rfl,r⟩
theorem bC.two{K:aq}{H:Hp}:∀ {vs:List V} {d e:D},bC K H vs [d,e]->∃ v u,vs=[v,u]/\cK K H v d/\cK K H u e:=by
 intro vs d e h;cases h with
 | cons r t =>
  obtain⟨u,rfl,q⟩:=bC.one t;exact⟨_,_,rfl,r,q⟩
theorem bC.zero{K:aq}{H:Hp}:∀ {vs:List V},bC K H vs []->vs=[]
 | _,.nil=>rfl
theorem bC.ints{K:aq}{H:Hp}:∀ {vs:List V} {ns:List Int},bC K H vs (ns.map D.int)->vs=ns.map V.int:=by
 intro vs ns;induction ns generalizing vs with
 | nil=>intro h; exact h.zero
 | cons n ns ih =>
  intro h;cases h with
  | cons r t =>
   cases r;rw [ih t]; rfl
theorem bC.La{K:aq}{H:Hp}:∀ (ns:List Int),bC K H (ns.map V.int) (ns.map D.int)
 | []=>.nil
 | n :: ns=>.cons (.int n) (bC.La ns)
theorem mD.ind{K:aq}{H:Hp}{motive:∀ (kv:List (Key×V)) (kvs:List (D×D)),mD K H kv kvs->Prop}(nil:motive [] [] .nil)
  (cons:∀ {k:Key} {v:V} {d:D} {r:List (Key×V)} {t:List (D×D)} (re:cK K H v d) (rs:mD K H r t),motive r t rs->motive ((k,v) :: r) ((eZ k,d) :: t) (.cons re rs)):∀ {kv:List (Key×V)} {kvs:List (D×D)} (h:mD K H kv kvs),motive kv kvs h:=fun h =>
 mD.rec (motive_1:=fun _ _ _=>True) (motive_2:=fun _ _ _=>True) (motive_3:=motive) (motive_4:=fun _ _ _=>True) trivial (fun _=>trivial) (fun _=>trivial) (fun _=>trivial) (fun _ _ _=>trivial) (fun _ _ _=>trivial) (fun _ _ _=>trivial) (fun _ _ _=>trivial) (fun _=>trivial) (fun _=>trivial) trivial (fun _ _ _ _=>trivial) nil (fun a b _ ih=>cons a b ih) trivial (fun _ _ _ _=>trivial) h
theorem oJ.ind{K:aq}{H:Hp}{motive:∀ (kv:List (List Key×V)) (kvs:List (D×D)),oJ K H kv kvs->Prop}(nil:motive [] [] .nil)
  (cons:∀ {k:List Key} {v:V} {d:D} {r:List (List Key×V)} {t:List (D×D)} (re:cK K H v d) (rs:oJ K H r t),motive r t rs->motive ((k,v) :: r) ((.tup (k.map eZ),d) :: t) (.cons re rs)):∀ {kv:List (List Key×V)} {kvs:List (D×D)} (h:oJ K H kv kvs),motive kv kvs h:=fun h =>
 oJ.rec (motive_1:=fun _ _ _=>True) (motive_2:=fun _ _ _=>True) (motive_3:=fun _ _ _=>True) (motive_4:=motive) trivial (fun _=>trivial) (fun _=>trivial) (fun _=>trivial) (fun _ _ _=>trivial) (fun _ _ _=>trivial) (fun _ _ _=>trivial) (fun _ _ _=>trivial) (fun _=>trivial) (fun _=>trivial) trivial (fun _ _ _ _=>trivial) trivial (fun _ _ _ _=>trivial) nil (fun a b _ ih=>cons a b ih) h
theorem mD.length{K:aq}{H:Hp}:∀ {v:List (Key×V)} {d:List (D×D)},mD K H v d->v.length=d.length:=fun h =>
 mD.ind (motive:=fun v d _=>v.length=d.length) rfl (fun _ _ ih=>congrArg (· + 1) ih) h
theorem oJ.length{K:aq}{H:Hp}:∀ {v:List (List Key×V)} {d:List (D×D)},oJ K H v d->v.length=d.length:=fun h =>
 oJ.ind (motive:=fun v d _=>v.length=d.length) rfl (fun _ _ ih=>congrArg (· + 1) ih) h
noncomputable def NF(K:aq)(H:Hp)(a:Addr):GO->Prop
 | .lst ds=>∃ vs,H a=some (.lst vs)/\bC K H vs ds
 | .dI kvs=>(∃ kv,H a=some (.dK kv)/\mD K H kv kvs)\/∃ kv,H a=some (.dT kv)/\oJ K H kv kvs
noncomputable def oy(K:aq)(H:Hp)(G:Gp):Prop:=∀ a g,G a=some g->NF K H a g
theorem NF.dk{K:aq}{H:Hp}{a:Addr}{kv:List (Key×V)}{kvs:List (D×D)}(h:H a=some (.dK kv))(r:mD K H kv kvs):NF K H a (.dI kvs):=.inl ⟨kv,h,r⟩
theorem NF.dt{K:aq}{H:Hp}{a:Addr}{kv:List (List Key×V)}{kvs:List (D×D)}(h:H a=some (.dT kv))(r:oJ K H kv kvs):NF K H a (.dI kvs):=.inr ⟨kv,h,r⟩
theorem NF.mono{K:aq}{H H':Hp}{a:Addr}{g:GO}(k:Kp H H')(e:H' a=H a)(h:NF K H a g):NF K H' a g:=by
 cases g with
 | lst ds=>obtain⟨vs,q,r⟩:=h; exact⟨vs,e.trans q,r.mono k⟩
 | dI kvs =>
  rcases h with ⟨kv,q,r⟩ | ⟨kv,q,r⟩
  ·exact .inl ⟨kv,e.trans q,r.mono k⟩
  ·exact .inr ⟨kv,e.trans q,r.mono k⟩
theorem NF.tracked{K:aq}{H:Hp}{a:Addr}{g:GO}(h:NF K H a g):H a≠none:=by
 cases g with
 | lst ds=>obtain⟨vs,q,r⟩:=h; rw [q]; simp
 | dI kvs =>
  rcases h with ⟨kv,q,r⟩ | ⟨kv,q,r⟩
  ·rw [q]; simp
  ·rw [q]; simp
theorem oy.free{K:aq}{H:Hp}{G:Gp}{a:Addr}(h:oy K H G)(e:H a=none):G a=none:=by
 cases q:G a with
 | none=>rfl
 | some g=>exact absurd e (h a g q).tracked
theorem oy.Xb{K:aq}{H:Hp}{G:Gp}{a:Addr}{xs:List V}(h:oy K H G)(e:H a=some (.tup xs)):G a=none:=by
 cases q:G a with
 | none=>rfl
 | some g =>
  have z:=h a g q;cases g with
  | lst ds=>obtain⟨vs,q,r⟩:=z; rw [e] at q; cases q
  | dI kvs =>
   rcases z with ⟨kv,q,r⟩ | ⟨kv,q,r⟩
   ·rw [e] at q; cases q
   ·rw [e] at q; cases q
theorem oy.Xd{K:aq}{H:Hp}{G:Gp}{a:Addr}{o:Obj}{u:HO}(h:oy K H G)(e:H a=some (.mC o u)):G a=none:=by
 cases q:G a with
 | none=>rfl
 | some g =>
  have z:=h a g q;cases g with
  | lst ds=>obtain⟨vs,q,r⟩:=z; rw [e] at q; cases q
  | dI kvs =>
   rcases z with ⟨kv,q,r⟩ | ⟨kv,q,r⟩
   ·rw [e] at q; cases q
   ·rw [e] at q; cases q
structure Mv(K:aq)(H:Hp)(G:Gp)(H':Hp)(G':Gp):Prop where
 keep:∀ a o,H a=some o->G a=none->H' a=some o/\G' a=none
 mF:∀ a,G a≠none->H' a≠none
 ab:oy K H' G'
theorem Mv.refl{K:aq}{H:Hp}{G:Gp}(h:oy K H G):Mv K H G H G:=⟨fun _ _ e n=>⟨e,n⟩,fun a n=>by
 cases q:G a with
 | none=>exact absurd q n
 | some g=>exact(h a g q).tracked,h⟩
theorem Mv.trans{K:aq}{H H1 H2:Hp}{G G1 G2:Gp}(a:Mv K H G H1 G1)(b:Mv K H1 G1 H2 G2):Mv K H G H2 G2 :=
 ⟨fun c o e n=>let ⟨e1,n1⟩:=a.keep c o e n; b.keep c o e1 n1,fun c n=>by
  have h1:=a.mF c n;cases q:G1 c with
  | some g=>exact b.mF c (by rw [q]; simp)
  | none =>
   cases q1:H1 c with
   | none=>exact absurd q1 h1
   | some o=>rw [(b.keep c o q1 q).1]; simp,b.ab⟩
theorem Mv.kp{K:aq}{H H':Hp}{G G':Gp}(m:Mv K H G H' G')(h:oy K H G):Kp H H' :=
 ⟨fun a xs e=>(m.keep a _ e (h.Xb e)).1,fun a o u e=>(m.keep a _ e (h.Xd e)).1⟩
theorem Kp.new{H:Hp}{p:Addr}{o:HO}(hp:H p=none):Kp H (upd H p o):=⟨fun a xs e=>by rw [bK (fj e hp)]; exact e,fun a ob u e=>by rw [bK (fj e hp)]; exact e⟩
theorem Kp.putL{H:Hp}{p:Addr}{xs:List V}{o:HO}(hp:H p=some (.lst xs)):Kp H (upd H p o) :=
 ⟨fun a ys e=>by rw [bK (by rintro rfl; rw [hp] at e; cases e)]; exact e,fun a ob u e=>by rw [bK (by rintro rfl; rw [hp] at e; cases e)]; exact e⟩
theorem Mv.new{K:aq}{H:Hp}{G:Gp}{p:Addr}{o:HO}{g:GO}(h:oy K H G)(hp:H p=none)(ho:NF K (upd H p o) p g):Mv K H G (upd H p o) (c7 G p g) where
 keep:=fun a ob e n=>by
  have ne:=fj e hp;exact⟨by rw [bK ne]; exact e,by rw [c6 ne]; exact n⟩
 mF:=fun a n=>by
  have ne:a≠p:=by rintro rfl; exact n (h.free hp)
  rw [bK ne];exact(Mv.refl h).mF a n
 ab:=fun a g' e=>by
  by_cases ha:a=p
  ·subst ha; rw [aA] at e; cases e; exact ho
  ·rw [c6 ha] at e;exact(h a g' e).mono (.new hp) (bK ha)
theorem Mv.P8{K:aq}{H:Hp}{G:Gp}{p:Addr}{o:HO}(h:oy K H G)(hp:H p=none):Mv K H G (upd H p o) G where
 keep:=fun a ob e n=>⟨by rw [bK (fj e hp)]; exact e,n⟩
 mF:=fun a n=>by
  have ne:a≠p:=by rintro rfl; exact n (h.free hp)
  rw [bK ne];exact(Mv.refl h).mF a n
 ab:=fun a g' e=>by
  have ne:a≠p:=by rintro rfl; rw [h.free hp] at e; cases e
  exact(h a g' e).mono (.new hp) (bK ne)
theorem Mv.put{K:aq}{H:Hp}{G:Gp}{p:Addr}{o:HO}{g g0:GO}(h:oy K H G)(hg:G p=some g0)(k:Kp H (upd H p o))(ho:NF K (upd H p o) p g):Mv K H G (upd H p o) (c7 G p g) where
 keep:=fun a ob e n=>by
  have ne:a≠p:=by rintro rfl; rw [hg] at n; cases n
  exact⟨by rw [bK ne]; exact e,by rw [c6 ne]; exact n⟩
 mF:=fun a n=>by
  by_cases ha:a=p
  ·subst ha; rw [bX]; simp
  ·rw [bK ha]; exact(Mv.refl h).mF a n
 ab:=fun a g' e=>by
  by_cases ha:a=p
  ·subst ha; rw [aA] at e; cases e; exact ho
  ·rw [c6 ha] at e;exact(h a g' e).mono k (bK ha)
theorem oy.lst{K:aq}{H:Hp}{G:Gp}{a:Addr}{ds:List D}(h:oy K H G)(e:G a=some (.lst ds)):∃ vs,H a=some (.lst vs)/\bC K H vs ds:=h a _ e
theorem Mv.Jk{K:aq}{H:Hp}{G:Gp}{p:Addr}{vs:List V}{ds:List D}(h:oy K H G)(hp:H p=none)(r:bC K H vs ds):Mv K H G (upd H p (.lst vs)) (c7 G p (.lst ds)) :=
 .new h hp ⟨vs,bX,r.mono (.new hp)⟩
theorem Mv.putL{K:aq}{H:Hp}{G:Gp}{p:Addr}{ZJ vs:List V}{ds0 ds:List D}(h:oy K H G)(hg:G p=some (.lst ds0))(hp:H p=some (.lst ZJ))(r:bC K H vs ds):Mv K H G (upd H p (.lst vs)) (c7 G p (.lst ds)) :=
 .put h hg (.putL hp) ⟨vs,bX,r.mono (.putL hp)⟩
structure RD(K:aq)(H:Hp)(σ:L2.St)(τ:iX):Prop where
 len:σ.length=τ.length
 at':∀ (i:Nat) (d:D),τ[i]?=some (some d)->∃ v,σ[i]?=some (some v)/\cK K H v d
theorem RD.mono{K:aq}{H H':Hp}{σ:L2.St}{τ:iX}(k:Kp H H')(a:RD K H σ τ):RD K H' σ τ :=
 ⟨a.len,fun i d e=>let ⟨v,h1,h2⟩:=a.at' i d e; ⟨v,h1,h2.mono k⟩⟩
theorem RD.set{K:aq}{H:Hp}{σ:L2.St}{τ:iX}{v:V}{d:D}(a:RD K H σ τ)(i:Nat)(r:cK K H v d):RD K H (σ.set i (some v)) (τ.set i (some d)):=by
 refine⟨by rw [gT,gT]; exact a.len,fun j e h=>?_⟩;by_cases hj:i=j
 ·subst hj;by_cases hi:i < τ.length
  ·rw [da hi] at h;cases h;exact⟨v,by rw [da (by rw [a.len]; exact hi)],r⟩
  ·rw [List.set_eq_of_length_le (by lia)] at h;rw [jU (by lia)] at h;cases h
 ·rw [eQ hj] at h;obtain⟨w,h1,h2⟩:=a.at' j e h;exact⟨w,by rw [eQ hj]; exact h1,h2⟩
structure I2(X:Cx)(pins:List (Addr×Obj))(σ:L2.St)(H:Hp)(τ:iX)(G:Gp)(s:az):Prop where
 inv:Inv X pins σ H s
 st:RD X.K H σ τ
 ab:oy X.K H G
theorem I2.mv{X:Cx}{pins:List (Addr×Obj)}{σ:L2.St}{H H':Hp}{τ:iX}{G G':Gp}{s s':az}(I:I2 X pins σ H τ G s)(I':Inv X pins σ H' s')(m:Mv X.K H G H' G'):I2 X pins σ H' τ G' s' :=
 ⟨I',I.st.mono (m.kp I.ab),m.ab⟩
noncomputable def CXe(P:bG)(w:World):NC:=fun outer H s E e s'=>∃ (a C t:Addr) (B:Heap) (H':Hp),e=.ref a/\s'.os=s.os/\C3 s'.gens/\Un (NS outer) [] H H' s.heap s'.heap/\vD P w H' s'.heap /\
 (∀ b o,s'.heap.get? b=some o->b∉NS outer->(s.heap.get? b≠none\/H' b≠none)->B.get? b=some o)/\PySem.Heap.FlyingW B outer a (.ref C) (.ref t) s'.heap/\H' a=none/\s.heap.get? a=none/\E (.ref C) none H'
noncomputable def exK(mg:Str->Option Value)(E:mO):XK:=fun cls _ _=>∃ (ex:Ex) (C:Addr),cls=.ref C/\mg ex.cls=some (.ref C)/\E ex (fun _=>none)
structure Lk(X:Cx)(E:mO):Prop where
 made:∀ (pins:List (Addr×Obj)) (σ:L2.St) (H:Hp) (s:az) (h1:Heap) (a C:Addr) (args:List Value) (ex:Ex),Inv X pins σ H s->PySem.Heap.MadeExcOf s.heap h1 a (.ref C) args->X.mg ex.cls=some (.ref C)->E ex (fun _=>none)->X.xe (.ref a) { s with heap:=h1 }
 pass:∀ (pins:List (Addr×Obj)) (σ:L2.St) (H:Hp) (s s':az) (e:Value),Inv X pins σ H s->CXe X.prog X.w X.stack H s (exK X.mg E) e s'->X.xe e s'
theorem Lk.none{X:Cx}{E:mO}(h:∀ ex G,¬ E ex G):Lk X E where
 made:=fun _ _ _ _ _ _ _ _ ex _ _ _ z=>absurd z (h ex _)
 pass:=fun _ _ _ _ _ _ _ hc=>by
  obtain⟨_,_,_,_,_,_,_,_,_,_,_,_,_,_,hz⟩:=hc;obtain⟨ex,_,_,_,z⟩:=hz;exact absurd z (h ex _)
inductive tH (X:Cx) (pins:List (Addr×Obj)) (σ:L2.St) (H:Hp) (G:Gp) (Q:DK) (u:Value) (s':az):Prop
 | mk (v:V) (H':Hp) (d:D) (G':Gp) (i:Inv X pins σ H' s') (m:Mv X.K H G H' G') (r:RelV v u) (rd:cK X.K H' v d) (q:Q d G'):tH X pins σ H G Q u s'
inductive Wx (X:Cx) (pins:List (Addr×Obj)) (σ:L2.St) (H:Hp) (G:Gp) (Q:Bool->Gp->Prop) (b:Bool) (s':az):Prop
 | mk (H':Hp) (G':Gp) (i:Inv X pins σ H' s') (m:Mv X.K H G H' G') (q:Q b G'):Wx X pins σ H G Q b s'
inductive AP2 (X:Cx) (pins:List (Addr×Obj)) (σ:L2.St) (H:Hp) (G:Gp) (Q:List D->Gp->Prop) (us:List Value) (s':az):Prop
 | mk (vs:List V) (H':Hp) (ds:List D) (G':Gp) (i:Inv X pins σ H' s') (m:Mv X.K H G H' G') (r:Vals vs us) (rd:bC X.K H' vs ds) (q:Q ds G'):AP2 X pins σ H G Q us s'
inductive Y9 (X:Cx) (pins:List (Addr×Obj)) (H:Hp) (G:Gp) (P:iX->Gp->Prop) (s':az):Prop
 | mk (kb:L2.St) (H':Hp) (rQ:iX) (G':Gp) (i:I2 X pins kb H' rQ G' s') (m:Mv X.K H G H' G') (q:P rQ G'):Y9 X pins H G P s'
inductive SPr (X:Cx) (pins:List (Addr×Obj)) (H:Hp) (G:Gp) (P:D->Gp->Prop) (u:Value) (s':az):Prop
 | mk (v:V) (kb:L2.St) (H':Hp) (d:D) (G':Gp) (i:Inv X pins kb H' s') (m:Mv X.K H G H' G') (r:RelV v u) (rd:cK X.K H' v d) (q:P d G'):SPr X pins H G P u s'
noncomputable def V6(X:Cx)(pins:List (Addr×Obj))(H:Hp)(G:Gp)(D:mP)(f:Flow)(s':az):Prop :=
 match f with
 | .next=>Y9 X pins H G D.nx s'
 | .brk=>Y9 X pins H G D.bk s'
 | .cont=>Y9 X pins H G D.ct s'
 | .ret u=>SPr X pins H G D.rt u s'
noncomputable def gW(X:Cx)(e:Expr)(t:gG):Prop :=
 ∀ (E:mO) (pins:List (Addr×Obj)) (s:az) (σ:L2.St) (H:Hp) (τ:iX) (G:Gp) (Q:DK),Lk X E->I2 X pins σ H τ G s->t E τ G Q->wpAny (model X.prog X.w) X.A (eval e X.env) (tH X pins σ H G Q) X.xe s
noncomputable def NX(X:Cx)(e:Expr)(t:yv):Prop :=
 ∀ (E:mO) (pins:List (Addr×Obj)) (s:az) (σ:L2.St) (H:Hp) (τ:iX) (G:Gp) (Q:Bool->Gp->Prop),Lk X E->I2 X pins σ H τ G s->t E τ G Q->wpAny (model X.prog X.w) X.A (isTrue e X.env (eval e X.env)) (Wx X pins σ H G Q) X.xe s
noncomputable def V8(X:Cx)(e:Expr)(t:yv):Prop :=
 ∀ (wh:Sem Value) (E:mO) (pins:List (Addr×Obj)) (s:az) (σ:L2.St) (H:Hp) (τ:iX) (G:Gp) (Q:Bool->Gp->Prop),Lk X E->I2 X pins σ H τ G s->t E τ G Q->wpAny (model X.prog X.w) X.A (isTrue e X.env wh) (Wx X pins σ H G Q) X.xe s
noncomputable def Hx(X:Cx)(es:List Expr)(t:EW):Prop :=
 ∀ (pos:Pos) (E:mO) (pins:List (Addr×Obj)) (s:az) (σ:L2.St) (H:Hp) (τ:iX) (G:Gp) (Q:List D->Gp->Prop),Lk X E->I2 X pins σ H τ G s->t E τ G Q->wpAny (model X.prog X.w) X.A (Ik (mJ pos (bR es X.env))) (AP2 X pins σ H G Q) X.xe s
noncomputable def Kg(X:Cx)(st:Stmt)(t:ie):Prop :=
 ∀ (E:mO) (pins:List (Addr×Obj)) (s:az) (σ:L2.St) (H:Hp) (τ:iX) (G:Gp) (D:mP),Lk X E->I2 X pins σ H τ G s->t E D τ G->wpAny (model X.prog X.w) X.A (exec st X.env) (V6 X pins H G D) X.xe s
noncomputable def A5(X:Cx)(st:List Stmt)(t:ie):Prop :=
 ∀ (E:mO) (pins:List (Addr×Obj)) (s:az) (σ:L2.St) (H:Hp) (τ:iX) (G:Gp) (D:mP),Lk X E->I2 X pins σ H τ G s->t E D τ G->wpAny (model X.prog X.w) X.A (execs st X.env) (V6 X pins H G D) X.xe s
theorem V6.trans{X:Cx}{pins:List (Addr×Obj)}{H H1:Hp}{G G1:Gp}{D:mP}{f:Flow}{s':az}(m:Mv X.K H G H1 G1)(h:V6 X pins H1 G1 D f s'):V6 X pins H G D f s':=by
 cases f with
 | next=>obtain⟨kb,H',rQ,G',I,m',q⟩:=h; exact⟨kb,H',rQ,G',I,m.trans m',q⟩
 | brk=>obtain⟨kb,H',rQ,G',I,m',q⟩:=h; exact⟨kb,H',rQ,G',I,m.trans m',q⟩
 | cont=>obtain⟨kb,H',rQ,G',I,m',q⟩:=h; exact⟨kb,H',rQ,G',I,m.trans m',q⟩
 | ret u=>obtain⟨v,kb,H',d,G',I,m',r,rd,q⟩:=h; exact⟨v,kb,H',d,G',I,m.trans m',r,rd,q⟩
section
variable {X:Cx} {a b c:Expr} {ta tb tc:gG} {pos:Pos}
theorem kj{pins:List (Addr×Obj)}{σ:L2.St}{H:Hp}{τ:iX}{G:Gp}{s:az}{E:mO}{R:DK}{Q:Value->az->Prop}(ha:gW X a ta)(hE:Lk X E)(I:I2 X pins σ H τ G s)(h:ta E τ G R)
  (k:∀ v H1 d G1 u s1,I2 X pins σ H1 τ G1 s1->Mv X.K H G H1 G1->RelV v u->cK X.K H1 v d->R d G1->Q u s1):wpAny (model X.prog X.w) X.A (eval a X.env) Q X.xe s :=
 iy (ha E pins s σ H τ G R hE I h) (by rintro u s1 ⟨v,H1,d,G1,I1,m,r,rd,q⟩; exact k v H1 d G1 u s1 (I.mv I1 m) m r rd q)
theorem tH.trans{pins:List (Addr×Obj)}{σ:L2.St}{H H1:Hp}{G G1:Gp}{Q:DK}{u:Value}{s':az}(m:Mv X.K H G H1 G1)(h:tH X pins σ H1 G1 Q u s'):tH X pins σ H G Q u s':=by
 obtain⟨v,H',d,G',I,m',r,rd,q⟩:=h;exact⟨v,H',d,G',I,m.trans m',r,rd,q⟩
theorem Wx.trans{pins:List (Addr×Obj)}{σ:L2.St}{H H1:Hp}{G G1:Gp}{Q:Bool->Gp->Prop}{u:Bool}{s':az}(m:Mv X.K H G H1 G1)(h:Wx X pins σ H1 G1 Q u s'):Wx X pins σ H G Q u s':=by
 obtain⟨H',G',I,m',r⟩:=h;exact⟨H',G',I,m.trans m',r⟩
theorem Si {i:Nat} {x:Str} (hN:X.N[i]?=some x) (hv:Y7 X.env.scope x) (hd:autoParam ((x == ("__debug__" : Str))=false) Ad._auto_1) (Ls:autoParam ((x == ("__classdict__" : Str))=false) Ad._auto_1):gW X (.Name x pos) (au i):=by
 intro E pins s σ H τ G Q hE I h;unfold au at h;split at h
 ·rename_i d e;obtain⟨v,h1,h2⟩:=I.st.at' i d e;exact iy (U3 hN hv hd Ls pins s σ H (fun v' H'=>v'=v/\H'=H) I.inv ⟨v,h1,rfl,rfl⟩) fun u s1 MV=>by
   obtain⟨v',H',I1,r,e1,e2⟩:=MV;subst e1; subst e2;exact⟨_,_,d,G,I1,.refl I.ab,r,h2,h⟩
 ·exact h.elim
theorem xF{e:Expr}{v:V}{d:D}(h:PE X e (tC v))(r:∀ K H,cK K H v d):gW X e (dC d):=by
 intro E pins s σ H τ G Q hE I hq;exact iy (h pins s σ H (fun v' H'=>v'=v/\H'=H) I.inv ⟨rfl,rfl⟩) fun u s1 Wo=>by
  obtain⟨v',H',I1,rr,e1,e2⟩:=Wo;subst e1; subst e2;exact⟨_,_,d,G,I1,.refl I.ab,rr,r _ _,hq⟩
theorem aS{i j}:gW X (.Constant (.int i) j pos) (dC (.int i)):=xF U4 fun _ _=>.int i
noncomputable def rT(X:Cx)(f:Value->Value->Sem Value)(r:BR):Prop :=
 ∀ (pins:List (Addr×Obj)) (s:az) (σ:L2.St) (H:Hp) (G:Gp) (x y:V) (dx dy:D) (v u:Value) (Q:DK),Inv X pins σ H s->oy X.K H G->RelV x v->RelV y u->cK X.K H x dx->cK X.K H y dy->r dx dy G Q ->
  wpAny (model X.prog X.w) X.A (f v u) (tH X pins σ H G Q) X.xe s
noncomputable def Yp(X:Cx)(f:Value->Sem Value)(r:D->Gp->DK->Prop):Prop :=
 ∀ (pins:List (Addr×Obj)) (s:az) (σ:L2.St) (H:Hp) (G:Gp) (x:V) (dx:D) (v:Value) (Q:DK),Inv X pins σ H s->oy X.K H G->RelV x v->cK X.K H x dx->r dx G Q ->
  wpAny (model X.prog X.w) X.A (f v) (tH X pins σ H G Q) X.xe s
noncomputable def rq(X:Cx)(f:Value)(r:List D->Gp->DK->Prop):Prop :=
 ∀ (pins:List (Addr×Obj)) (s:az) (σ:L2.St) (H:Hp) (G:Gp) (xs:List V) (ds:List D) (us:List Value) (Q:DK),Inv X pins σ H s->oy X.K H G->Vals xs us->bC X.K H xs ds->r ds G Q ->
  wpAny (model X.prog X.w) X.A (call f us) (tH X pins σ H G Q) X.xe s
noncomputable abbrev EX(K:aq)(H:Hp)(G:Gp)(Q:DK):VK:=fun v H'=>∃ d G',Mv K H G H' G'/\cK K H' v d/\Q d G'
theorem tH.of{pins:List (Addr×Obj)}{σ:L2.St}{H:Hp}{G:Gp}{Q:DK}{u:Value}{s':az}(h:EP X pins σ (EX X.K H G Q) u s'):tH X pins σ H G Q u s':=by
 obtain⟨v,H',I,r,d,G',m,rd,q⟩:=h;exact⟨v,H',d,G',I,m,r,rd,q⟩
theorem QW(ha:gW X a ta)(hb:gW X b tb){E:mO}{pins:List (Addr×Obj)}{s:az}{σ:L2.St}{H:Hp}{τ:iX}{G:Gp}{R:D->D->Gp->Prop}(hE:Lk X E)(I:I2 X pins σ H τ G s)
  (h:ta E τ G fun x G1=>tb E τ G1 fun y G2=>R x y G2) {Q:Value->az->Prop} {f:Value->Value->Sem Value}
  (hf:∀ v u s2 x y dx dy H2 G2,I2 X pins σ H2 τ G2 s2->Mv X.K H G H2 G2->RelV x v->RelV y u->cK X.K H2 x dx->cK X.K H2 y dy->R dx dy G2->wpAny (model X.prog X.w) X.A (f v u) Q X.xe s2) :
  wpAny (model X.prog X.w) X.A (eval a X.env) (fun v fM=>wpAny (model X.prog X.w) X.A (eval b X.env) (fun u kQ=>wpAny (model X.prog X.w) X.A (f v u) Q X.xe kQ) X.xe fM) X.xe s:=by
 refine kj ha hE I h fun x H1 dx G1 v s1 I1 m1 r1 jG q1=>?_;refine kj hb hE I1 q1 fun y H2 dy G2 u s2 qm m2 r2 Bt q2=>?_;exact hf v u s2 x y dx dy H2 G2 qm (m1.trans m2) r1 r2 (jG.mono (m2.kp I1.ab)) Bt q2
theorem cJ{op:Operator}{r:BR}(ho:rT X (kP op) r)(ha:gW X a ta)(hb:gW X b tb):gW X (.BinOp a op b pos) (bo r ta tb):=by
 intro E pins s σ H τ G Q hE I h;exact wpAny_BinOp (QW ha hb hE I h fun v u s2 x y dx dy H2 G2 qm m rx ry dX dY q=>iy (ho pins s2 σ H2 G2 x y dx dy v u Q qm.inv qm.ab rx ry dX dY q) fun _ _ z=>z.trans m)
theorem va{op:UnaryOp}{r:D->Gp->DK->Prop}(ho:Yp X (unaryOp op) r)(ha:gW X a ta):gW X (.UnaryOp op a pos) (Ih r ta):=by
 intro E pins s σ H τ G Q hE I h;exact UnaryOp_ (kj ha hE I h fun x H1 dx G1 v s1 I1 m1 r1 jG q1=>iy (ho pins s1 σ H1 G1 x dx v Q I1.inv I1.ab r1 jG q1) fun _ _ z=>z.trans m1)
theorem DB{op:CmpOp}{r:BR}(ho:rT X (fx op) r)(ha:gW X a ta)(hb:gW X b tb)(hm:E1 op b=false):gW X (.Compare a [op] [b] pos) (bo r ta tb):=by
 intro E pins s σ H τ G Q hE I h;exact wpAny_Compare1 (QW ha hb hE I h fun v u s2 x y dx dy H2 G2 qm m rx ry dX dY q=>iy (ho pins s2 σ H2 G2 x y dx dy v u Q qm.inv qm.ab rx ry dX dY q) fun _ _ z=>z.trans m) hm
end
end K2
end
section
namespace K2
open PySem PySem.Spec PyProof.Rows L2
theorem WK{K:aq}{H:Hp}{G:Gp}{x:V}{d:D}{k:Bool}(ab:oy K H G)(r:cK K H x d)(e:L9 d G=some k):(∃ p,x=.ref p/\Rd H p (.dT [])/\k=false)\/(∃ p kv,x=.ref p/\Rd H p (.dK kv)/\k=!kv.isEmpty)\/V5 K x H k:=by
 have Qx:∀ kvs:List (D×D),(if (kvs.all fun p=>dU p.1)=true then some (!kvs.isEmpty) else none)=some k->∀ p,((∃ kv,Rd H p (.dK kv)/\mD K H kv kvs)\/∃ kv,Rd H p (.dT kv)/\oJ K H kv kvs) ->
   (∃ p',V.ref p=.ref p'/\Rd H p' (.dT [])/\k=false)\/(∃ p' kv,V.ref p=.ref p'/\Rd H p' (.dK kv)/\k=!kv.isEmpty)\/V5 K (.ref p) H k:=by
  intro kvs e p z;by_cases ha:(kvs.all fun p=>dU p.1)=true
  ·rw [if_pos ha] at e;cases e;rcases z with ⟨kv,hv,rs⟩ | ⟨kv,hv,rs⟩
   ·right; left;refine⟨p,kv,rfl,hv,?_⟩;cases rs <;> rfl
   ·left;cases rs with
    | nil=>exact⟨p,rfl,hv,rfl⟩
    | cons _ _=>simp [dU] at ha
  ·rw [if_neg ha] at e; cases e
 cases r with
 | fh=>right; right; cases e; rfl
 | bl b=>right; right; cases e; rfl
 | int i=>right; right; cases e; rfl
 | str y =>
  right; right;unfold L9 at e;dsimp only at e;by_cases h:y.length<=SZ
  ·rw [if_pos h] at e; cases e; exact⟨by rw [cH]; exact h,rfl⟩
  ·rw [if_neg h] at e; cases e
 | tup h rs =>
  right; right;cases e;refine .inr (.inl ⟨_,.of h,?_⟩);cases rs <;> rfl
 | ez h rs =>
  right; right;cases e;refine .inl ⟨_,h.sq,?_⟩;cases rs <;> rfl
 | qC h rs=>exact Qx _ e _ (.inl ⟨_,.inr ⟨_,h⟩,rs⟩)
 | qB h rs=>exact Qx _ e _ (.inr ⟨_,.inr ⟨_,h⟩,rs⟩)
 | exc h=>simp [L9] at e
 | ref a =>
  unfold L9 at e;dsimp only at e;cases q:G a with
  | none=>rw [q] at e; cases e
  | some g =>
   rw [q] at e;have z:=ab a g q;cases g with
   | lst ds =>
    right; right;obtain⟨vs,hv,rs⟩:=z;cases e;refine .inl ⟨vs,.of hv,?_⟩;cases rs <;> rfl
   | dI kvs =>
    refine Qx kvs e a ?_;rcases z with ⟨kv,hv,rs⟩ | ⟨kv,hv,rs⟩
    ·exact .inl ⟨kv,.inl hv,rs⟩
    ·exact .inr ⟨kv,.inl hv,rs⟩
section
variable {X:Cx} {a b c:Expr} {ta tb tc:gG} {pos:Pos}
noncomputable def Yq(X:Cx):Prop:=∀ (pins:List (Addr×Obj)) (s:az) (σ:L2.St) (H:Hp) (G:Gp) (x:V) (d:D) (v:Value) (k:Bool) (Q:Bool->az->Prop),Inv X pins σ H s->oy X.K H G->RelV x v->cK X.K H x d->L9 d G=some k ->
  (∀ s',Inv X pins σ H s'->Q k s')->wpAny (model X.prog X.w) X.A (truthy v) Q X.xe s
theorem OA:Yq X:=by
 intro pins s σ H G x d v k Q I ab rx rd e q;rcases WK ab rd e with ⟨p,rfl,hv,hk⟩ | ⟨p,kv,rfl,hv,hk⟩ | h
 ·obtain⟨z,hS,xs,rel,o,es,ep,ho,hx,DY,hl,nd⟩:=hv.ok I.cN;have hxs:xs=[]:=by cases rel; rfl
  subst hxs;have he:es=#[]:=by simpa using hl
  subst he;cases rx;have dd:s.heap.DictOf (cx X.prog X.w) p []:=⟨o,#[],ep,ho,hx,DY,(fun _ h=>by simp at h),.nil,dv⟩;refine Ii hS dd (by simp) ?_;subst hk;exact q _ (I.tok _)
 ·cases rx;subst hk;exact S9 I hv q
 ·exact iy (UE pins s σ H x v (fun k' H'=>k'=k/\H'=H) I rx ⟨k,h,rfl,rfl⟩) fun k' s' MV=>by
   obtain⟨H',I',e1,e2⟩:=MV;subst e1; subst e2; exact q s' I'
theorem pX(ha:gW X a ta)(he:autoParam (∀ whole,isTrue a X.env whole=(do let v ← whole; standAt a.pos; Io [v] (truthy v))) Ai._auto_1):NX X a (ml ta):=by
 intro E pins s σ H τ G Q hE I h;refine isTrue_plain (kj ha hE I h fun x H1 d G1 v s1 I1 m1 r1 jG q1=>?_) (he _)
 try dsimp only at q1
 split at q1
 ·rename_i k e;exact OA pins s1 σ H1 G1 x d v k _ I1.inv I1.ab r1 jG e fun s' I'=>⟨H1,G1,I',m1,q1⟩
 ·exact q1.elim
theorem g6{op:CmpOp}{r:BR}(ho:rT X (fx op) r)(ha:gW X a ta)(hb:gW X b tb)(hm:E1 op b=false):NX X (.Compare a [op] [b] pos) (ml (bo r ta tb)):=by
 intro E pins s σ H τ G Q hE I h;refine wpAny_isTrue_Compare1 (kj ha hE I h fun x H1 dx G1 v s1 I1 m1 r1 jG q1=>kj hb hE I1 q1 fun y H2 dy G2 u s2 qm m2 r2 Bt q2 =>
  iy (ho pins s2 σ H2 G2 x y dx dy v u _ qm.inv qm.ab r1 r2 (jG.mono (m2.kp I1.ab)) Bt q2) ?_) hm
 rintro c s3 ⟨z,H3,dz,G3,I3,m3,r3,UY,q3⟩
 try dsimp only at q3
 split at q3
 ·rename_i k e;exact OA pins s3 σ H3 G3 z dz c k _ I3 m3.ab r3 UY e fun s' I'=>⟨H3,G3,I',(m1.trans m2).trans m3,q3⟩
 ·exact q3.elim
variable {tA tB:yv} {rest:List Expr}
theorem V8.pt{e:Expr}{t:yv}(h:V8 X e t):NX X e t:=fun E pins s σ H τ G Q hE I q=>h _ E pins s σ H τ G Q hE I q
theorem OD{pins:List (Addr×Obj)}{σ:L2.St}{H:Hp}{τ:iX}{G:Gp}{s:az}{E:mO}{R:Bool->Gp->Prop}{Q:Bool->az->Prop}(ha:NX X a tA)(hE:Lk X E)(I:I2 X pins σ H τ G s)(h:tA E τ G R)
  (k:∀ c H1 G1 s1,I2 X pins σ H1 τ G1 s1->Mv X.K H G H1 G1->R c G1->Q c s1):wpAny (model X.prog X.w) X.A (isTrue a X.env (eval a X.env)) Q X.xe s :=
 iy (ha E pins s σ H τ G R hE I h) (by rintro c s1 ⟨H1,G1,I1,m,q⟩; exact k c H1 G1 s1 (I.mv I1 m) m q)
theorem KZ(ha:NX X a tA):V8 X (.BoolOp .Or [a] pos) tA:=by
 intro wh E pins s σ H τ G Q hE I h;refine isTrue_or (iy (ha E pins s σ H τ G Q hE I h) fun c s1 e=>?_);cases c with
 | false=>exact isTrue_or_nil e
 | true=>exact e
theorem IV(ha:NX X a tA)(hb:V8 X (.BoolOp .Or (b :: rest) pos) tB):V8 X (.BoolOp .Or (a :: b :: rest) pos) (RA tA tB):=by
 intro wh E pins s σ H τ G Q hE I h;refine isTrue_or (OD ha hE I h fun c H1 G1 s1 I1 m1 q1=>?_);cases c with
 | false=>exact iy (hb wh E pins s1 σ H1 τ G1 Q hE I1 (by simpa using q1)) fun _ _ z=>z.trans m1
 | true=>exact⟨H1,G1,I1.inv,m1,by simpa using q1⟩
theorem wo(ha:NX X a tA):NX X (.UnaryOp .Not a pos) (wY tA):=by
 intro E pins s σ H τ G Q hE I h;exact isTrue_not (iy (ha E pins s σ H τ G (fun c H1=>Q (!c) H1) hE I h) (by rintro c s' ⟨H',G',i,m,q⟩; exact⟨H',G',i,m,q⟩))
theorem K7{op}{t:gG}(h:gW X a t):gW X (.BoolOp op [a] pos) t:=fun E pins s σ H τ G Q hE I hw=>BoolOp_one (h E pins s σ H τ G Q hE I hw)
theorem DD(ha:gW X a ta)(hb:gW X (.BoolOp .And (b :: rest) pos) tb):gW X (.BoolOp .And (a :: b :: rest) pos) (CL ta tb):=by
 intro E pins s σ H τ G Q hE I h;refine BoolOp_and (kj ha hE I h fun x H1 d G1 v s1 I1 m1 r1 jG q1=>?_)
 try dsimp only at q1
 split at q1
 ·rename_i e;exact OA pins s1 σ H1 G1 x d v true _ I1.inv I1.ab r1 jG e fun s' I'=>iy (hb E pins s' σ H1 τ G1 Q hE ⟨I',I1.st,I1.ab⟩ q1) fun _ _ z=>z.trans m1
 ·rename_i e;exact OA pins s1 σ H1 G1 x d v false _ I1.inv I1.ab r1 jG e fun s' I'=>⟨x,H1,d,G1,I',m1,r1,jG,q1⟩
 ·exact q1.elim
theorem Sj(ha:gW X a ta):gW X (.UnaryOp .Not a pos) (QE ta):=by
 intro E pins s σ H τ G Q hE I h;refine UnaryOp_ (kj ha hE I h fun x H1 d G1 v s1 I1 m1 r1 jG q1=>?_)
 try dsimp only at q1
 split at q1
 ·rename_i k e;exact not_of (OA pins s1 σ H1 G1 x d v k _ I1.inv I1.ab r1 jG e fun s' I'=>⟨.bl (!k),H1,.bl (!k),G1,I',m1,rfl,.bl _,q1⟩)
 ·exact q1.elim
theorem O9(hc:NX X c tA)(ha:gW X a ta)(hb:gW X b tb):gW X (.IfExp c a b pos) (Ye tA ta tb):=by
 intro E pins s σ H τ G Q hE I h;refine wpAny_IfExp (OD hc hE I h fun d H1 G1 s1 I1 m1 q1=>?_);cases d with
 | true=>exact iy (ha E pins s1 σ H1 τ G1 Q hE I1 (by simpa using q1)) fun _ _ z=>z.trans m1
 | false=>exact iy (hb E pins s1 σ H1 τ G1 Q hE I1 (by simpa using q1)) fun _ _ z=>z.trans m1
variable {e:Expr} {es:List Expr} {te:gG} {t:EW}
theorem aI:Hx X [] aX:=fun _ _ _ _ _ H _ G Q _ I h=>mS ⟨[],H,[],G,I.inv,.refl I.ab,.nil,.nil,h⟩
theorem ak(ha:gW X e te)(hr:Hx X es t)(hs:autoParam (bR (e :: es) X.env=(false,eval e X.env) :: bR es X.env) Ar._auto_1):Hx X (e :: es) (ay te t):=by
 intro pos E pins s σ H τ G Q hE I h;rw [hs];show wpAny _ _ (Ik ((false,eval e X.env) :: mJ pos (bR es X.env))) _ _ s;refine jv (kj ha hE I h fun x H1 d G1 u s1 I1 m1 r1 jG q1=>?_);exact iy (hr pos E pins s1 σ H1 τ G1 _ hE I1 q1) (by rintro us s2 ⟨xs,H2,ds,G2,qm,m2,r2,Bt,q2⟩; exact⟨x :: xs,H2,d :: ds,G2,qm,m1.trans m2,.cons r1 r2,.cons (jG.mono (m2.kp I1.ab)) Bt,q2⟩)
theorem zo{pins:List (Addr×Obj)}{σ:L2.St}{H:Hp}{τ:iX}{G:Gp}{s:az}{E:mO}{R:List D->Gp->Prop}{Q:List Value->az->Prop}(ha:Hx X es t)(pos:Pos)(hE:Lk X E)(I:I2 X pins σ H τ G s)(h:t E τ G R)
  (k:∀ vs H1 ds G1 us s1,I2 X pins σ H1 τ G1 s1->Mv X.K H G H1 G1->Vals vs us->bC X.K H1 vs ds->R ds G1->Q us s1):wpAny (model X.prog X.w) X.A (Ik (mJ pos (bR es X.env))) Q X.xe s :=
 iy (ha pos E pins s σ H τ G R hE I h) (by rintro us s1 ⟨vs,H1,ds,G1,I1,m,r,rd,q⟩; exact k vs H1 ds G1 us s1 (I.mv I1 m) m r rd q)
theorem dq{x1}(h:Hx X es t):gW X (.Tuple es x1 pos) (gv t):=by
 intro E pins s σ H τ G Q hE I hq;refine wpAny_Tuple_spliced (zo h pos hE I hq ?_);rintro xs H1 ds G1 us s1 I1 m1 r rd ⟨z,q⟩;refine⟨by rw [<-r.length,rd.length,cH]; exact z,?_⟩;have hf:H1 s1.heap.objs.size=none:=I1.inv.cN.fresh (aF _);refine⟨.ref s1.heap.objs.size,upd H1 s1.heap.objs.size (.tup xs),.tup ds,G1,I1.inv.laid (t':=s1.toks) (fun b u e=>aE _ e) (aF _) ?_,m1.trans (.P8 I1.ab hf),rfl,?_,q⟩
 ·exact⟨by rw [rd.length,cH]; exact z,us,r,⟨_,bh _ rfl,rfl,_,rfl⟩⟩
 ·exact .tup bX (rd.mono (.new hf))
theorem fW(h:Hx X es t):gW X (.List es pos) (gF t):=by
 intro E pins s σ H τ G Q hE I hq;refine wpAny_List_spliced (zo h pos hE I hq ?_);rintro xs H1 ds G1 us s1 I1 m1 r rd ⟨z,q⟩;refine⟨by rw [<-r.length,rd.length,cH]; exact z,?_⟩;have hf:H1 s1.heap.objs.size=none:=I1.inv.cN.fresh (aF _);refine⟨.ref s1.heap.objs.size,upd H1 s1.heap.objs.size (.lst xs),.ref _,c7 G1 s1.heap.objs.size (.lst ds),I1.inv.laid (t':=s1.toks) (fun b u e=>aE _ e) (aF _) ?_,m1.trans (.Jk I1.ab hf rd),rfl,.ref _,q _ (I1.ab.free hf)⟩;exact⟨by rw [rd.length,cH]; exact z,us,0,r,bh _ rfl⟩
noncomputable def cD(K:aq)(sp:kN):Sp:=fun vs H Q _=>∃ ds G Q2,bC K H vs ds/\oy K H G/\sp ds G Q2 (fun _ _=>False)/\∀ d G' v H',Q2 d G'->Mv K H G H' G'->cK K H' v d->Q v H'
variable {k:Nat} {f:Addr} {fd:aH} {ps:List Str} {sp:kN} {x:Str} {p:Pos} {r:List D->Gp->DK->Prop} {id:String}
theorem Pa(F:fK X.prog X.w X.K X.mg X.base gu k f fd ps (cD X.K sp))(hr:nv k X.A)(hg:Gl X x)(hm:X.mg x=some (.ref f))(hk:kg X.K (.ref f)=true)(hb:Binds X.K fd ps [])
  (ha:Hx X (e :: es) t) (JC:autoParam ((x == ("__debug__" : Str))=false) Ad._auto_1) (he:autoParam (bR (e :: es) X.env=(false,eval e X.env) :: bR es X.env) Ar._auto_1) (JB:autoParam ((mJ pos (bR es X.env)).any (·.1)=false) Ar._auto_1) :
  gW X (.Call (.Name x p) (e :: es) [] pos) (fun E τ G Q=>bB (fun ds G1 Q1 _=>sp ds G1 Q1 fun _ _=>False) t E τ G Q):=by
 intro E pins s σ H τ G Q hE I h;refine e7 (wF I.inv hg hm ?_ JC);refine Rj (h₀:=X.base) I.inv.ok.mod.Xp hk (zo ha pos hE I h fun vs H1 ds G1 us s1 I1 m1 r rd q=>⟨I1.inv.HZ,?_⟩) he JB;refine iy (OS F hr hb .nil TZ I1.inv r (Q:=EX X.K H1 G1 Q) ?_) fun _ _ z=>(tH.of z).trans m1;rw [cX];exact⟨ds,G1,Q,rd,I1.ab,q,fun d G' v H' q' m' YG=>⟨d,G',m',YG,q'⟩⟩
theorem iR (hc:rq X (.builtin id) r) (hg:Gl X x) (hm:X.mg x=none) (hv:eE x=some (.builtin id)) (ha:Hx X (e :: es) t) (hn:autoParam (x≠"__name__") Ad._auto_1) (JC:autoParam ((x == ("__debug__" : Str))=false) Ad._auto_1)
  (he:autoParam (bR (e :: es) X.env=(false,eval e X.env) :: bR es X.env) Ar._auto_1) (JB:autoParam ((mJ pos (bR es X.env)).any (·.1)=false) Ar._auto_1):gW X (.Call (.Name x p) (e :: es) [] pos) (qW r t):=by
 intro E pins s σ H τ G Q hE I h;refine e7 (mG I.inv hg hm hv ?_ hn JC);exact lD (zo ha pos hE I h fun vs H1 ds G1 us s1 I1 m1 r1 jG q1=>iy (hc pins s1 σ H1 G1 vs ds us Q I1.inv I1.ab r1 jG q1) fun _ _ z=>z.trans m1) he JB
variable {st:Stmt} {sts:List Stmt} {u v:ie}
theorem hZ:A5 X [] gm:=fun _ _ _ σ H τ G _ _ I h=>za ⟨σ,H,τ,G,I,.refl I.ab,h⟩
theorem aG(h1:Kg X st u)(h2:A5 X sts v):A5 X (st :: sts) (bO u v):=by
 intro E pins s σ H τ G D hE I h;refine wpAny_execs_cons (iy (h1 E pins s σ H τ G { D with nx:=v E D } hE I h) fun f s1 q=>?_);cases f with
 | next =>
  obtain⟨kb,H',rQ,G',I',m,q⟩:=q;exact iy (h2 E pins s1 kb H' rQ G' D hE I' q) fun _ _ z=>z.trans m
 | ret v=>exact q
 | brk=>exact q
 | cont=>exact q
theorem aN(h1:Kg X st u):A5 X [st] u:=by
 intro E pins s σ H τ G D hE I h;refine wpAny_execs_cons (iy (h1 E pins s σ H τ G D hE I h) fun f s1 q=>?_);cases f with
 | next=>exact za q
 | ret v=>exact q
 | brk=>exact q
 | cont=>exact q
theorem bT(he:gW X e te):Kg X (.Return (some e) pos) (cy te):=by
 intro E pins s σ H τ G D hE I h;exact wpAny_Return_some (iy (he E pins s σ H τ G _ hE I h) (by rintro v s1 ⟨x,H1,d,G1,I1,m,r1,rd,q1⟩; exact⟨x,σ,H1,d,G1,I1,m,r1,rd,q1⟩))
theorem lg{sa sb:List Stmt}(hc:NX X c tA)(ha:A5 X sa u)(hb:A5 X sb v):Kg X (.If c sa sb pos) (mr tA u v):=by
 intro E pins s σ H τ G D hE I h;refine wpAny_If (OD hc hE I h fun d H1 G1 s1 I1 m1 q1=>?_);cases d with
 | true=>exact iy (ha E pins s1 σ H1 τ G1 D hE I1 (by simpa using q1)) fun _ _ z=>z.trans m1
 | false=>exact iy (hb E pins s1 σ H1 τ G1 D hE I1 (by simpa using q1)) fun _ _ z=>z.trans m1
noncomputable def N0(X:Cx)(target:Expr)(t:BQ):Prop :=
 ∀ (E:mO) (pins:List (Addr×Obj)) (s:az) (σ:L2.St) (H:Hp) (τ:iX) (G:Gp) (w:V) (d:D) (u:Value) (Q:iX->Gp->Prop),Lk X E->I2 X pins σ H τ G s->RelV w u->cK X.K H w d->t E d τ G Q ->
  wpAny (model X.prog X.w) X.A (Od target X.env u) (fun _ s'=>∃ kb H' rQ G',I2 X pins kb H' rQ G' s'/\Mv X.K H G H' G'/\Q rQ G') X.xe s
noncomputable def Tz(X:Cx)(ts:List Expr)(t:EC):Prop :=
 ∀ (E:mO) (pins:List (Addr×Obj)) (s:az) (σ:L2.St) (H:Hp) (τ:iX) (G:Gp) (ws:List V) (ds:List D) (us:List Value) (Q:iX->Gp->Prop),Lk X E->I2 X pins σ H τ G s->Vals ws us->bC X.K H ws ds->t E ds τ G Q ->
  wpAny (model X.prog X.w) X.A (assignInOrder ((Bf ts X.env).map (·.2)) us) (fun _ s'=>∃ kb H' rQ G',I2 X pins kb H' rQ G' s'/\Mv X.K H G H' G'/\Q rQ G') X.xe s
theorem O7{i:Nat}{x:Str}(hN:X.N.Nodup)(hi:X.N[i]?=some x)(hx:Loc X.env.scope x)(hf:autoParam (X.fn x=true\/X.env.scope.names.lookup x=some .local) Ao._auto_1):N0 X (.Name x pos) (aC i):=by
 intro E pins s σ H τ G w d u Q hE I r rd h;exact wpAny_assign_Name (Fh I.inv hN hi hx r (fun s' I'=>⟨_,H,_,G,⟨I',I.st.set i rd,I.ab⟩,.refl I.ab,h⟩) hf)
theorem iJ:Tz X [] jP:=by
 intro E pins s σ H τ G ws ds us Q hE I r rd h;unfold jP at h;split at h
 ·have e:=rd.zero;subst e;cases r;exact assignInOrder_nil ⟨σ,H,τ,G,I,.refl I.ab,h⟩
 ·exact h.elim
theorem cS{t:BQ}{u:EC}(h1:N0 X e t)(h2:Tz X es u)
  (hs:autoParam ((Bf (e :: es) X.env).map (·.2)=Od e X.env :: (Bf es X.env).map (·.2)) Ar._auto_1):Tz X (e :: es) (eA t u):=by
 intro E pins s σ H τ G ws ds us Q hE I r rd h;unfold eA at h;split at h
 ·cases rd with
  | cons jG Bt =>
   cases r with
   | cons r1 r2 =>
    rw [hs];refine assignInOrder_cons (iy (h1 E pins s σ H τ G _ _ _ _ hE I r1 jG h) ?_);rintro _ s1 ⟨Yz,H1,qv,G1,I1,m1,q1⟩;exact iy (h2 E pins s1 Yz H1 qv G1 _ _ _ Q hE I1 r2 (Bt.mono (m1.kp I.ab)) q1) (by rintro _ _ ⟨ZG,H2,xw,G2,qm,m2,q2⟩; exact⟨ZG,H2,xw,G2,qm,m1.trans m2,q2⟩)
 ·exact h.elim
theorem j3{k:Nat}{t:EC}{n:Nat}(hc:X.calm=true)(h:Tz X es t)(hgl:∀ E ds τ G Q,t E ds τ G Q->ds.length=n)
  (hn:autoParam ((Bf es X.env).length=n) Ar._auto_1) (JA:autoParam ((Bf es X.env).findIdx? (·.1)=none) Ar._auto_1):N0 X (.Tuple es k pos) (j7 t):=by
 intro E pins s σ H τ G w d u Q hE I r rd hw;unfold j7 at hw;split at hw
 ·cases rd with
  | tup hq rs =>
   cases r;obtain⟨bM,rv,ht,hz⟩:=I.inv.tuple (.of hq);refine assign_Tuple_tuple (I.inv.ok.hd hc) ht (by rw [hn,aY,<-rv.length,rs.length]; exact(hgl _ _ _ _ _ hw).symm) JA fun h' hx=>?_;have I1:Inv X pins σ H { s with heap:=h' }:=I.inv.kept (t':=s.toks) fun b o e=>hx b o (bc (aP e)) e;exact h E pins _ σ H τ G _ _ _ Q hE ⟨I1,I.st,I.ab⟩ (by simpa using rv) rs hw
 ·exact hw.elim
theorem iM:∀ E ds τ G Q,jP E ds τ G Q->ds.length=0:=by
 intro E ds τ G Q h;cases ds with
 | nil=>rfl
 | cons _ _=>exact h.elim
theorem M4{t:BQ}{u:EC}{n:Nat}(h:∀ E ds τ G Q,u E ds τ G Q->ds.length=n)(hm:∀ E d τ G (Q Q':iX->Gp->Prop),t E d τ G Q->(∀ rQ G',Q rQ G'->Q' rQ G')->t E d τ G Q')(hx:∀ E d τ G,¬ t E d τ G fun _ _=>False) :
  ∀ E ds τ G Q,eA t u E ds τ G Q->ds.length=n+1:=by
 intro E ds τ G Q q;cases ds with
 | nil=>exact q.elim
 | cons d ds =>
  by_cases hl:ds.length=n
  ·rw [ai,hl]
  ·exact absurd (hm E d τ G _ (fun _ _=>False) q fun rQ G' z=>hl (h _ _ _ _ _ z)) (hx E d τ G)
theorem fD{tg:Expr}{g:BQ}(he:gW X e te)(hg:N0 X tg g)(hs:autoParam (swapsWithSole [tg] e pos.line X.env=pure false) Ar._auto_1)(hw:autoParam (swappedStores [tg] e X.env=pure none) Ar._auto_1)
  (h1:autoParam ((Bf [tg] X.env).map (·.2)=[Od tg X.env]) Ar._auto_1):Kg X (.Assign [tg] e pos) (bq te g):=by
 intro E pins s σ H τ G D hE I h;refine wpAny_Assign_stores (kj he hE I h fun x H1 d G1 v s1 I1 m1 r1 jG q1=>?_) hs hw;rw [h1];exact iy (hg E pins s1 σ H1 τ G1 x d v _ hE I1 r1 jG q1) (by rintro _ s2 ⟨ZG,H2,xw,G2,qm,m2,q2⟩; exact⟨ZG,H2,xw,G2,qm,m1.trans m2,q2⟩)
theorem Sf{i:Nat}{x:Str}{pos':Pos}(hN:X.N.Nodup)(hi:X.N[i]?=some x)(hx:Loc X.env.scope x)(he:gW X e te)(hs:autoParam (N8 e (some (.Name x pos')) pos.line X.env=pure false) Ar._auto_1)(hf:autoParam (X.fn x=true\/X.env.scope.names.lookup x=some .local) Ao._auto_1) :
  Kg X (.Assign [.Name x pos'] e pos) (bq te (aC i)):=by
 intro E pins s σ H τ G D hE I h;refine wpAny_Assign_Name (kj he hE I h fun y H1 d G1 v s1 I1 m1 r1 jG q1=>?_) hs;exact Fh I1.inv hN hi hx r1 (fun s2 qm=>⟨_,H1,_,G1,⟨qm,I1.st.set i jG,I1.ab⟩,m1,q1⟩) hf
theorem pY(he:gW X e te)(hs:autoParam (N8 e none pos.line X.env=pure false) Ar._auto_1):Kg X (.Expr e pos) (jQ te):=by
 intro E pins s σ H τ G D hE I h;exact wpAny_Expr_any (kj he hE I h fun y H1 d G1 v s1 I1 m1 r1 jG q1=>⟨σ,H1,τ,G1,I1,m1,q1⟩) I.inv.quiet hs
end
end K2
end
section
namespace K2
open PySem PySem.Spec PyProof.Rows L2
noncomputable def Uo(K:aq)(J:It)(H':Hp)(ds:List D)(ok:Gp->Prop):Prop :=
 ∀ i H1 G1,Kp H' H1->oy K H1 G1->ok G1->(∀ d,ds[i]?=some d->J.go i H1/\∀ x H2,J.yld i H1 x H2->cK K H2 x d/\Mv K H1 G1 H2 G1)/\(ds.length<=i->J.stop i H1)
inductive Kh (X:Cx) (pins:List (Addr×Obj)) (σ:L2.St) (tg:Expr) (H:Hp) (G:Gp) (R:List D->(Gp->Prop)->Gp->Prop) (T8:Value) (s2:az):Prop
 | mk (it:Addr) (fp:List Addr) (tn:Nat->Heap->Prop) (J:It) (H':Hp) (G':Gp) (ds:List D) (ok:Gp->Prop) (e:T8=.ref it) (i:Inv X pins σ H' s2) (m:Mv X.K H G H' G') (T:Turn X.prog X.w X.K tg J fp it tn) (t0:tn 0 s2.heap) (f:∀ b∈fp,oI X pins H' b)
  (wk:Uo X.K J H' ds ok) (q:R ds ok G'):Kh X pins σ tg H G R T8 s2
noncomputable def NY(X:Cx)(tg iter:Expr)(wi:NW):Prop :=
 ∀ (E:mO) (pins:List (Addr×Obj)) (s:az) (σ:L2.St) (H:Hp) (τ:iX) (G:Gp) (R:List D->(Gp->Prop)->Gp->Prop),Lk X E->I2 X pins σ H τ G s->wi E τ G R ->
  wpAny (model X.prog X.w) X.A (eval iter X.env) (fun v s1=>wpAny (model X.prog X.w) X.A (BX v) (Kh X pins σ tg H G R) X.xe s1) X.xe s
section
variable {X:Cx} {tg:Expr} {a b:Expr} {ta tb:gG} {pos p:Pos}
theorem Ll{pins:List (Addr×Obj)}{σ:L2.St}{H H1:Hp}{G G1:Gp}{s1:az}{l:Addr}{vs:List V}{ds:List D}{ok:Gp->Prop}{R:List D->(Gp->Prop)->Gp->Prop}(I1:Inv X pins σ H1 s1)(m:Mv X.K H G H1 G1)(hq:rH X.K H1 l vs)
  (hk:∀ H2 G2,Kp H1 H2->oy X.K H2 G2->ok G2->∃ ws,rH X.K H2 l ws/\bC X.K H2 ws ds) (q:R ds ok G1):wpAny (model X.prog X.w) X.A (BX (.ref l)) (Kh X pins σ tg H G R) X.xe s1:=by
 obtain⟨bM,rv,pl,hz⟩:=I1.list hq;refine vF pl.isList ?_;refine⟨s1.heap.objs.size,[s1.heap.objs.size],_,_,H1,G1,ds,ok,rfl,I1.kept (t':=s1.toks) fun b o e=>aE _ e,m,L4 l _,⟨_,bh _ rfl,rfl,rfl⟩,fun b hb=>?_,fun i H2 G2 k ab o=>?_,q⟩
 ·have e:b=s1.heap.objs.size:=by simpa using hb
  subst e;exact I1.D6 (aF _) (I1.cN.fresh (aF _))
 ·obtain⟨ws,hw,rd⟩:=hk H2 G2 k ab o;refine⟨fun d hd=>?_,fun hl=>⟨ws,hw,by rw [rd.length]; exact hl⟩⟩;obtain⟨v,hv,r⟩:=rd.get hd;refine⟨⟨ws,v,hw,hv⟩,?_⟩;rintro x H3 ⟨e,y⟩;subst e;have:=y ws hw;rw [hv] at this;cases this;exact⟨r,.refl ab⟩
theorem UD{pins:List (Addr×Obj)}{σ:L2.St}{H H1:Hp}{G G1:Gp}{s1:az}{l:Addr}{vs:List V}{ds:List D}{R:List D->(Gp->Prop)->Gp->Prop}(I1:Inv X pins σ H1 s1)(m:Mv X.K H G H1 G1)(hq:A4 X.K H1 l vs)(rd:bC X.K H1 vs ds)
  (q:R ds (fun _=>True) G1):wpAny (model X.prog X.w) X.A (BX (.ref l)) (Kh X pins σ tg H G R) X.xe s1:=by
 obtain⟨bM,rv,pl,hz⟩:=I1.tuple hq;refine wpAny_pyIter_tuple (show s1.heap.IsTuple l bM.toArray from pl) ?_;refine⟨s1.heap.objs.size,[s1.heap.objs.size],_,_,H1,G1,ds,_,rfl,I1.kept (t':=s1.toks) fun b o e=>aE _ e,m,IE l _,⟨_,bh _ rfl,rfl,rfl⟩,fun b hb=>?_,fun i H2 G2 k ab _=>?_,q⟩
 ·have e:b=s1.heap.objs.size:=by simpa using hb
  subst e;exact I1.D6 (aF _) (I1.cN.fresh (aF _))
 ·have hw:=k.sqT hq;have Bt:=rd.mono k;refine⟨fun d hd=>?_,fun hl=>⟨vs,hw,by rw [rd.length]; exact hl⟩⟩;obtain⟨v,hv,r⟩:=Bt.get hd;refine⟨⟨vs,v,hw,hv⟩,?_⟩;rintro x H3 ⟨e,y⟩;subst e;have:=y vs hw;rw [hv] at this;cases this;exact⟨r,.refl ab⟩
theorem eX(ha:gW X a ta):NY X tg a (kR ta):=by
 intro E pins s σ H τ G R hE I h;refine kj ha hE I h fun x H1 d G1 v s1 I1 m1 r1 jG q1=>?_;cases jG with
 | tup hq rs=>cases r1; exact UD I1.inv m1 (.of hq) rs q1
 | ez hq rs=>cases r1; exact Ll I1.inv m1 hq.sq (fun H2 G2 k ab _=>⟨_,(k.UN hq).sq,rs.mono k⟩) q1
 | ref p =>
  cases r1;dsimp only at q1;split at q1
  ·rename_i ds e;obtain⟨vs,hv,rs⟩:=I1.ab.lst e;refine Ll I1.inv m1 (.of hv) (fun H2 G2 k ab o=>?_) q1;obtain⟨ws,hw,v3⟩:=ab.lst o;exact⟨ws,.of hw,v3⟩
  ·exact q1.elim
 | qC _ _=>exact q1.elim
 | qB _ _=>exact q1.elim
 | fh=>exact q1.elim
 | bl _=>exact q1.elim
 | int _=>exact q1.elim
 | str _=>exact q1.elim
 | exc _=>exact q1.elim
theorem UX{pins:List (Addr×Obj)}{σ:L2.St}{H H1:Hp}{G G1:Gp}{s:az}{R:List D->(Gp->Prop)->Gp->Prop}{lo hi:Int}{t u v:Tok}{tk:Nat}(I:Inv X pins σ H1 s)(m:Mv X.K H G H1 G1)(h1:-(2 ^ 62)<=lo)(h2:lo < 2 ^ 62)(h3:-(2 ^ 62)<=hi)(h4:hi < 2 ^ 62)
  (q:R (gH lo (hi - lo).toNat) (fun _=>True) G1):wpAny (model X.prog X.w) X.A (BX (.ref s.heap.objs.size)) (Kh X pins σ tg H G R) X.xe { s with heap:=s.heap.push { cls:=.type "range",data:=.fields #[.int lo t,.int hi u,.int 1 v] },toks:=tk }:=by
 refine iy (OW (tg:=tg) I h1 h2 h3 h4 (R:=fun J H'=>J=Itr lo (hi - lo).toNat/\H'=H1) ⟨rfl,rfl⟩) ?_;rintro T8 s2 ⟨it,fp,tn,J,H',e,qm,T,st,fo,eJ,eH⟩;subst eJ; subst eH;refine⟨it,fp,tn,_,H',G1,_,_,e,qm,m,T,st,fo,fun i H2 G2 k ab _=>⟨fun d hd=>?_,fun hl=>?_⟩,q⟩
 ·unfold gH at hd;rw [bz] at hd;cases DW:(c9 (hi - lo).toNat)[i]? with
  | none=>rw [DW] at hd; cases hd
  | some j =>
   rw [DW] at hd;obtain⟨xK,ej⟩:=List.getElem?_eq_some_iff.mp DW;rw [ka] at xK;rw [rO] at ej;subst ej;cases hd;refine⟨xK,?_⟩;rintro x H3 ⟨e1,e2⟩;subst e1; subst e2;exact⟨.int _,.refl ab⟩
 ·unfold gH at hl;rw [ao,ka] at hl;exact hl
theorem lj (hg:Gl X "range") (hm:X.mg "range" = none) (ha:gW X a ta) (hs:autoParam (bR [a] X.env=[(false,eval a X.env)]) Ar._auto_1):NY X tg (.Call (.Name "range" p) [a] [] pos) (uQ ta):=by
 intro E pins s σ H τ G R hE I h;have hA:Hx X [a] (ay ta aX):=ak ha aI hs;refine Call_ (mG I.inv hg hm boot_range (c8 (zo hA pos hE I (R:=fun ds G1=>match ds with | [.int n]=>-(2 ^ 62)<=n/\n < 2 ^ 62/\R (gH 0 n.toNat) (fun _=>True) G1 | _=>False) ?_ fun vs H1 ds G1 us s1 I1 m1 r1 jG q1=>?_) hs rfl))
 ·show ta E τ G _;have e:(fun (x:D) (G1:Gp)=>match [x] with | [.int n]=>-(2 ^ 62)<=n/\n < 2 ^ 62/\R (gH 0 n.toNat) (fun _=>True) G1 | _=>False)=fun x G1=>match x with | .int n=>-(2 ^ 62)<=n/\n < 2 ^ 62/\R (gH 0 n.toNat) (fun _=>True) G1 | _=>False:=by
   funext x G1; cases x <;> rfl
  exact e ▸ h
 ·split at q1
  ·rename_i n;obtain⟨w,rfl,Dl⟩:=jG.one;cases Dl;obtain⟨u,rfl,ru⟩:=r1.one;obtain⟨t,rfl⟩:=ru;obtain⟨q1,q2,q⟩:=q1;exact call_range_1 (UX I1.inv m1 (by lia) (by lia) q1 q2 (by simpa using q))
  ·exact q1.elim
theorem ck{iter:Expr}{body:List Stmt}{wi:NW}{g:BQ}{t:ie}(hp:PassesOwn (model X.prog X.w) X.A X.env X.xe)(hc:X.calm=true)(hi:NY X tg iter wi)(hg:N0 X tg g)(hb:A5 X body t)
  (hs:autoParam (∀ x,pq iter X.env x=pure x) Ai._auto_1):Kg X (.For tg iter body [] pos) (cO wi g t):=by
 intro E pins s σ H τ G D hE I h;refine wpAny_For (iy (hi E pins s σ H τ G _ hE I h) fun v s1 h1=>iy h1 fun T8 s2 h2=>?_) hs;obtain⟨it,fp,tn,J,H2,G2,ds,ok,e,qm,m2,T,Rq,f2,wk,q⟩:=h2;subst e;have UM:∀ {H':Hp},(∀ b∈fp,H' b=none)->∀ b∈fp,oI X pins H' b:=fun hn b hb=>⟨hn b hb,(f2 b hb).2⟩;refine codeAny_forLoop_any (fun n s'=>∃ i kb H' rQ G',I2 X pins kb H' rQ G' s'/\Mv X.K H G H' G'/\Kp H2 H'/\tn i s'.heap/\(∀ b∈fp,H' b=none)/\n=ds.length - i/\i<=ds.length/\uR g t ok (ds.drop i) E D rQ G') ?_ ds.length
  ⟨0,σ,H2,τ,G2,I.mv qm m2,m2,.refl _,Rq,fun b hb=>(f2 b hb).1,rfl,cq _,q⟩
 rintro n s3 ⟨i,RQ,H3,Ut,G3,I3,m3,k3,YD,fr3,rfl,hle,w3⟩;by_cases xK:i < ds.length
 ·rw [iu xK] at w3;obtain⟨Wf,w3⟩:=w3;obtain⟨go,yl⟩:=(wk i H3 G3 k3 I3.ab Wf).1 ds[i] (by simp [xK]);refine km hp (iy (T.item X rfl rfl rfl hc i pins s3 RQ H3 X.xe I3.inv (UM fr3) YD go) ?_);rintro r s4 ⟨u,hr,h4⟩;subst hr;refine km hp (iy h4 ?_);rintro _ s5 ⟨x,H5,I5,r5,y5,ZR,fr5⟩;obtain⟨rd5,m5⟩:=yl x H5 y5;have I5':=I5.pinned (UM fr5) (T.obj _ _ ZR);have J5:I2 X (pins++sU fp s5.heap) RQ H5 Ut G3 s5:=⟨I5',I3.st.mono (m5.kp I3.ab),m5.ab⟩;refine km hp (iy (hg E _ s5 RQ H5 Ut G3 x ds[i] u _ hE J5 r5 rd5 w3) ?_);rintro _ s6 ⟨σ6,H6,τ6,G6,I6,m6,q6⟩;refine km hp (iy (hb E _ s6 σ6 H6 τ6 G6 _ hE I6 q6) fun f s7 q7=>?_);have again:∀ {NL:L2.St} {H7:Hp} {NK:iX} {G7:Gp},I2 X (pins++sU fp s5.heap) NL H7 NK G7 s7->Mv X.K H6 G6 H7 G7->uR g t ok (ds.drop (i+1)) E D NK G7 ->
    ∃ m,m < ds.length - i/\∃ i kb H' rQ G',I2 X pins kb H' rQ G' s7/\Mv X.K H G H' G'/\Kp H2 H'/\tn i s7.heap/\(∀ b∈fp,H' b=none)/\m=ds.length - i/\i<=ds.length/\uR g t ok (ds.drop i) E D rQ G':=fun {NL H7 NK G7} I7 m7 n7=>by
   have mm:=m5.trans (m6.trans m7);refine⟨ds.length - (i+1),by lia,i+1,NL,H7,NK,G7,⟨I7.inv.vM,I7.st,I7.ab⟩,m3.trans mm,k3.trans (mm.kp I3.ab),T.keep _ _ _ ZR fun b hb o e=>(I7.inv.pin (b,o) (cC _ (cC _ (qK hb e)))).1,fun b hb=>?_,rfl,xK,n7⟩;obtain⟨o,e,d⟩:=T.obj _ _ ZR b hb;exact(I7.inv.pin (b,o) (cC _ (cC _ (qK hb e)))).2.1
  cases f with
  | next=>obtain⟨NL,H7,NK,G7,I7,m7,n7⟩:=q7; exact again I7 m7 n7
  | cont=>obtain⟨NL,H7,NK,G7,I7,m7,n7⟩:=q7; exact again I7 m7 n7
  | brk=>obtain⟨NL,H7,NK,G7,I7,m7,q7⟩:=q7; exact⟨NL,H7,NK,G7,⟨I7.inv.vM,I7.st,I7.ab⟩,m3.trans (m5.trans (m6.trans m7)),q7⟩
  | ret v=>obtain⟨x7,NL,H7,d7,G7,I7,m7,r7,rd7,q7⟩:=q7; exact⟨x7,NL,H7,d7,G7,I7.vM,m3.trans (m5.trans (m6.trans m7)),r7,rd7,q7⟩
 ·have hn:ds.length<=i:=by lia
  rw [mR hn] at w3;obtain⟨Wf,qn⟩:=w3;have stop:=(wk i H3 G3 k3 I3.ab Wf).2 hn;refine km hp (iy (T.done X rfl rfl rfl hc i pins s3 RQ H3 X.xe I3.inv (UM fr3) YD stop) ?_);rintro r s4 ⟨hr,I4⟩;subst hr;exact za ⟨RQ,H3,Ut,G3,⟨I4,I3.st,I3.ab⟩,m3,qn⟩
theorem Mp{c:Expr}{body:List Stmt}{tc:yv}{t:ie}(hp:PassesOwn (model X.prog X.w) X.A X.env X.xe)(hc:NX X c tc)(hb:A5 X body t):Kg X (.While c body [] pos) (J3 tc t):=by
 intro E pins s σ H τ G D hE I h;obtain⟨n0,w0⟩:=h;refine wpAny_While (codeAny_whileLoop (fun n s'=>∃ kb H' rQ G',I2 X pins kb H' rQ G' s'/\Mv X.K H G H' G'/\Fb tc t n E D rQ G') ?_ n0 ⟨σ,H,τ,G,I,.refl I.ab,w0⟩);rintro n s1 ⟨Yz,H1,qv,G1,I1,m1,w1⟩;cases n with
 | zero=>exact w1.elim
 | succ n =>
  refine km hp (OD hc hE I1 w1 fun b H2 G2 s2 qm m2 q2=>?_);cases b with
  | true =>
   rw [if_pos rfl] at q2 ⊢;refine km hp (iy (hb E pins s2 Yz H2 qv G2 _ hE qm q2) fun f s3 q3=>?_);cases f with
   | next=>obtain⟨RQ,H3,Ut,G3,I3,m3,n3⟩:=q3; exact⟨n,kT _,RQ,H3,Ut,G3,I3,m1.trans (m2.trans m3),n3⟩
   | cont=>obtain⟨RQ,H3,Ut,G3,I3,m3,n3⟩:=q3; exact⟨n,kT _,RQ,H3,Ut,G3,I3,m1.trans (m2.trans m3),n3⟩
   | brk=>exact q3.trans (m1.trans m2)
   | ret v=>exact q3.trans (m1.trans m2)
  | false =>
   rw [if_neg rP] at q2 ⊢;exact za ⟨Yz,H2,qv,G2,qm,m1.trans m2,q2⟩
end
end K2
end
section
namespace K2
open PySem PySem.Spec PyProof.Rows L2
theorem Dk(n d:Nat)(o:Option Int):HT.jZ n d o=jZ n d o:=by cases o <;> rfl
theorem bC.cut{K:aq}{H:Hp}{vs:List V}{ds:List D}(r:bC K H vs ds)(lo hi:Option Int):bC K H (Ho vs lo hi) (K2.cut ds lo hi):=by
 unfold Ho K2.cut;rw [Dk,Dk,r.length];exact(r.drop _).take _
theorem bC.vC{K:aq}{H:Hp}{vs:List V}{ds:List D}{i:Int}{d:D}(r:bC K H vs ds)(h:K2.vC ds i=some d):∃ v,L2.vC vs i=some v/\cK K H v d:=by
 unfold K2.vC at h;cases e:K2.Ju ds.length i with
 | none=>rw [e] at h; cases h
 | some j =>
  rw [e] at h;obtain⟨v,h1,h2⟩:=r.get (show ds[j]?=some d from h);refine⟨v,?_,h2⟩;show (L2.Ju vs.length i).bind _=_;have e':L2.Ju vs.length i=some j:=by rw [r.length]; exact e
  rw [e'];exact h1
section
variable {X:Cx} {a b c e:Expr} {ta tb tc te:gG} {pos p2:Pos}
theorem je{pins:List (Addr×Obj)}{s:az}{σ:L2.St}{H:Hp}{G:Gp}{x:V}{d:D}{v:Value}{zs:List D}(I:Inv X pins σ H s)(ab:oy X.K H G)(rx:RelV x v)(rd:cK X.K H x d)(hi:ma d G=some zs) :
  ∃ l vs bM,v=.ref l/\Vals vs bM/\bC X.K H vs zs/\s.heap.IsList l bM.toArray/\vs.length<=bu:=by
 cases rd with
 | ez hq rs =>
  cases hi;cases rx;obtain⟨bM,rv,pl,hz⟩:=I.list hq.sq;exact⟨_,_,bM,rfl,rv,rs,pl.isList,hz⟩
 | ref l =>
  unfold ma at hi;dsimp only at hi;cases hg:G l with
  | none=>rw [hg] at hi; cases hi
  | some gg =>
   rw [hg] at hi;cases gg with
   | lst ds =>
    cases hi;cases rx;obtain⟨vs,hv,rs⟩:=ab.lst hg;obtain⟨bM,rv,pl,hz⟩:=I.list (.of hv);exact⟨_,_,bM,rfl,rv,rs,pl.isList,hz⟩
   | dI _=>cases hi
 | _=>cases hi
theorem xJ{pins:List (Addr×Obj)}{s:az}{σ:L2.St}{H:Hp}(I:Inv X pins σ H s){m:Str->Option Value}(F0:Fr X.base X.env.locals s.heap m){h':Heap}(F:Fr X.base X.env.locals h' m)(N:News X.base X.env.locals h' (ur X.base s.heap X.env.locals)) :
  (∀ b o,b≠X.env.locals->s.heap.get? b=some o->h'.get? b=some o)/\∀ m',s.heap.Ns X.env.locals m'->h'.Ns X.env.locals m':=by
 refine⟨fun b o hb e=>?_,fun m' hm=>?_⟩
 ·cases q:X.base.get? b with
  | some u =>
   have:=I.bk b u q;rw [e] at this; cases this;exact F.keep b _ q
  | none=>exact(N (b,o) (yk hb q e)).1
 ·have e1:=hm.eq_nsMap;have e2:=F0.ns.eq_nsMap;rw [e1,<-e2]; exact F.ns
theorem lu{P:bG}{w:World}{H:Hp}{h:Heap}{a:Addr}:∀ {o:HO},ig P w H h a o->∃ ob,h.get? a=some ob:=by
 intro o x;cases o with
 | lst _=>obtain⟨_,_,_,_,e⟩:=x; exact⟨_,e⟩
 | tup _=>obtain⟨_,_,_,ob,e,_⟩:=x; exact⟨ob,e⟩
 | dK _=>obtain⟨_,_,_,_,ob,_,_,e,_⟩:=x; exact⟨ob,e⟩
 | dT _=>obtain⟨_,_,_,_,ob,_,_,e,_⟩:=x; exact⟨ob,e⟩
 | set _ _=>obtain⟨ob,_,_,_,e,_⟩:=x; exact⟨ob,e⟩
 | ins _ _ _=>obtain⟨_,_,_,e,_⟩:=x; exact⟨_,e⟩
 | own _=>exact x
 | xd _=>obtain⟨_,⟨ob,_,_,e,_⟩,_⟩:=x; exact⟨ob,e⟩
 | met _ _=>exact⟨_,x⟩
 | WU _ _=>obtain⟨_,_,_,e⟩:=x; exact⟨_,e⟩
 | mC _ _=>exact⟨_,x.1⟩
 | TL _=>exact⟨_,x⟩
 | ext _=>exact x.2.1
theorem Lz{P:bG}{w:World}{H:Hp}{h:Heap}{a:Addr}(ok:vD P w H h)(e:h.get? a=none):H a=none:=by
 cases q:H a with
 | none=>rfl
 | some o =>
  obtain⟨ob,z⟩:=lu (ok a o q);rw [e] at z; cases z
theorem Inv.T7{pins:List (Addr×Obj)}{s:az}{σ:L2.St}{H:Hp}(I:Inv X pins σ H s){h':Heap}{t':Nat}{a:Addr}{o:HO}(k:∀ b o,b≠X.env.locals->s.heap.get? b=some o->h'.get? b=some o)(ns:∀ m',s.heap.Ns X.env.locals m'->h'.Ns X.env.locals m')
  (hp:s.heap.get? a=none) (new:ig X.prog X.w (upd H a o) h' a o):Inv X pins σ (upd H a o) { s with heap:=h',toks:=t' }:=by
 have hn:H a=none:=Lz I.cN hp;have ne:∀ b u,H b=some u->b≠a:=fun b u e=>fj e hn;have nL:∀ b u,H b=some u->b≠X.env.locals:=fun b u e=>fj e I.free;have ht:∀ b u,s.heap.get? b=some u->b≠a:=fun b u e z=>by subst z; rw [hp] at e; cases e
 have thL:∃ o',h'.get? X.env.locals=some o':=by
  obtain⟨m,hm,_⟩:=I.loc;obtain⟨o',_,_,ho,_⟩:=ns m hm;exact⟨o',ho⟩
 refine I.step (g':=s.gens) (d':=s.drawn) (ch:=[]) (fun b hb=>absurd hb (by simp)) (fun b o hL _ _ e _=>k b o hL e) (fun b o hL _ _ e _=>⟨o.slots,k b o hL e⟩) (fun b o _ e n=>by rw [bK (ht b o e)]; exact n)
  (fun b o _ e=>?_) (fun b xs e=>by rw [bK (ne _ _ e)]; exact e) (fun b o u e=>by rw [bK (ne _ _ e)]; exact e) (fun b ps e=>⟨#[],by rw [bK (ne _ _ e),e]; simp⟩) ns (fun b u e=>?_) I.bare
 ·by_cases hb:b=X.env.locals
  ·rw [hb]; exact thL
  ·exact⟨o,k b o hb e⟩
 ·by_cases hb:b=a
  ·subst hb; rw [bX] at e; cases e; exact new
  ·rw [bK hb] at e;refine(I.cN b u e).mF (fun c v hc r=>k c v ?_ r) (fun c z=>by rw [bK (ne _ _ z)]; exact z) (fun c xs z=>by rw [bK (ne _ _ z)]; exact z);rcases hc with rfl | hc
   ·exact nL _ _ e
   ·exact nL _ _ hc
theorem eM:rT X (kP .Add) iH:=by
 intro pins s σ H G x y dx dy v u Q I ab rx ry dX dY q;have lists:Ke dx dy G Q->wpAny (model X.prog X.w) X.A (kP .Add v u) (tH X pins σ H G Q) X.xe s:=by
  intro q;unfold Ke at q;split at q
  ·rename_i xs ys e1 e2;obtain⟨hz,q⟩:=q;obtain⟨l,vs,bM,rfl,rv,rs,hl,_⟩:=je I ab rx dX e1;obtain⟨b,ws,mY,rfl,HY,B9,hb,_⟩:=je I ab ry dY e2;obtain⟨m,F0⟩:=I.fr;have hsz:bM.length+mY.length<=bu:=by rw [<-rv.length,<-HY.length,rs.length,B9.length,cH]; exact hz
   refine PyProof.Rows.add_lists F0 Ga hl hb (fun h' F N=>?_) hsz;obtain⟨kk,ns⟩:=xJ I F0 F fun p hp=>N p (aK _ hp);have hp:H s.heap.objs.size=none:=I.cN.fresh (aF _);refine⟨.ref s.heap.objs.size,upd H s.heap.objs.size (.lst (vs++ws)),.ref _,_,Inv.T7 (t':=s.toks) I kk ns (RO (aF _)) ?_,.Jk ab hp (rs.append B9),rfl,.ref _,q _ (ab.free hp)⟩;exact⟨by rw [ar,rv.length,HY.length]; exact hsz,bM++mY,0,rv.append HY,(N _ bJ).1⟩
  ·exact q.elim
 cases dX with
 | int i =>
  cases dY with
  | int j=>exact iy (Vb pins s σ H _ _ v u (EX X.K H G Q) I rx ry ⟨i,j,rfl,rfl,_,_,.refl ab,.int _,q⟩) fun _ _ z=>.of z
  | _=>exact lists q
 | str i =>
  cases dY with
  | str j =>
   obtain⟨hz,q⟩:=q;exact iy (Jb pins s σ H _ _ v u (EX X.K H G Q) I rx ry ⟨i,j,rfl,rfl,by rw [cH]; exact hz,_,_,.refl ab,.str _,q⟩) fun _ _ z=>.of z
  | _=>exact lists q
 | tup h1 r1 =>
  cases dY with
  | tup h2 r2 =>
   obtain⟨hn,hz,q⟩:=q;refine iy (Ss pins s σ H _ _ v u (EX X.K H G Q) I rx ry ⟨_,_,_,_,rfl,rfl,.of h1,.of h2,?_,?_,fun e=>?_,fun e p hp=>?_⟩) fun _ _ z=>.of z
   ·rintro rfl; cases r1; exact hn rfl
   ·rw [r1.length,r2.length,cH]; exact hz
   ·subst e;cases r2;rw [cX] at q;exact⟨_,_,.refl ab,.tup h1 r1,q⟩
   ·exact⟨_,_,.P8 ab hp,.tup bX ((r1.append r2).mono (.new hp)),q⟩
  | _=>exact lists q
 | ref l=>exact lists (by rw [nR] at q; exact q)
 | ez _ _=>exact lists (by rw [l6] at q; exact q)
 | _=>exact lists (by cases dY <;> exact q)
theorem yP:rT X (kP .Sub) IT:=by
 intro pins s σ H G x y dx dy v u Q I ab rx ry dX dY q;cases dX with
 | int i =>
  cases dY with
  | int j=>exact iy (U7 pins s σ H _ _ v u (EX X.K H G Q) I rx ry ⟨i,j,rfl,rfl,_,_,.refl ab,.int _,q⟩) fun _ _ z=>.of z
  | _=>exact bY q
 | _=>exact bY q
theorem tX:rT X (kP .Mult) zO:=by
 intro pins s σ H G x y dx dy v u Q I ab rx ry dX dY q;cases dX with
 | int i =>
  cases dY with
  | int j=>exact iy (U8 pins s σ H _ _ v u (EX X.K H G Q) I rx ry ⟨i,j,rfl,rfl,q.1,_,_,.refl ab,.int _,q.2⟩) fun _ _ z=>.of z
  | _=>exact bY q
 | _=>exact bY q
theorem qG:rT X (kP .Mod) zP:=by
 intro pins s σ H G x y dx dy v u Q I ab rx ry dX dY q;cases dX with
 | int i =>
  cases dY with
  | int j=>exact iy (U9 pins s σ H _ _ v u (EX X.K H G Q) I rx ry ⟨i,j,rfl,rfl,q.1,_,_,.refl ab,.int _,q.2⟩) fun _ _ z=>.of z
  | _=>exact bY q
 | _=>exact bY q
theorem Vc(hu:X.A.units < cLine):rT X (fx .Lt) Z2:=by
 intro pins s σ H G x y dx dy v u Q I ab rx ry dX dY q;cases dX with
 | int i =>
  cases dY with
  | int j=>exact iy (W4 pins s σ H _ _ v u (EX X.K H G Q) I rx ry ⟨i,j,rfl,rfl,_,_,.refl ab,.bl _,q⟩) fun _ _ z=>.of z
  | _=>exact bY q
 | tup h1 r1 =>
  cases dY with
  | tup h2 r2 =>
   obtain⟨xs,ys,e1,e2,q⟩:=q;subst e1 e2;have z1:=r1.ints;have z2:=r2.ints;subst z1 z2;have el:∀ xs ys:List Int,HT.lexLt xs ys=K2.lexLt xs ys:=by
    intro xs;induction xs with
    | nil=>intro ys; cases ys <;> rfl
    | cons x xs ih=>intro ys; cases ys with
     | nil=>rfl
     | cons y ys=>unfold HT.lexLt K2.lexLt; rw [ih]
   exact iy (Va hu pins s σ H _ _ v u (EX X.K H G Q) I rx ry ⟨_,_,xs,ys,rfl,rfl,.of h1,.of h2,_,_,.refl ab,.bl _,by rw [el]; exact q⟩) fun _ _ z=>.of z
  | _=>exact bY q
 | _=>exact bY q
mutual
noncomputable def pd:D->PyData
 | .fh=>.none
 | .bl b=>.bool b
 | .int i=>.int i
 | .str x=>.str x
 | .tup ds=>.tuple (oE ds)
 | .ez ds=>.list (oE ds)
 | .gZ _=>.none
 | .exc _=>.none
 | .ref _=>.none
noncomputable def oE:List D->List PyData
 | []=>[]
 | d :: r=>pd d :: oE r
end
mutual
theorem xO:∀ (s t:D),nr s=true->nr t=true->Bg (pd s) (pd t)=i5 s t
 | .fh,t,_,ht=>by cases t <;> first | rfl | (exact bI (show false=true from ht))
 | .bl a,t,_,ht=>by cases t <;> first | rfl | (exact bI (show false=true from ht))
 | .int a,t,_,ht=>by cases t <;> first | rfl | (exact bI (show false=true from ht))
 | .str a,t,_,ht=>by cases t <;> first | rfl | (exact bI (show false=true from ht))
 | .tup a,t,hs,ht=>by
  cases t with
  | tup b=>exact Eh a b hs ht
  | ref _=>exact bI (show false=true from ht)
  | exc _=>exact bI (show false=true from ht)
  | gZ _=>exact bI (show false=true from ht)
  | _=>rfl
 | .ez a,t,hs,ht=>by
  cases t with
  | ez b=>exact Eh a b hs ht
  | ref _=>exact bI (show false=true from ht)
  | exc _=>exact bI (show false=true from ht)
  | gZ _=>exact bI (show false=true from ht)
  | _=>rfl
 | .ref _,_,hs,_=>bI (show false=true from hs)
 | .exc _,_,hs,_=>bI (show false=true from hs)
 | .gZ _,_,hs,_=>bI (show false=true from hs)
theorem Eh:∀ (s t:List D),sV s=true->sV t=true->PyData.eqvAll (oE s) (oE t)=me s t
 | [],[],_,_=>rfl
 | [],_ :: _,_,_=>rfl
 | _ :: _,[],_,_=>rfl
 | a :: r,b :: t,hs,ht=>by
  have Wn:nr a=true/\sV r=true:=(pD).mp hs;have SR:nr b=true/\sV t=true:=(pD).mp ht;show (Bg (pd a) (pd b)&&PyData.eqvAll (oE r) (oE t))=(i5 a b&&me r t);rw [xO a b Wn.1 SR.1,Eh r t Wn.2 SR.2]
end
mutual
theorem ly:∀ (s:D),nr s=true->(pd s).canLay0=true
 | .fh,_=>rfl
 | .bl a,_=>rfl
 | .int a,_=>rfl
 | .str a,h=>h
 | .tup a,h=>yS a h
 | .ez a,h=>yS a h
 | .exc _,_=>rfl
 | .ref _,_=>rfl
 | .gZ _,_=>rfl
theorem yS:∀ (s:List D),sV s=true->PyData.canLayAll0 (oE s)=true
 | [],_=>rfl
 | a :: r,h=>by
  have h':nr a=true/\sV r=true:=(pD).mp h;show ((pd a).canLay0&&PyData.canLayAll0 (oE r))=true;rw [ly a h'.1,yS r h'.2]; rfl
end
theorem El{G:Gp}{n:Nat}{d t:D}(h:Sn G n d t):(pd t).depth<=n:=by
 induction h with
 | fh=>exact cq _
 | bl b=>exact cq _
 | int i=>exact cq _
 | str x h=>exact cq _
 | IH=>exact pA (cq _)
 | sx _ _ PV PU =>
  exact pA (Nat.max_le.mpr ⟨PV,vJ PU⟩)
 | IS=>exact pA (cq _)
 | Cc _ _ PV PU =>
  exact pA (Nat.max_le.mpr ⟨PV,vJ PU⟩)
 | ref _ _ ih=>exact ih
theorem k8{pins:List (Addr×Obj)}{σ:L2.St}{H:Hp}{s:az}{G:Gp}(I:Inv X pins σ H s)(ab:oy X.K H G){n:Nat}{d t:D}(h:Sn G n d t) :
  (∀ v u,cK X.K H v d->RelV v u->∃ as,Reads s.heap u (pd t) as) /\
  (∀ ds ss,(d=.ez ds/\t=.ez ss)\/(d=.tup ds/\t=.tup ss)->∀ vs us,bC X.K H vs ds->Vals vs us->∃ as,iG s.heap us (oE ss) as):=by
 have TJ:∀ {ds ss:List D},(∀ vs us,bC X.K H vs ds->Vals vs us->∃ as,iG s.heap us (oE ss) as)->∀ v u,cK X.K H v (.tup ds)->RelV v u->∃ as,Reads s.heap u (pd (.tup ss)) as:=by
  intro ds ss k v u r ru;cases r with
  | tup hq rs =>
   cases ru;obtain⟨bM,rv,⟨o,ho,hc,n,hd⟩,hz⟩:=I.tuple (.of hq);obtain⟨as,ra⟩:=k _ bM rs rv;exact⟨as,.tuple ho hc hd (by simpa using ra)⟩
 have TQ:∀ {ds ss:List D},(∀ vs us,bC X.K H vs ds->Vals vs us->∃ as,iG s.heap us (oE ss) as)->∀ v u,cK X.K H v (.ez ds)->RelV v u->∃ as,Reads s.heap u (pd (.ez ss)) as:=by
  intro ds ss k v u r ru;cases r with
  | ez hq rs =>
   cases ru;obtain⟨bM,rv,pl,hz⟩:=I.list hq.sq;obtain⟨o,ho,hc,n,hd⟩:=pl.isList;obtain⟨as,ra⟩:=k _ bM rs rv;exact⟨_,.list ho hc hd (by simpa using ra)⟩
 induction h with
 | fh=>exact⟨fun v u r ru=>by cases r; cases ru; exact⟨_,.none⟩,fun ds ss e=>by rcases e with ⟨e,_⟩ | ⟨e,_⟩ <;> cases e⟩
 | bl b=>exact⟨fun v u r ru=>by cases r; cases ru; exact⟨_,.bool b⟩,fun ds ss e=>by rcases e with ⟨e,_⟩ | ⟨e,_⟩ <;> cases e⟩
 | int i=>exact⟨fun v u r ru=>by cases r; obtain⟨t,rfl⟩:=ru; exact⟨_,.int i t⟩,fun ds ss e=>by rcases e with ⟨e,_⟩ | ⟨e,_⟩ <;> cases e⟩
 | str x hx=>exact⟨fun v u r ru=>by cases r; obtain⟨t,rfl⟩:=ru; exact⟨_,.str x t⟩,fun ds ss e=>by rcases e with ⟨e,_⟩ | ⟨e,_⟩ <;> cases e⟩
 | IH =>
  have k:∀ vs us,bC X.K H vs []->Vals vs us->∃ as,iG s.heap us (oE []) as:=fun vs us r ru=>by
   have e:=r.zero;subst e;cases ru;exact⟨_,.nil⟩
  refine⟨TJ k,fun ds ss e=>?_⟩;rcases e with ⟨e,_⟩ | ⟨e,e2⟩
  ·cases e
  ·cases e; cases e2; exact k
 | sx h1 h2 PV PU =>
  have k2:=PU.2 _ _ (.inr ⟨rfl,rfl⟩);have k:∀ vs us,bC X.K H vs (_ :: _)->Vals vs us->∃ as,iG s.heap us (oE (_ :: _)) as:=fun vs us r ru=>by
   cases r with
   | cons r1 r2 =>
    cases ru with
    | cons u1 u2 =>
     obtain⟨as,ra⟩:=PV.1 _ _ r1 u1;obtain⟨bs,rb⟩:=k2 _ _ r2 u2;exact⟨_,.cons ra rb⟩
  refine⟨TJ k,fun ds ss e=>?_⟩;rcases e with ⟨e,_⟩ | ⟨e,e2⟩
  ·cases e
  ·cases e; cases e2; exact k
 | IS =>
  have k:∀ vs us,bC X.K H vs []->Vals vs us->∃ as,iG s.heap us (oE []) as:=fun vs us r ru=>by
   have e:=r.zero;subst e;cases ru;exact⟨_,.nil⟩
  refine⟨TQ k,fun ds ss e=>?_⟩;rcases e with ⟨e,e2⟩ | ⟨e,_⟩
  ·cases e; cases e2; exact k
  ·cases e
 | Cc h1 h2 PV PU =>
  have k2:=PU.2 _ _ (.inl ⟨rfl,rfl⟩);have k:∀ vs us,bC X.K H vs (_ :: _)->Vals vs us->∃ as,iG s.heap us (oE (_ :: _)) as:=fun vs us r ru=>by
   cases r with
   | cons r1 r2 =>
    cases ru with
    | cons u1 u2 =>
     obtain⟨as,ra⟩:=PV.1 _ _ r1 u1;obtain⟨bs,rb⟩:=k2 _ _ r2 u2;exact⟨_,.cons ra rb⟩
  refine⟨TQ k,fun ds ss e=>?_⟩;rcases e with ⟨e,e2⟩ | ⟨e,_⟩
  ·cases e; cases e2; exact k
  ·cases e
 | ref hg h1 ih =>
  refine⟨fun v u r ru=>?_,fun ds ss e=>by rcases e with ⟨e,_⟩ | ⟨e,_⟩ <;> cases e⟩;cases r;cases ru;obtain⟨vs,hv,rs⟩:=ab.lst hg;obtain⟨bM,rv,pl,hz⟩:=I.list (.of hv);obtain⟨o,ho,hc,n,hd⟩:=pl.isList;obtain⟨as,ra⟩:=ih.2 _ _ (.inl ⟨rfl,rfl⟩) vs bM rs rv;exact⟨_,.list ho hc hd (by simpa using ra)⟩
theorem nW(hu:X.A.units+64 < cLine):rT X (fx .Eq) (FI false):=by
 intro pins s σ H G x y dx dy v u Q I ab rx ry dX dY q;obtain⟨a,b,sa,sb,q⟩:=q;obtain⟨as,ra⟩:=(k8 I ab sa).1 x v dX rx;obtain⟨bs,rb⟩:=(k8 I ab sb).1 y u dY ry;have d1:=El sa;refine SeqAt.compareEq_reads ra rb (ly _ sa.nr) (ly _ sb.nr) (by unfold SN at d1; lia) ?_;rw [xO _ _ sa.nr sb.nr];exact⟨.bl _,H,.bl _,G,I,.refl ab,rfl,.bl _,q⟩
theorem Jc(hu:X.A.units+64 < cLine):rT X (fx .NotEq) (FI true):=by
 intro pins s σ H G x y dx dy v u Q I ab rx ry dX dY q;obtain⟨a,b,sa,sb,q⟩:=q;obtain⟨as,ra⟩:=(k8 I ab sa).1 x v dX rx;obtain⟨bs,rb⟩:=(k8 I ab sb).1 y u dY ry;have d1:=El sa;refine SeqAt.compareNe_reads ra rb (ly _ sa.nr) (ly _ sb.nr) (by unfold SN at d1; lia) ?_;rw [xO _ _ sa.nr sb.nr];exact⟨.bl _,H,.bl _,G,I,.refl ab,rfl,.bl _,q⟩
end
end K2
end
section
namespace K2
open PySem PySem.Spec PyProof.Rows L2
theorem ud(j k:Key):i5 (eZ j) (eZ k)=decide (j=k):=by
 cases j with
 | inl a=>cases k with
  | inl b=>rw [PL]; rfl
  | inr b=>exact(decide_eq_false (fun z=>nomatch z)).symm
 | inr a=>cases k with
  | inl b=>exact(decide_eq_false (fun z=>nomatch z)).symm
  | inr b=>rw [PK]; exact(Ro a b)
theorem CF:∀ (js ks:List Key),me (js.map eZ) (ks.map eZ)=decide (js=ks)
 | [],[]=>(decide_eq_true rfl).symm
 | [],_ :: _=>(decide_eq_false (fun z=>nomatch z)).symm
 | _ :: _,[]=>(decide_eq_false (fun z=>nomatch z)).symm
 | j :: js,k :: ks=>by
  show (i5 (eZ j) (eZ k)&&me (js.map eZ) (ks.map eZ))=_;rw [ud,CF js ks,Hd]
theorem tu(js ks:List Key):i5 (.tup (js.map eZ)) (.tup (ks.map eZ))=decide (js=ks):=by
 exact CF js ks
section
variable {K:aq} {H:Hp}
theorem qP{d:D}(h:dU d=true):∃ k:Key,d=eZ k:=by
 cases d with
 | int i=>exact⟨.inl i,rfl⟩
 | str x=>exact⟨.inr x,rfl⟩
 | _=>exact absurd h (by simp [dU])
theorem Ln:∀ {ds:List D},ds.all dU=true->∃ ks:List Key,ds=ks.map eZ
 | [],_=>⟨[],rfl⟩
 | d :: r,h=>by
  rw [pT,aM] at h;obtain⟨k,rfl⟩:=qP h.1;obtain⟨ks,rfl⟩:=Ln h.2;exact⟨k :: ks,rfl⟩
theorem DO{d:D}(h:mH d=true):∃ ks:List Key,d=.tup (ks.map eZ):=by
 cases d with
 | tup ds=>obtain⟨ks,rfl⟩:=Ln (ds:=ds) h; exact⟨ks,rfl⟩
 | _=>exact absurd h (by simp [mH])
theorem qD{v:V}{k:Key}(r:cK K H v (eZ k)):v=kV k:=by
 cases k with
 | inl i=>cases r; rfl
 | inr x=>cases r; rfl
theorem Fv:∀ {vs:List V} {ks:List Key},bC K H vs (ks.map eZ)->vs=ks.map kV
 | _,[],r=>r.zero
 | _,k :: ks,r=>by
  rw [av] at r;cases r with
  | cons r1 r2=>rw [qD r1,Fv r2]; rfl
theorem zG{v:V}{ks:List Key}(r:cK K H v (.tup (ks.map eZ))):∃ b,v=.ref b/\H b=some (.tup (ks.map kV)):=by
 cases r with
 | tup h rs=>have e:=Fv rs; subst e; exact⟨_,rfl,h⟩
theorem mD.look{kv:List (Key×V)}{kvs:List (D×D)}(r:mD K H kv kvs)(k:Key):(∃ v d,mT kv k=some v/\K2.look kvs (eZ k)=some d/\cK K H v d)\/(mT kv k=none/\K2.look kvs (eZ k)=none):=by
 induction r using mD.ind with
 | nil=>exact .inr ⟨rfl,rfl⟩
 | @cons j v d r t rd rs ih =>
  by_cases e:j=k
  ·left;refine⟨v,d,sr (p:=(j,v)) e,?_,rd⟩;unfold K2.look;rw [Oh (by show i5 (eZ j) (eZ k)=true; rw [ud]; exact decide_eq_true e)]; rfl
  ·have e1:mT ((j,v) :: r) k=mT r k:=su (p:=(j,v)) e;have e2:K2.look ((eZ j,d) :: t) (eZ k)=K2.look t (eZ k):=by
    unfold K2.look;rw [Oi (by show ¬ i5 (eZ j) (eZ k)=true; rw [ud]; simpa using e)]
   rw [e1,e2];exact ih
theorem oJ.look{kv:List (List Key×V)}{kvs:List (D×D)}(r:oJ K H kv kvs)(k:List Key):(∃ v d,mT kv k=some v/\K2.look kvs (.tup (k.map eZ))=some d/\cK K H v d)\/(mT kv k=none/\K2.look kvs (.tup (k.map eZ))=none):=by
 induction r using oJ.ind with
 | nil=>exact .inr ⟨rfl,rfl⟩
 | @cons j v d r t rd rs ih =>
  by_cases e:j=k
  ·left;refine⟨v,d,sr (p:=(j,v)) e,?_,rd⟩;unfold K2.look;rw [Oh (by show i5 (.tup (j.map eZ)) (.tup (k.map eZ))=true; rw [tu]; exact decide_eq_true e)]; rfl
  ·have e1:mT ((j,v) :: r) k=mT r k:=su (p:=(j,v)) e;have e2:K2.look ((.tup (j.map eZ),d) :: t) (.tup (k.map eZ))=K2.look t (.tup (k.map eZ)):=by
    unfold K2.look;rw [Oi (by show ¬ i5 (.tup (j.map eZ)) (.tup (k.map eZ))=true; rw [tu]; simpa using e)]
   rw [e1,e2];exact ih
theorem mD.any{kv:List (Key×V)}{kvs:List (D×D)}(r:mD K H kv kvs)(k:Key):(kv.any fun p=>decide (p.1=k))=kvs.any fun p=>i5 p.1 (eZ k):=by
 induction r using mD.ind with
 | nil=>rfl
 | @cons j v d r t rd rs ih=>simp only [pR]; rw [ih,ud]
theorem oJ.any{kv:List (List Key×V)}{kvs:List (D×D)}(r:oJ K H kv kvs)(k:List Key):(kv.any fun p=>decide (p.1=k))=kvs.any fun p=>i5 p.1 (.tup (k.map eZ)):=by
 induction r using oJ.ind with
 | nil=>rfl
 | @cons j v d r t rd rs ih=>simp only [pR]; rw [ih,tu]
theorem mD.put{kv:List (Key×V)}{kvs:List (D×D)}(r:mD K H kv kvs)(k:Key){v:V}{d:D}(rd:cK K H v d):mD K H (putK kv k v) (K2.put kvs (eZ k) d):=by
 unfold putK K2.put;rw [r.any k];by_cases h:(kvs.any fun p=>i5 p.1 (eZ k))=true
 ·rw [if_pos h,if_pos h];clear h;induction r using mD.ind with
  | nil=>exact .nil
  | @cons j w e r t re rs ih =>
   simp only [av];rw [ud];by_cases e:j=k
   ·simp only [e,if_true,decide_true]; exact .cons rd ih
   ·simp only [e,if_false,decide_false,aJ]; exact .cons re ih
 ·rw [if_neg h,if_neg h];clear h;induction r using mD.ind with
  | nil=>exact .cons rd .nil
  | cons re rs ih=>exact .cons re ih
theorem oJ.put{kv:List (List Key×V)}{kvs:List (D×D)}(r:oJ K H kv kvs)(k:List Key){v:V}{d:D}(rd:cK K H v d):oJ K H (putK kv k v) (K2.put kvs (.tup (k.map eZ)) d):=by
 unfold putK K2.put;rw [r.any k];by_cases h:(kvs.any fun p=>i5 p.1 (.tup (k.map eZ)))=true
 ·rw [if_pos h,if_pos h];clear h;induction r using oJ.ind with
  | nil=>exact .nil
  | @cons j w e r t re rs ih =>
   simp only [av];rw [tu];by_cases e:j=k
   ·simp only [e,if_true,decide_true]; exact .cons rd ih
   ·simp only [e,if_false,decide_false,aJ]; exact .cons re ih
 ·rw [if_neg h,if_neg h];clear h;induction r using oJ.ind with
  | nil=>exact .cons rd .nil
  | cons re rs ih=>exact .cons re ih
end
theorem Kp.putD{H:Hp}{p:Addr}{o o':HO}(hp:H p=some o)(h:(∃ k,o=.dK k)\/∃ k,o=.dT k):Kp H (upd H p o') :=
 ⟨fun a ys e=>by rw [bK (by rintro rfl; rw [hp] at e; rcases h with ⟨_,rfl⟩ | ⟨_,rfl⟩ <;> cases e)]; exact e,fun a ob u e=>by rw [bK (by rintro rfl; rw [hp] at e; rcases h with ⟨_,rfl⟩ | ⟨_,rfl⟩ <;> cases e)]; exact e⟩
section
variable {X:Cx} {pins:List (Addr×Obj)} {σ:L2.St} {H:Hp} {s:az} {G:Gp} {a:Addr} {kvs:List (D×D)} {k:D} {y:V}
theorem toT(I:Inv X pins σ H s)(e:H a=some (.dK [])):Inv X pins σ (upd H a (.dT [])) s:=by
 obtain⟨z,hd,vs,rel,dd⟩:=AM I.cN e;have hv:vs=[]:=by cases rel; rfl
 subst hv;obtain⟨o,es,ep,ho,hx,DY,hko,hl,nd⟩:=dd;have he:es=#[]:=by
  cases hq:es.toList with
  | nil=>simpa using hq
  | cons _ _=>rw [hq] at hl; cases hl
 subst he;exact I.write (h':=s.heap) (t':=s.toks) (x:=a) (e:=a) (by rw [e]; exact iO) (.inl rfl) (fun b u _ q=>q) ⟨o,ho⟩ ⟨cq _,hd,[],.nil,o,#[],ep,ho,hx,DY,rfl,dv⟩
theorem toK(I:Inv X pins σ H s)(e:H a=some (.dT [])):Inv X pins σ (upd H a (.dK [])) s:=by
 obtain⟨z,hd,xs,rel,o,es,ep,ho,hx,DY,hl,nd⟩:=I.cN a _ e;have hv:xs=[]:=by cases rel; rfl
 subst hv;have he:es=#[]:=by simpa using hl
 subst he;exact I.write (h':=s.heap) (t':=s.toks) (x:=a) (e:=a) (by rw [e]; exact iO) (.inl rfl) (fun b u _ q=>q) ⟨o,ho⟩ ⟨cq _,hd,[],.nil,o,#[],ep,ho,hx,DY,(fun _ h=>by simp at h),.nil,dv⟩
theorem Lc{o:HO}(ab:oy X.K H G)(hg:G a=some (.dI kvs))(k:Kp H (upd H a o))(ho:NF X.K (upd H a o) a (.dI kvs)):Mv X.K H G (upd H a o) G:=by
 have m:=Mv.put ab hg k ho;have e:c7 G a (.dI kvs)=G:=by
  funext b; unfold c7; split
  ·rename_i z; rw [z,hg]
  ·rfl
 rw [e] at m;exact m
theorem LC(I:Inv X pins σ H s)(ab:oy X.K H G)(hg:G a=some (.dI kvs))(hk:h8 kvs k=true)(ry:cK X.K H y k) :
  ∃ H',Inv X pins σ H' s/\Mv X.K H G H' G/\((∃ (kv:List (Key×V)) (kk:Key),H' a=some (.dK kv)/\mD X.K H' kv kvs/\k=eZ kk/\y=kV kk)\/∃ (kv:List (List Key×V)) (kk:List Key) (b:Addr),H' a=some (.dT kv)/\oJ X.K H' kv kvs/\k=.tup (kk.map eZ)/\y=.ref b/\H' b=some (.tup (kk.map kV))):=by
 unfold h8 at hk;rw [xn,aM,aM] at hk;rcases hk with ⟨h1,h2⟩ | ⟨h1,h2⟩
 ·obtain⟨kk,rfl⟩:=qP h1;have ey:=qD ry;subst ey;rcases ab a _ hg with ⟨kv,hv,rs⟩ | ⟨kv,hv,rs⟩
  ·exact⟨H,I,.refl ab,.inl ⟨kv,kk,hv,rs,rfl,rfl⟩⟩
  ·cases rs with
   | nil =>
    refine⟨_,toK I hv,Lc ab hg (.putD hv (.inr ⟨_,rfl⟩)) (.inl ⟨[],bX,.nil⟩),.inl ⟨[],kk,bX,.nil,rfl,rfl⟩⟩
   | cons _ _=>simp [dU] at h2
 ·obtain⟨kk,rfl⟩:=DO h1;obtain⟨b,rfl,hb⟩:=zG ry;rcases ab a _ hg with ⟨kv,hv,rs⟩ | ⟨kv,hv,rs⟩
  ·cases rs with
   | nil =>
    have kp:Kp H (upd H a (.dT [])):=.putD hv (.inl ⟨_,rfl⟩);exact⟨_,toT I hv,Lc ab hg kp (.inr ⟨[],bX,.nil⟩),.inr ⟨[],kk,b,bX,.nil,rfl,rfl,kp.tup _ _ hb⟩⟩
   | @cons j _ _ _ _ _ _=>cases j <;> simp [eZ,mH] at h2
  ·exact⟨H,I,.refl ab,.inr ⟨kv,kk,b,hv,rs,rfl,rfl,hb⟩⟩
theorem AO(I:Inv X pins σ H s)(ab:oy X.K H G)(hg:G a=some (.dI kvs))(hk:h8 kvs k=true)(ry:cK X.K H y k) :
  ∃ H' o,Inv X pins σ H' s/\Mv X.K H G H' G/\yG H' a y o/\o.isSome=(look kvs k).isSome/\∀ d,look kvs k=some d->∃ v,o=some v/\cK X.K H' v d:=by
 obtain⟨H',I',m,h⟩:=LC I ab hg hk ry;rcases h with ⟨kv,kk,hv,rs,rfl,rfl⟩ | ⟨kv,kk,b,hv,rs,rfl,rfl,hb⟩
 ·refine⟨H',mT kv kk,I',m,.k hv,?_,fun d hd=>?_⟩
  ·rcases rs.look kk with ⟨v,d,e1,e2,_⟩ | ⟨e1,e2⟩ <;> rw [e1,e2] <;> rfl
  ·rcases rs.look kk with ⟨v,d',e1,e2,r⟩ | ⟨e1,e2⟩
   ·rw [e2] at hd; cases hd; exact⟨v,e1,r⟩
   ·rw [e2] at hd; cases hd
 ·refine⟨H',mT kv kk,I',m,.t hv hb,?_,fun d hd=>?_⟩
  ·rcases rs.look kk with ⟨v,d,e1,e2,_⟩ | ⟨e1,e2⟩ <;> rw [e1,e2] <;> rfl
  ·rcases rs.look kk with ⟨v,d',e1,e2,r⟩ | ⟨e1,e2⟩
   ·rw [e2] at hd; cases hd; exact⟨v,e1,r⟩
   ·rw [e2] at hd; cases hd
theorem Dp{x:V}(I:Inv X pins σ H s)(rd:cK X.K H x (.gZ kvs))(hk:h8 kvs k=true)(ry:cK X.K H y k) :
  ∃ a o,x=.ref a/\(kvs=[]\/yG H a y o)/\o.isSome=(look kvs k).isSome/\∀ d,look kvs k=some d->∃ v,o=some v/\cK X.K H v d:=by
 unfold h8 at hk;rw [xn,aM,aM] at hk;cases rd with
 | qC h rs =>
  rename_i a ob kv;rcases hk with ⟨h1,h2⟩ | ⟨h1,h2⟩
  ·obtain⟨kk,rfl⟩:=qP h1;have ey:=qD ry;subst ey;refine⟨a,mT kv kk,rfl,.inr (.inl ⟨kv,kk,.inr ⟨_,h⟩,rfl,rfl⟩),?_,fun d hd=>?_⟩
   ·rcases rs.look kk with ⟨v,d,e1,e2,_⟩ | ⟨e1,e2⟩ <;> rw [e1,e2] <;> rfl
   ·rcases rs.look kk with ⟨v,d',e1,e2,r⟩ | ⟨e1,e2⟩
    ·rw [e2] at hd; cases hd; exact⟨v,e1,r⟩
    ·rw [e2] at hd; cases hd
  ·cases rs with
   | nil=>exact⟨a,none,rfl,.inl rfl,rfl,fun d hd=>by cases hd⟩
   | cons _ _ =>
    rename_i kx _ _ _ _ _ _;rw [pT,aM] at h2;cases kx <;> exact absurd h2.1 (by simp [eZ,mH])
 | qB h rs =>
  rename_i a ob kv;rcases hk with ⟨h1,h2⟩ | ⟨h1,h2⟩
  ·cases rs with
   | nil=>exact⟨a,none,rfl,.inl rfl,rfl,fun d hd=>by cases hd⟩
   | cons _ _ =>
    rw [pT,aM] at h2;exact absurd h2.1 (by simp [dU])
  ·obtain⟨kk,rfl⟩:=DO h1;obtain⟨b,rfl,hb⟩:=zG ry;refine⟨a,mT kv kk,rfl,.inr (.inr ⟨kv,kk,b,.inr ⟨_,h⟩,rfl,hb,rfl⟩),?_,fun d hd=>?_⟩
   ·rcases rs.look kk with ⟨v,d,e1,e2,_⟩ | ⟨e1,e2⟩ <;> rw [e1,e2] <;> rfl
   ·rcases rs.look kk with ⟨v,d',e1,e2,r⟩ | ⟨e1,e2⟩
    ·rw [e2] at hd; cases hd; exact⟨v,e1,r⟩
    ·rw [e2] at hd; cases hd
theorem Qy{v:V}{d:D}(I:Inv X pins σ H s)(ab:oy X.K H G)(hg:G a=some (.dI kvs))(hk:h8 kvs k=true)(hz:kvs.length < SZ)(ry:cK X.K H y k)(rv:cK X.K H v d) :
  ∃ H' H'',Inv X pins σ H' s/\NB H' a y v H''/\Mv X.K H G H'' (c7 G a (.dI (put kvs k d))):=by
 obtain⟨H',I',m,h⟩:=LC I ab hg hk ry;have rv':=rv.mono (m.kp ab);have sz:bu=16777216:=cH;rcases h with ⟨kv,kk,hv,rs,rfl,rfl⟩ | ⟨kv,kk,b,hv,rs,rfl,rfl,hb⟩
 ·have kp:Kp H' (upd H' a (.dK (putK kv kk v))):=.putD hv (.inl ⟨_,rfl⟩);exact⟨H',_,I',.k hv (by rw [rs.length,sz]; exact hz),m.trans (.put m.ab hg kp (.inl ⟨_,bX,(rs.put kk rv').mono kp⟩))⟩
 ·have kp:Kp H' (upd H' a (.dT (putK kv kk v))):=.putD hv (.inr ⟨_,rfl⟩);exact⟨H',_,I',.t hv hb (by rw [rs.length,sz]; exact hz),m.trans (.put m.ab hg kp (.inr ⟨_,bX,(rs.put kk rv').mono kp⟩))⟩
end
end K2
end
section
namespace K2
open PySem PySem.Spec PyProof.Rows L2
section
variable {X:Cx} {a b c e:Expr} {es:List Expr} {ta tb tc te:gG} {t:EW} {pos p p2 apos lC:Pos} {x:Str}
theorem DC{k:Bool}{j}:gW X (.Constant (.bool k) j pos) (dC (.bl k)):=xF W2 fun _ _=>.bl k
theorem Mq{st:Stmt}:Kg X st QF:=fun _ _ _ _ _ _ _ _ _ _ h=>h.elim
theorem qw:Yp X (unaryOp .USub) Ds:=by
 intro pins s σ H G x dx v Q I ab rx dX q;cases dX with
 | int i=>exact iy (UC pins s σ H _ v (EX X.K H G Q) I rx ⟨i,rfl,_,_,.refl ab,.int _,q⟩) fun _ _ z=>.of z
 | _=>exact bY q
theorem cw(hu:X.A.units+64 < cLine)(ha:gW X a ta)(hb:gW X b tb)(hs:Tx b):gW X (.Subscript a b pos) (bo jm ta tb):=by
 intro E pins s σ H τ G Q hE I h;refine Subscript_ (QW ha hb hE I h fun v u s2 x y dx dy H2 G2 J m rx ry dX dY q=>?_);have fin:∀ {rb:R2},IxR X rb->rb x y H2 (EX X.K H2 G2 Q)->wpAny (model X.prog X.w) X.A (subscriptTail a b v u) (tH X pins σ H G Q) X.xe s2:=fun hr hq =>
  iy (hr a b pins s2 σ H2 x y v u _ J.inv rx ry hq (hs _ _)) fun _ _ z=>(tH.of z).trans m
 cases dX with
 | tup hq rs =>
  cases dY with
  | int i =>
   rw [fJ] at q;split at q
   ·rename_i d hd;obtain⟨w,hw,v3⟩:=rs.vC hd;exact fin Vp ⟨_,_,i,w,rfl,rfl,.of hq,hw,d,G2,.refl J.ab,v3,q⟩
   ·exact q.elim
  | _=>exact bY q
 | ez hq rs =>
  cases dY with
  | int i =>
   rw [nQ] at q;split at q
   ·rename_i d hd;obtain⟨w,hw,v3⟩:=rs.vC hd;exact fin Lo ⟨_,_,i,w,rfl,rfl,hq.sq,hw,d,G2,.refl J.ab,v3,q⟩
   ·exact q.elim
  | _=>exact bY q
 | qC h rs =>
  rw [lL] at q;obtain⟨hk,q⟩:=q;split at q
  ·rename_i d hd;obtain⟨a',o,ea,g,_,hv⟩:=Dp J.inv (.qC h rs) hk dY;obtain⟨w,rfl,v3⟩:=hv d hd;cases ea;rcases g with rfl | g
   ·cases hd
   ·cases rx;exact tail_any (tx J.inv g) PySem.F.slot_dict_getitem.lookup (xQ (by lia) J.inv g ry fun w' s3 I4 rv=>⟨w,H2,d,G2,I4,m,rv,v3,q⟩) (hs _ _)
  ·exact q.elim
 | qB h rs =>
  rw [lL] at q;obtain⟨hk,q⟩:=q;split at q
  ·rename_i d hd;obtain⟨a',o,ea,g,_,hv⟩:=Dp J.inv (.qB h rs) hk dY;obtain⟨w,rfl,v3⟩:=hv d hd;cases ea;rcases g with rfl | g
   ·cases hd
   ·cases rx;exact tail_any (tx J.inv g) PySem.F.slot_dict_getitem.lookup (xQ (by lia) J.inv g ry fun w' s3 I4 rv=>⟨w,H2,d,G2,I4,m,rv,v3,q⟩) (hs _ _)
  ·exact q.elim
 | ref l =>
  rw [KY] at q;split at q
  ·rename_i ds hl;obtain⟨vs,hv,rs⟩:=J.ab.lst hl;cases dY with
   | int i =>
    dsimp only at q;split at q
    ·rename_i d hd;obtain⟨w,hw,v3⟩:=rs.vC hd;exact fin Lo ⟨_,_,i,w,rfl,rfl,.of hv,hw,d,G2,.refl J.ab,v3,q⟩
    ·exact q.elim
   | _=>exact bY q
  ·rename_i kvs hl;obtain⟨hk,q⟩:=q;split at q
   ·rename_i d hd;obtain⟨H3,o,I3,m3,g,_,hv⟩:=AO J.inv J.ab hl hk dY;obtain⟨w,rfl,v3⟩:=hv d hd;cases rx;exact tail_any (tx I3 g) PySem.F.slot_dict_getitem.lookup (xQ (by lia) I3 g ry fun w' s3 I4 rv=>⟨w,H3,d,G2,I4,m.trans m3,rv,v3,q⟩) (hs _ _)
   ·exact q.elim
  ·exact q.elim
 | _=>exact bY q
noncomputable def Za(X:Cx)(e:Option Expr)(t:Yr):Prop :=
 ∀ (E:mO) (pins:List (Addr×Obj)) (s:az) (σ:L2.St) (H:Hp) (τ:iX) (G:Gp) (Q:Option Int->Gp->Prop),Lk X E->I2 X pins σ H τ G s->t E τ G Q ->
  wpAny (model X.prog X.w) X.A (evalPart e X.env) (fun u s'=>∃ o H' G',Inv X pins σ H' s'/\Mv X.K H G H' G'/\IsPart u o/\Q o G') X.xe s
theorem l7:Za X none fZ:=by
 intro E pins s σ H τ G Q hE I h;rw [evalPart_none];exact aw ⟨none,H,G,I.inv,.refl I.ab,.none,h⟩
theorem jM(h:gW X e te):Za X (some e) (rG te):=by
 intro E pins s σ H τ G Q hE I hw;rw [evalPart_some];refine kj h hE I hw fun x H1 d G1 u s1 I1 m1 r1 jG q1=>?_;cases jG with
 | int i =>
  obtain⟨t,rfl⟩:=r1;exact⟨some i,H1,G1,I1.inv,m1,.int i t,q1⟩
 | _=>exact bY q1
theorem jn{lo hi:Option Expr}{tl th:Yr}(he:gW X a ta)(hl:Za X lo tl)(hu:Za X hi th):gW X (.Subscript a (.Slice lo hi none p2) pos) (BN ta tl th):=by
 intro E pins s σ H τ G Q hE I h;refine Subscript_ (kj he hE I h fun x H1 d G1 v s1 I1 m1 r1 jG q1=>?_);refine wpAny_Slice (iy (hl E pins s1 σ H1 τ G1 _ hE I1 q1) ?_);rintro vl s2 ⟨l,H2,G2,qm,m2,pl,q2⟩;refine iy (hu E pins s2 σ H2 τ G2 _ hE (I1.mv qm m2) q2) ?_;rintro vu s3 ⟨r,H3,G3,I3,m3,pu,q3⟩;rw [evalPart_none];refine aw ?_;have m13:=m2.trans m3;have mm:=m1.trans m13;have I4:Inv X pins σ H3 { s3 with heap:=s3.heap.push { cls:=.type "slice",data:=.fields #[vl,vu,.none] } }:=I3.kept (t':=s3.toks) fun b ob q=>aE _ q;have UY:=jG.mono (m13.kp I1.ab);have NV:=m3.ab;have key:∀ {rb:V->Option Int->Option Int->Hp->VK->Prop},SlR X rb->rb x l r H3 (EX X.K H3 G3 Q)->wpAny (model X.prog X.w) X.A (subscriptTail a (.Slice lo hi none p2) v (.ref s3.heap.objs.size)) (tH X pins σ H G Q) X.xe { s3 with heap:=s3.heap.push { cls:=.type "slice",data:=.fields #[vl,vu,.none] } }:=fun hr hq=>by
  obtain⟨T,id,hT,ht,hg⟩:=hr pins { s3 with heap:=s3.heap.push { cls:=.type "slice",data:=.fields #[vl,vu,.none] } } σ H3 x v vl vu l r s3.heap.objs.size _ I4 r1 (Heap.IsSliceOf.new ..) pl pu hq;exact iy (tail_any (ops:=[.ref s3.heap.objs.size,v]) ht hT hg (by with_unfolding_all rfl)) fun _ _ z=>(tH.of z).trans mm
 cases UY with
 | tup hq rs =>
  obtain⟨hw,q⟩:=q3;refine key UQ ⟨_,_,rfl,.of hq,?_,fun p hp=>⟨_,G3,.P8 NV hp,.tup bX ((rs.cut l r).mono (.new hp)),q⟩⟩;rw [Dk,Dk,rs.length];exact hw
 | ez hq rs=>exact key KR ⟨_,_,rfl,hq.sq,fun p hp=>⟨_,_,.Jk NV hp (rs.cut l r),.ref _,q3 p (NV.free hp)⟩⟩
 | ref g =>
  rw [tP] at q3;split at q3
  ·rename_i ds hg;obtain⟨vs,hv,rs⟩:=NV.lst hg;exact key KR ⟨_,_,rfl,.of hv,fun p hp=>⟨_,_,.Jk NV hp (rs.cut l r),.ref _,q3 p (NV.free hp)⟩⟩
  ·exact q3.elim
 | _=>exact bY q3
theorem Sl(ss:List D)(s:D)(h1:sV ss=true)(h2:nr s=true):((oE ss).any fun y=>Bg y (pd s))=ss.any (i5 · s):=by
 induction ss with
 | nil=>rfl
 | cons d r ih =>
  have h':nr d=true/\sV r=true:=(pD).mp h1;show (Bg (pd d) (pd s)||(oE r).any _)=_;rw [ih h'.2,xO d s h'.1 h2]; rfl
theorem S6{G:Gp}{n:Nat}{ds ss:List D}(h:Sn G (n+1) (.ez ds) (.ez ss)):cA (oE ss)<=n:=by
 exact vJ (El h)
theorem DR(hu:X.A.units+64 < cLine)(neg:Bool){pins:List (Addr×Obj)}{s:az}{σ:L2.St}{H:Hp}{G:Gp}{x y:V}{dx t:D}{ds ss:List D}{v u:Value}{Q:DK}(I:Inv X pins σ H s)(ab:oy X.K H G)(rx:RelV x v)(dX:cK X.K H x dx)
  (hy:(∃ l vs bM,u=.ref l/\Vals vs bM/\bC X.K H vs ds/\(s.heap.IsList l bM.toArray\/s.heap.IsTuple l bM.toArray))) (s1:Sn G SN dx t) (s2:Sn G SN (.ez ds) (.ez ss))
  (q:Q (.bl (if neg then !ss.any (i5 · t) else ss.any (i5 · t))) G):wpAny (model X.prog X.w) X.A (fx (if neg then .NotIn else .In) v u) (tH X pins σ H G Q) X.xe s:=by
 obtain⟨l,vs,bM,rfl,rv,rs,hl⟩:=hy;obtain⟨as,ra⟩:=(k8 I ab s1).1 x v dX rx;obtain⟨bs,rb⟩:=(k8 I ab s2).2 ds ss (.inl ⟨rfl,rfl⟩) vs bM rs rv;have d2:=S6 (n:=7) s2;have n2:sV ss=true:=s2.nr;have Gq:=yS _ n2;have e:=Sl ss t n2 s1.nr;have DU:X.A.units+1+min (cA (oE ss)) (pd t).depth < cLine:=by lia
 have TV:iG s.heap bM.toArray.toList (oE ss) bs:=by simpa using rb
 have fin:∀ k:Bool,k=(if neg then !ss.any (i5 · t) else ss.any (i5 · t))->tH X pins σ H G Q (.bool k) s:=fun k hk=>by subst hk; exact⟨.bl _,H,.bl _,G,I,.refl ab,rfl,.bl _,q⟩
 cases neg with
 | false =>
  rcases hl with hl | hl
  ·exact SeqAt.in_listAt _ hl (uG TV ra Gq (ly _ s1.nr) DU) (by rw [sf TV Gq,e]; exact fin _ rfl)
  ·exact SeqAt.in_tupleAt _ hl (uG TV ra Gq (ly _ s1.nr) DU) (by rw [sf TV Gq,e]; exact fin _ rfl)
 | true =>
  rcases hl with hl | hl
  ·exact SeqAt.notIn_listAt _ hl (uG TV ra Gq (ly _ s1.nr) DU) (by rw [sf TV Gq,e]; exact fin _ rfl)
  ·exact SeqAt.notIn_tupleAt _ hl (uG TV ra Gq (ly _ s1.nr) DU) (by rw [sf TV Gq,e]; exact fin _ rfl)
theorem PT(hu:X.A.units+64 < cLine)(neg:Bool){pins:List (Addr×Obj)}{s:az}{σ:L2.St}{H:Hp}{G:Gp}{x y:V}{dx:D}{kvs:List (D×D)}{v u:Value}{Q:DK}(I:Inv X pins σ H s)(ab:oy X.K H G)(rx:RelV x v)(ry:RelV y u)(dY:cK X.K H y (.gZ kvs))(dX:cK X.K H x dx)
  (q:NN neg dx (.gZ kvs) G Q):wpAny (model X.prog X.w) X.A (fx (if neg then .NotIn else .In) v u) (tH X pins σ H G Q) X.xe s:=by
 obtain⟨wM,hk,q⟩:=q;have go:∀ (a:Addr) (o:Option V),y=.ref a->yG H a x o->o.isSome=(look kvs dx).isSome->wpAny (model X.prog X.w) X.A (fx (if neg then .NotIn else .In) v u) (tH X pins σ H G Q) X.xe s:=by
  intro a o ea g ho;subst ea;cases ry;cases neg with
  | false=>exact Yc (by lia) I g rx fun s3 I4=>⟨.bl _,H,.bl _,G,I4,.refl ab,rfl,.bl _,by rw [ho]; exact q⟩
  | true=>exact LG (by lia) I g rx fun s3 I4=>⟨.bl _,H,.bl _,G,I4,.refl ab,rfl,.bl _,by rw [ho]; exact q⟩
 obtain⟨a,o,ea,g,ho,_⟩:=Dp I dY hk dX;rcases g with rfl | g
 ·exact absurd rfl wM
 ·exact go a o ea g ho
theorem K9(hu:X.A.units+64 < cLine)(neg:Bool):rT X (fx (if neg then .NotIn else .In)) (NN neg):=by
 intro pins s σ H G x y dx dy v u Q I ab rx ry dX dY q;cases dY with
 | tup hq rs =>
  obtain⟨t,ss,s1,s2,q⟩:=q;cases ry;obtain⟨bM,rv,pl,hz⟩:=I.tuple (.of hq);exact DR hu neg (y:=x) I ab rx dX ⟨_,_,bM,rfl,rv,rs,.inr pl⟩ s1 s2 q
 | ez hq rs =>
  obtain⟨t,ss,s1,s2,q⟩:=q;cases ry;obtain⟨bM,rv,pl,hz⟩:=I.list hq.sq;exact DR hu neg (y:=x) I ab rx dX ⟨_,_,bM,rfl,rv,rs,.inl pl.isList⟩ s1 s2 q
 | qC h rs=>exact PT hu neg I ab rx ry (.qC h rs) dX q
 | qB h rs=>exact PT hu neg I ab rx ry (.qB h rs) dX q
 | ref l =>
  unfold NN at q;dsimp only at q;split at q
  ·rename_i kvs hl;obtain⟨hk,q⟩:=q;obtain⟨H3,o,I3,m3,g,ho,_⟩:=AO I ab hl hk dX;cases ry;cases neg with
   | false=>exact Yc (by lia) I3 g rx fun s3 I4=>⟨.bl _,H3,.bl _,G,I4,m3,rfl,.bl _,by rw [ho]; exact q⟩
   | true=>exact LG (by lia) I3 g rx fun s3 I4=>⟨.bl _,H3,.bl _,G,I4,m3,rfl,.bl _,by rw [ho]; exact q⟩
  ·rename_i ds hl;obtain⟨t,ss,s1,s2,q⟩:=q;cases ry;obtain⟨vs,hv,rs⟩:=ab.lst hl;obtain⟨bM,rv,pl,hz⟩:=I.list (.of hv);exact DR hu neg (y:=x) I ab rx dX ⟨_,_,bM,rfl,rv,rs,.inl pl.isList⟩ s1 s2 q
  ·exact q.elim
 | _=>exact bY q
theorem Vd(hu:X.A.units+64 < cLine):rT X (fx .In) (NN false):=K9 hu false
theorem Mx(hu:X.A.units+64 < cLine):rT X (fx .NotIn) (NN true):=K9 hu true
end
end K2
end
section
namespace K2
open PySem PySem.Spec PyProof.Rows L2
section
variable {X:Cx} {a b c e o:Expr} {es:List Expr} {ta tb tc te to:gG} {t:EW} {pos p p2 apos lC:Pos} {x name:Str} {id T:String}
theorem ue:rq X (.builtin "len") AW:=by
 intro pins s σ H G xs ds us Q I ab rx rd q;unfold AW at q;split at q
 ·rename_i x;obtain⟨v,rfl,r⟩:=rd.one;have RU:∀ (n:Nat),Yw X.K v H n->Q (.int (n:Int)) G->wpAny (model X.prog X.w) X.A (call (.builtin "len") us) (tH X pins σ H G Q) X.xe s:=fun n hn hq =>
   iy (QP pins s σ H [v] us (EX X.K H G Q) I rx ⟨v,n,rfl,hn,_,_,.refl ab,.int _,hq⟩) fun _ _ z=>.of z
  have sz:bu=16777216:=cH;cases r with
  | tup hq rs=>exact RU _ (.inr ⟨_,.of hq,by rw [rs.length]⟩) q
  | ez hq rs=>exact RU _ (.inl ⟨_,hq.sq,by rw [rs.length]⟩) q
  | str y =>
   unfold lenOf at q;dsimp only at q;by_cases hz:y.length<=SZ
   ·rw [if_pos hz] at q; exact RU _ ⟨by rw [sz]; exact hz,rfl⟩ q
   ·rw [if_neg hz] at q; exact q.elim
  | qC h rs =>
   rename_i l o kv kvs;obtain⟨u,rfl,ru⟩:=rx.one;cases ru;unfold lenOf at q;dsimp only at q;by_cases ha:(kvs.all fun p=>dU p.1)=true
   ·rw [if_pos ha] at q;exact Uk I (.inr ⟨_,h⟩) fun t s' I'=>⟨.int kv.length,H,_,G,I',.refl ab,⟨t,rfl⟩,.int _,by rw [rs.length]; exact q⟩
   ·rw [if_neg ha] at q; exact q.elim
  | qB h rs =>
   rename_i l o kv kvs;obtain⟨u,rfl,ru⟩:=rx.one;cases ru;unfold lenOf at q;dsimp only at q;by_cases ha:(kvs.all fun p=>dU p.1)=true
   ·rw [if_pos ha] at q;cases rs with
    | nil =>
     obtain⟨z,hS,xs,rel,ob,es,ep,ho,hx,DY,hl,nd⟩:=(I.cN l _ h).2;have hxs:xs=[]:=by cases rel; rfl
     subst hxs;have he:es=#[]:=by simpa using hl
     subst he;have dd:s.heap.DictOf (cx X.prog X.w) l []:=⟨ob,#[],ep,ho,hx,DY,(fun _ h=>by simp at h),.nil,dv⟩;refine call_len_dict hS dd (by simp) ?_;exact⟨.int 0,H,_,G,I.tok _,.refl ab,⟨_,rfl⟩,.int _,q⟩
    | cons _ _=>simp [dU] at ha
   ·rw [if_neg ha] at q; exact q.elim
  | ref l =>
   unfold lenOf at q;dsimp only at q;cases hg:G l with
   | none=>rw [hg] at q; exact q.elim
   | some g =>
    rw [hg] at q;cases g with
    | lst ds =>
     obtain⟨vs,hv,rs⟩:=ab.lst hg;exact RU _ (.inl ⟨_,.of hv,by rw [rs.length]⟩) q
    | dI kvs =>
     obtain⟨u,rfl,ru⟩:=rx.one;cases ru;dsimp only at q;by_cases ha:(kvs.all fun p=>dU p.1)=true
     ·rw [if_pos ha] at q;rcases ab l _ hg with ⟨kv,hv,rs⟩ | ⟨kv,hv,rs⟩
      ·exact Uk I (.inl hv) fun t s' I'=>⟨.int kv.length,H,_,G,I',.refl ab,⟨t,rfl⟩,.int _,by rw [rs.length]; exact q⟩
      ·cases rs with
       | nil =>
        obtain⟨z,hd,vs,rel,dd⟩:=AM (toK I hv).cN bX;have hvs:vs=[]:=by cases rel; rfl
        subst hvs;refine call_len_dict hd dd (by simp) ?_;exact⟨.int 0,H,_,G,I.tok _,.refl ab,⟨_,rfl⟩,.int _,q⟩
       | cons _ _=>simp [dU] at ha
     ·rw [if_neg ha] at q; exact q.elim
  | _=>exact bY q
 ·exact q.elim
theorem Kc:rq X (.type "list") AV:=by
 intro pins s σ H G xs ds us Q I ab rx rd q;unfold AV at q;split at q
 ·rename_i x;obtain⟨v,rfl,r⟩:=rd.one;have ZK:∀ (l:Addr) (ys:List V) (zs:List D),v=.ref l->(rH X.K H l ys\/A4 X.K H l ys)->bC X.K H ys zs->gx G (.lst zs) Q->wpAny (model X.prog X.w) X.A (call (.type "list") us) (tH X pins σ H G Q) X.xe s:=fun l ys zs e h rs hq=>by
   subst e;exact iy (Es pins s σ H _ us (EX X.K H G Q) I rx ⟨l,ys,rfl,h,fun p hp=>⟨_,_,.Jk ab hp rs,.ref _,hq p (ab.free hp)⟩⟩) fun _ _ z=>.of z
  cases r with
  | tup hq rs=>exact ZK _ _ _ rfl (.inr (.of hq)) rs q
  | ez hq rs=>exact ZK _ _ _ rfl (.inl hq.sq) rs q
  | ref l =>
   unfold itemsOf at q;dsimp only at q;cases hg:G l with
   | none=>rw [hg] at q; exact q.elim
   | some g =>
    rw [hg] at q;cases g with
    | lst ds =>
     obtain⟨vs,hv,rs⟩:=ab.lst hg;exact ZK _ _ _ rfl (.inl (.of hv)) rs q
    | dI kvs=>exact q.elim
  | _=>exact bY q
 ·exact q.elim
theorem nT {r:List D->Gp->DK->Prop} (hc:rq X (.type T) r) (hg:Gl X x) (hm:X.mg x=none) (hv:eE x=some (.type T)) (ha:Hx X (e :: es) t) (hn:autoParam (x≠"__name__") Ad._auto_1) (JC:autoParam ((x == ("__debug__" : Str))=false) Ad._auto_1)
  (he:autoParam (bR (e :: es) X.env=(false,eval e X.env) :: bR es X.env) Ar._auto_1) (JB:autoParam ((mJ pos (bR es X.env)).any (·.1)=false) Ar._auto_1):gW X (.Call (.Name x p) (e :: es) [] pos) (qW r t):=by
 intro E pins s σ H τ G Q hE I h;refine e7 (mG I.inv hg hm hv ?_ hn JC);exact c8 (zo ha pos hE I h fun vs H1 ds G1 us s1 I1 m1 r1 jG q1=>iy (hc pins s1 σ H1 G1 vs ds us Q I1.inv I1.ab r1 jG q1) fun _ _ z=>z.trans m1) he JB
theorem Vl (K:aq):∀ C∈["int","bool","list","tuple","dict","str"],∀ T∈["NoneType","bool","int","str","tuple","list","dict"],PySem.W.kitOne K (.type T) (.type C)=some (T == C||(T == "bool" && C == "int")):=by
 intro C hC T hT;simp only [bQ,bL,or_false] at hC hT;rcases hC with rfl | rfl | rfl | rfl | rfl | rfl <;> rcases hT with rfl | rfl | rfl | rfl | rfl | rfl | rfl <;> kernel_rfl
theorem PN (C:String) (hC:C∈["int","bool","list","tuple","dict","str"]) {pins:List (Addr×Obj)} {s:az} {σ:L2.St} {H:Hp} {G:Gp} {v:V} {d:D} {u:Value} {k:Bool} {Q:DK} (I:Inv X pins σ H s) (ab:oy X.K H G) (ru:RelV v u) (r:cK X.K H v d)
  (hk:Wl C d G=some k) (q:Q (.bl k) G):wpAny (model X.prog X.w) X.A (call (.builtin "isinstance") [u,.type C]) (tH X pins σ H G Q) X.xe s:=by
 have fin:∀ tk,tH X pins σ H G Q (.bool k) { s with toks:=tk }:=fun tk=>⟨.bl k,H,.bl k,G,I.tok _,.refl ab,rfl,.bl k,q⟩;have hl:∀ T∈["NoneType","bool","int","str","tuple","list","dict"],k=(T == C||(T == "bool" && C == "int"))->PySem.W.kitOne X.K (.type T) (.type C)=some k:=fun T hT e=>by rw [Vl X.K C hC T hT,e]
 have tl:∀ {l:Addr} {o:Obj},s.heap.get? l=some o->o.cls=.type "list"->k=("list" == C||("list" == "bool" && C == "int"))->v=.ref l->wpAny (model X.prog X.w) X.A (call (.builtin "isinstance") [u,.type C]) (tH X pins σ H G Q) X.xe s:=fun ho hc e ev=>by
  subst ev;cases ru;exact jx PySem.W.kitx_list I.HZ ⟨_,ho,hc⟩ (hl "list" (by decide) e) (fun z=>nomatch z) fin
 have td:∀ {l:Addr} {o:Obj},s.heap.get? l=some o->o.cls=.type "dict"->k=("dict" == C||("dict" == "bool" && C == "int"))->v=.ref l->wpAny (model X.prog X.w) X.A (call (.builtin "isinstance") [u,.type C]) (tH X pins σ H G Q) X.xe s:=fun ho hc e ev=>by
  subst ev;cases ru;exact jx PySem.W.kitx_dict I.HZ ⟨_,ho,hc⟩ (hl "dict" (by decide) e) (fun z=>nomatch z) fin
 have pM:∀ P:String->Prop,(∀ C'∈["int","bool","list","tuple","dict","str"],P C')->P C:=fun P h=>h C hC;cases r with
 | fh =>
  cases ru;have e:k=("NoneType" == C||("NoneType" == "bool" && C == "int")):=by
   have:k=false:=(bx hk).symm;rw [this];exact pM (fun C=>false=("NoneType" == C||("NoneType" == "bool" && C == "int"))) (by decide)
  exact jx PySem.W.kitx_none I.HZ iO (hl _ (by decide) e) (fun z=>nomatch z) fin
 | bl y =>
  cases ru;have e:k=("bool" == C||("bool" == "bool" && C == "int")):=by
   have:k=(C == "bool" || C == "int"):=(bx hk).symm;rw [this];exact pM (fun C=>(C == "bool" || C == "int")=("bool" == C||("bool" == "bool" && C == "int"))) (by decide)
  exact jx PySem.W.kitx_bool I.HZ iO (hl _ (by decide) e) (fun z=>nomatch z) fin
 | int y =>
  obtain⟨t,rfl⟩:=ru;have e:k=("int" == C||("int" == "bool" && C == "int")):=by
   have:k=(C == "int"):=(bx hk).symm;rw [this];exact pM (fun C=>(C == "int")=("int" == C||("int" == "bool" && C == "int"))) (by decide)
  exact jx PySem.W.kitx_int I.HZ iO (hl _ (by decide) e) (fun z=>nomatch z) fin
 | str y =>
  obtain⟨t,rfl⟩:=ru;have e:k=("str" == C||("str" == "bool" && C == "int")):=by
   have:k=(C == "str"):=(bx hk).symm;rw [this];exact pM (fun C=>(C == "str")=("str" == C||("str" == "bool" && C == "int"))) (by decide)
  exact jx PySem.W.kitx_str I.HZ iO (hl _ (by decide) e) (fun z=>nomatch z) fin
 | tup hq rs =>
  cases ru;have e:k=("tuple" == C||("tuple" == "bool" && C == "int")):=by
   have:k=(C == "tuple"):=(bx hk).symm;rw [this];exact pM (fun C=>(C == "tuple")=("tuple" == C||("tuple" == "bool" && C == "int"))) (by decide)
  obtain⟨bM,rv,⟨o,h1,h2,_⟩,hz⟩:=I.tuple (.of hq);exact jx PySem.W.kitx_tuple I.HZ ⟨o,h1,h2⟩ (hl _ (by decide) e) (fun z=>nomatch z) fin
 | ez hq rs =>
  obtain⟨bM,rv,pl,hz⟩:=I.list hq.sq;obtain⟨o,h1,h2,_⟩:=pl.isList;refine tl h1 h2 ?_ rfl;have:k=(C == "list"):=(bx hk).symm;rw [this];exact pM (fun C=>(C == "list")=("list" == C||("list" == "bool" && C == "int"))) (by decide)
 | qC h rs =>
  have e:k=("dict" == C||("dict" == "bool" && C == "int")):=by
   have:k=(C == "dict"):=(bx hk).symm;rw [this];exact pM (fun C=>(C == "dict")=("dict" == C||("dict" == "bool" && C == "int"))) (by decide)
  obtain⟨_,_,vs,_,ob,_,_,h1,h2,_⟩:=tw I.cN (.inr ⟨_,h⟩);exact td h1 h2.1 e rfl
 | qB h rs =>
  have e:k=("dict" == C||("dict" == "bool" && C == "int")):=by
   have:k=(C == "dict"):=(bx hk).symm;rw [this];exact pM (fun C=>(C == "dict")=("dict" == C||("dict" == "bool" && C == "int"))) (by decide)
  obtain⟨_,_,ys,_,ob,_,_,h1,h2,_⟩:=yt I.cN (.inr ⟨_,h⟩);exact td h1 h2.1 e rfl
 | exc h=>simp [Wl] at hk
 | ref l =>
  unfold Wl at hk;dsimp only at hk;cases hg:G l with
  | none=>rw [hg] at hk; cases hk
  | some g =>
   rw [hg] at hk;cases g with
   | lst ds =>
    obtain⟨vs,hv,rs⟩:=ab.lst hg;obtain⟨bM,rv,pl,hz⟩:=I.list (.of hv);obtain⟨o,h1,h2,_⟩:=pl.isList;refine tl h1 h2 ?_ rfl;have:k=(C == "list"):=(bx hk).symm;rw [this];exact pM (fun C=>(C == "list")=("list" == C||("list" == "bool" && C == "int"))) (by decide)
   | dI kvs =>
    have e:k=("dict" == C||("dict" == "bool" && C == "int")):=by
     have:k=(C == "dict"):=(bx hk).symm;rw [this];exact pM (fun C=>(C == "dict")=("dict" == C||("dict" == "bool" && C == "int"))) (by decide)
    rcases ab l _ hg with ⟨kv,hv,rs⟩ | ⟨kv,hv,rs⟩
    ·obtain⟨_,_,vs,_,ob,_,_,h1,h2,_⟩:=AM I.cN hv;exact td h1 h2.1 e rfl
    ·obtain⟨_,_,ys,_,ob,_,_,h1,h2,_⟩:=Ui I.cN hv;exact td h1 h2.1 e rfl
theorem DA (C:String) (hC:C∈["int","bool","list","tuple","dict","str"]) {y:Str} {py:Pos} (hg:Gl X "isinstance") (hm:X.mg "isinstance" = none) (hgC:Gl X y) (hmC:X.mg y=none) (hvC:eE y=some (.type C)) (ha:gW X a ta) (hn:autoParam (y≠"__name__") Ad._auto_1) (JC:autoParam ((y == ("__debug__" : Str))=false) Ad._auto_1)
  (he:autoParam (bR [a,.Name y py] X.env=(false,eval a X.env) :: bR [.Name y py] X.env) Ar._auto_1) (JB:autoParam ((mJ pos (bR [Expr.Name y py] X.env)).any (·.1)=false) Ar._auto_1) (Vz:autoParam (bR [.Name y py] X.env=[(false,eval (.Name y py) X.env)]) Ar._auto_1) :
  gW X (.Call (.Name "isinstance" p) [a,.Name y py] [] pos) (QG C ta):=by
 intro E pins s σ H τ G Q hE I h;refine e7 (mG I.inv hg hm PyProof.Rows.boot_isinstance ?_);refine lD ?_ he JB;rw [he];show wpAny _ _ (Ik ((false,eval a X.env) :: mJ pos (bR [.Name y py] X.env))) _ _ s;refine jv (kj ha hE I h fun v H1 d G1 u s1 I1 m1 r1 jG q1=>?_);rw [Vz];show wpAny _ _ (Ik [(false,eval (.Name y py) X.env)]) _ _ s1;refine jv (mG I1.inv hgC hmC hvC (mS ?_) hn JC)
 try dsimp only at q1
 split at q1
 ·rename_i k hk;exact iy (PN C hC I1.inv I1.ab r1 jG hk q1) fun _ _ z=>z.trans m1
 ·exact q1.elim
end
end K2
end
section
namespace K2
open PySem PySem.Spec PyProof.Rows L2
section
variable {X:Cx} {a b c e o:Expr} {es:List Expr} {ta tb tc te to:gG} {t:EW} {pos p p2 apos lC:Pos} {x name:Str} {id T:String}
noncomputable def Q8(X:Cx)(id:String)(r:D->List D->Gp->DK->Prop):Prop :=
 ∀ (pins:List (Addr×Obj)) (s:az) (σ:L2.St) (H:Hp) (G:Gp) (x:V) (d:D) (xs:List V) (ds:List D) (v:Value) (us:List Value) (Q:DK),Inv X pins σ H s->oy X.K H G->RelV x v->cK X.K H x d->Vals xs us->bC X.K H xs ds->r d ds G Q ->
  wpAny (model X.prog X.w) X.A (call (.builtin id) (v :: us)) (tH X pins σ H G Q) X.xe s
noncomputable def V4(X:Cx)(T:String)(ty:D->Gp->Prop):Prop:=∀ (pins:List (Addr×Obj)) (s:az) (σ:L2.St) (H:Hp) (G:Gp) (x:V) (d:D) (v:Value),Inv X pins σ H s->oy X.K H G->RelV x v->cK X.K H x d->ty d G ->
  s.TypeIs v T/\∀ a,v=.ref a->∃ ob,s.heap.get? a=some ob/\ob.dict=none
theorem pU:V4 X "list" C8:=by
 intro pins s σ H G x d v I ab r rd h;cases rd with
 | ez hq rs=>exact C7 I r (.inl ⟨rfl,_,hq.sq⟩)
 | ref l =>
  unfold C8 at h;dsimp only at h;split at h
  ·rename_i ds hg;obtain⟨vs,hv,rs⟩:=ab.lst hg;exact C7 I r (.inl ⟨rfl,vs,.of hv⟩)
  ·exact h.elim
 | _=>exact bY h
theorem nH:V4 X "dict" Ow:=by
 intro pins s σ H G x d v I ab r rd h;cases rd with
 | qC q rs =>
  cases r;obtain⟨t1,t2,_⟩:=PQ I (.inl ⟨_,.inr ⟨_,q⟩⟩);exact⟨t1,t2⟩
 | qB q rs =>
  cases r;obtain⟨t1,t2,_⟩:=PQ I (.inr ⟨_,.inr ⟨_,q⟩⟩);exact⟨t1,t2⟩
 | ref l =>
  unfold Ow at h;dsimp only at h;split at h
  ·rename_i kvs hg;rcases ab l _ hg with ⟨kv,hv,rs⟩ | ⟨kv,hv,rs⟩
   ·exact C7 I r (.inr (.inr (.inl ⟨rfl,.inl ⟨kv,hv⟩⟩)))
   ·exact C7 I r (.inr (.inr (.inl ⟨rfl,.inr ⟨kv,hv⟩⟩)))
  ·exact h.elim
 | _=>exact bY h
theorem nU {ty:D->Gp->Prop} {r:D->List D->Gp->DK->Prop} (pa:PlainAttrs T) (slot:Slot T name id) (SQ:typeOf (.builtin id)=pure (.type "method_descriptor")) (ht:V4 X T ty) (hm:Q8 X id r) (ho:gW X o to) (ha:Hx X (e :: es) t)
  (GC:autoParam (xr o name X.env (eval o X.env)=eval o X.env) Ar._auto_1)
  (abq:autoParam (((mJ lC (bR (e :: es) X.env)).all (fun x=>!x.1)&&(backToKw lC (keywordEach [] X.env)).all (fun x=>x.1.isSome)
   && decide ((e :: es).length+([]:List Oj).length+(if ([]:List Oj).isEmpty then 0 else 1) < 30))=true) Ar._auto_1)
  (GA:autoParam ((apos.endLine == lC.line)=true) Ar._auto_1) (hs:autoParam (bR (e :: es) X.env=(false,eval e X.env) :: bR es X.env) Ar._auto_1) (Vt:autoParam ((mJ lC (bR es X.env)).any (·.1)=false) Ar._auto_1) :
  gW X (.Call (.Attribute o name apos) (e :: es) [] lC) (vB ty r to t):=by
 intro E pins s σ H τ G Q hE I h;refine wpAny_Call_method_late GC abq GA rfl (kj ho hE I h ?_);rintro x H1 d G1 v s1 I1 m1 r1 jG ⟨hy,q1⟩;obtain⟨h1,h2⟩:=ht pins s1 σ H1 G1 x d v I1.inv I1.ab r1 jG hy;refine⟨T,id,pa,slot,SQ,h1,h2,?_⟩;have hA:=ha lC E pins s1 σ H1 τ G1 _ hE I1 q1;rw [hs] at hA ⊢;refine uX (by show (false||(mJ lC (bR es X.env)).any (·.1))=false; rw [Vt] <;> rfl) (Calls.evalArgs_plain ?_);exact iy hA (by rintro us s2 ⟨vs,H2,ds,G2,qm,m2,r2,Bt,q2⟩; exact iy (hm pins s2 σ H2 G2 x d vs ds v us Q qm m2.ab r1 (jG.mono (m2.kp I1.ab)) r2 Bt q2) fun _ _ z=>z.trans (m1.trans m2))
theorem vc:Q8 X "list.append" qL:=by
 intro pins s σ H G x d xs ds v us Q I ab rx rd UT KW q;unfold qL at q;split at q
 ·rename_i l d';cases rd;obtain⟨w,rfl,v3⟩:=KW.one;split at q
  ·rename_i zs hg;obtain⟨hz,q⟩:=q;obtain⟨vs,hv,rs⟩:=ab.lst hg;exact iy (Cg pins s σ H _ _ v us (EX X.K H G Q) I rx UT ⟨l,vs,w,rfl,rfl,hv,by rw [rs.length,cH]; exact hz,_,_,.putL ab hg hv (rs.append (.cons v3 .nil)),.fh,q⟩) fun _ _ z=>.of z
  ·exact q.elim
 ·exact q.elim
theorem JU(l:Addr)(xs:Array Value)(n:Nat)(b:Addr)(ys:Array Value)(n2:Nat)(dd:Option Addr)(sl:Array (Option Value))(Ub:¬(!xs.isEmpty&&j6 (xs.size+ys.size))=true)(hx:xs.size<=bu)(hxy:xs.size+ys.size<=bu+1) :
  Meets (Builtin.«list.extend» ⟨[.ref l,.ref b],[]⟩) (fun _ R s=>s.heap.get? l=some { cls:=.type "list",dict:=none,data:=.seq xs n,slots:=#[] }/\s.heap.get? b=some { cls:=.type "list",dict:=dd,data:=.seq ys n2,slots:=sl }/\R (.ok (.ret gf)) { s with heap:=s.heap.update l (jt fun x=>x++ys),toks:=s.toks }) :=
 .of_wp fun prog w A R s h=>by
  obtain⟨hp,g,d,tk,os⟩:=s;obtain⟨h1,h2,h3⟩:=h;have e1:=AutoSeq1.idx_int;have e2:=rB;have e3:=IC;have e4:=AutoSeq1.sub_tuple_list;have e5:=AutoSeq1.sub_list_tuple;have hz':(xs++ys).size<=bu+1:=by rw [Array.size_append]; exact hxy
  wp_walk using (y8 h1 rfl (hz:=hx) (_hz':=hz')),cj h1,cj h2
  exact⟨_,rfl,h3⟩
theorem vb:Q8 X "list.extend" t4:=by
 intro pins s σ H G x d xs ds v us Q I ab rx rd UT KW q;unfold t4 at q;split at q
 ·rename_i l y;cases rd;obtain⟨w,rfl,v3⟩:=KW.one;obtain⟨u,rfl,ru⟩:=UT.one;split at q
  ·rename_i zs ys hg SV;obtain⟨hz,q⟩:=q;obtain⟨vs,hv,rs⟩:=ab.lst hg;obtain⟨b,ws,mY,rfl,HY,B9,hb,_⟩:=je I ab ru v3 SV;cases rx;obtain⟨z,bM,n,r,hl,e⟩:=I.Xn hv;obtain⟨⟨cl,dd,dt,sl⟩,ho,DZ,n2,hdt⟩:=hb;simp only at DZ hdt;subst DZ hdt;have h1:=HY.length;have h2:=B9.length;have h3:=rs.length;have h4:=r.length;have h5:bu=16777216:=cH;have h6:SZ=16777216:=rfl;have hsz:bM.toArray.size+mY.toArray.size<=bu:=by rw [aY,aY]; lia
   have Ub:¬ (!bM.toArray.isEmpty&&j6 (bM.toArray.size+mY.toArray.size))=true:=by
    rw [Pk hsz,KG];exact rP
   refine Iq F.slot_list_extend ⟨_,e,rfl⟩ F.entry_list_extend (F.args_list_extend_2 _ _) (JU l bM.toArray n b mY.toArray n2 dd sl Ub (by rw [aY]; lia) (by lia)) ⟨e,ho,?_⟩;refine⟨.fh,_,.fh,_,I.Xo (its':=bM++mY) hv e (by simp) (r.append HY) ?_,.putL ab hg hv (rs.append B9),rfl,.fh,q⟩;rw [ar];lia
  ·exact q.elim
 ·exact q.elim
theorem gL:gW X (.Dict [] [] pos) iq:=by
 intro E pins s σ H τ G Q hE I h;exact iy (O8 pins s σ H (EX X.K H G Q) I.inv fun p hp=>⟨_,_,.new I.ab hp (.dk bX .nil),.ref _,h p (I.ab.free hp)⟩) fun _ _ z=>.of z
end
end K2
end
section
namespace K2
open PySem PySem.Spec PyProof.Rows L2
noncomputable def gI(env:Env):List (Str×uH)->List (Str×Addr)->List (Str×Addr)
 | [],acc=>acc
 | (n,k) :: r,acc=>if k=.free then gI env r ((n,(env.cells.lookup n).getD 0) :: acc) else gI env r acc
theorem vk(env:Env)(f:Str×uH->List (Str×Addr)->Sem (ForInStep (List (Str×Addr))))(hf:∀ n k c,f (n,k) c=if (k == kU)=true then (cellOf env n >>= fun a=>pure (uC ((n,a) :: c))) else pure (uC c)) :
  ∀ (ns:List (Str×uH)) (acc:List (Str×Addr)),(∀ x∈ns,x.2=.free->∃ c,env.cells.lookup x.1=some c)->forIn ns acc f=(pure (gI env ns acc):Sem (List (Str×Addr)))
 | [],acc,_=>rfl
 | (n,k) :: r,acc,h=>by
  rw [HU,hf];have hr:∀ x∈r,x.2=.free->∃ c,env.cells.lookup x.1=some c:=fun x hx=>h x (aK _ hx);by_cases hk:k=.free
  ·subst hk;obtain⟨c,hc⟩:=h (n,.free) bJ rfl;have ec:cellOf env n=pure c:=by unfold cellOf; rw [hc]
   rw [if_pos (by decide),ec,pure_bind,pure_bind];show forIn r ((n,c) :: acc) f=_;rw [vk env f hf r _ hr];show _=(pure (gI env ((n,.free) :: r) acc):Sem (List (Str×Addr)));rw [gI,if_pos rfl,hc]; rfl
  ·rw [if_neg (by simpa using hk),pure_bind];show forIn r acc f=_;rw [vk env f hf r _ hr];show _=(pure (gI env ((n,k) :: r) acc):Sem (List (Str×Addr)));rw [gI,if_neg hk]
theorem BO{env:Env}{scope:Scope}(h:∀ x∈scope.names,x.2=.free->∃ c,env.cells.lookup x.1=some c):closureFor scope env=pure (gI env scope.names []):=by
 unfold closureFor;dsimp only;rw [vk env _ (fun n k c=>?_) scope.names [] h]
 ·rfl
 ·by_cases hk:(k == kU)=true
  ·simp only [hk,if_true]
  ·simp only [hk,if_false,aJ]
theorem vQ{env:Env}{x:Str}{c:Addr}:∀ {ns:List (Str×uH)} {acc:List (Str×Addr)},(∀ y∈ns,y.2=.free->∃ c,env.cells.lookup y.1=some c)->(∀ y c,acc.lookup y=some c->env.cells.lookup y=some c)->(gI env ns acc).lookup x=some c->env.cells.lookup x=some c
 | [],_,_,ha,e=>ha _ _ e
 | (n,k) :: r,acc,h,ha,e=>by
  have hr:∀ y∈r,y.2=.free->∃ c,env.cells.lookup y.1=some c:=fun y hy=>h y (aK _ hy);unfold gI at e;by_cases hk:k=.free
  ·rw [if_pos hk] at e;refine vQ hr (fun y c' q=>?_) e;rw [ER] at q;by_cases hy:(y == n)=true
   ·rw [hy] at q;have e1:y=n:=eq_of_beq hy;subst e1;obtain⟨c0,hc0⟩:=h (y,k) bJ hk;rw [hc0] at q ⊢;exact q
   ·have hy':(y == n)=false:=by simpa using hy
    rw [hy'] at q;exact ha y c' q
  ·rw [if_neg hk] at e;exact vQ hr ha e
theorem qx{env:Env}{x:Str}:∀ {ns:List (Str×uH)} {acc:List (Str×Addr)},((x,kU)∈ns\/∃ c,acc.lookup x=some c)->∃ c,(gI env ns acc).lookup x=some c
 | [],_,h=>by rcases h with h | h; exact absurd h (by simp); exact h
 | (n,k) :: r,acc,h=>by
  unfold gI;have grow:∀ a,(∃ c,acc.lookup x=some c)->∃ c,((n,a) :: acc).lookup x=some c:=fun a MV=>by
   obtain⟨c,hc⟩:=MV;rw [ER];by_cases hy:(x == n)=true
   ·rw [hy]; exact⟨_,rfl⟩
   ·have hy':(x == n)=false:=by simpa using hy
    rw [hy']; exact⟨c,hc⟩
  by_cases hk:k=.free
  ·rw [if_pos hk];refine qx ?_;rcases h with h | h
   ·rcases List.mem_cons.mp h with e | h
    ·injection e with e1 e2
     subst e1;exact .inr ⟨(env.cells.lookup x).getD 0,by rw [ER]; simp⟩
    ·exact .inl h
   ·exact .inr (grow _ h)
  ·rw [if_neg hk];refine qx ?_;rcases h with h | h
   ·rcases List.mem_cons.mp h with e | h
    ·injection e with e1 e2
     exact absurd e2.symm hk
    ·exact .inl h
   ·exact .inr h
noncomputable abbrev eK(X:Cx)(N:List Str)(scope:Scope)(C:Addr)(s:az)(H:Hp)(fp:List Addr):Cx :=
 { X with env:=compEnvC scope (gI X.env scope.names []) C X.env,N:=N,oD:=s,Rc:=H,outer:=X.stack,stack:=X.stack,ex:=fp,fn:=fun _=>false,pn:=[],xe:=fun _ _=>False }
theorem v8{scope:Scope}{env:Env}{x:Str}(h:(Im scope env).names.lookup x=some .cell\/(Im scope env).names.lookup x=some .free)(rE:∀ y∈scope.names,y.2≠.cell):(x,kU)∈scope.names:=by
 have go:∀ k,(Im scope env).names.lookup x=some k->k=.cell\/k=.free->(x,kU)∈scope.names:=by
  intro k hk hkk;have hm:=iY hk;unfold Im at hm;dsimp only at hm;obtain⟨⟨n,j⟩,hj,e⟩:=List.mem_map.mp hm;dsimp only at e;by_cases hc:(j == kU&&env.scope.kind == .function&&env.kindOf n == some .cell)=true
  ·rw [if_pos hc] at e;rw [aM,aM] at hc;injection e with e1 e2
   have ej:j=.free:=eq_of_beq hc.1.1;rw [ej,e1] at hj;exact hj
  ·rw [if_neg hc] at e;injection e with e1 e2
   subst e1;rcases hkk with r | r
   ·exact absurd (e2.trans r) (rE _ hj)
   ·rw [e2.trans r] at hj; exact hj
 rcases h with h | h
 ·exact go _ h (.inl rfl)
 ·exact go _ h (.inr rfl)
section
variable {X:Cx} {N:List Str} {scope:Scope} {fp:List Addr} {pins:List (Addr×Obj)} {σ:L2.St} {H:Hp} {s:az} {C:Addr}
theorem VT(I:Inv X pins σ H s)(rE:∀ y∈scope.names,y.2≠.cell)(Cv:scope.kind=.function)(rD:∀ y∈scope.names,y.2=.free->X.env.kindOf y.1=some .cell)(hC:s.heap.objs.size<=C)(XO:∀ b∈fp,oI X pins H b/\b < s.heap.objs.size):(eK X N scope C s H fp).Ok:=by
 have DZ:∀ y∈scope.names,y.2=.free->∃ c,X.env.cells.lookup y.1=some c:=fun y hy hf=>I.ok.has _ (.inl (rD y hy hf));have UG:∀ x c,(gI X.env scope.names []).lookup x=some c->X.env.cells.lookup x=some c:=fun x c e=>vQ DZ (fun y c q=>by simp at q) e;refine⟨I.ok.mod,Cv,I.ok.glob,I.ok.blt,hC,fun x y c h1 h2=>I.ok.inj x y c (UG x c h1) (UG y c h2),fun x hx=>?_,fun x c h=>absurd h (by simp),I.ok.hd,I.ok.frames,.inl rfl,fun b hb=>?_,I.bs,a9 I.ok.Ts I.sz,fun b o e hb=>?_,fun b hb=>?_,I.stack,I.KO⟩
 ·exact qx (.inl (v8 hx rE))
 ·obtain⟨⟨f0,f1,f2,f3,f4,f5⟩,xK⟩:=XO b hb;exact⟨bc (bD xK hC),fun x c e=>f4 x c (UG x c e)⟩
 ·obtain⟨⟨f0,f1,f2,f3,f4,f5⟩,xK⟩:=XO b hb;rcases f3 with f3 | f3
  ·exact I.ok.MB b o e f3
  ·exact absurd (bD (aP e) (a9 I.ok.Ts f3)) (i6 _)
 ·obtain⟨⟨f0,f1,f2,f3,f4,f5⟩,xK⟩:=XO b hb;intro z;rcases List.mem_cons.mp (I.IJ b z) with e | e
  ·exact f1 e
  ·exact f2 e
theorem Tg{pH:Heap}{m:Nat}{fr:List Nat}{tk:Nat}(I:Inv X pins σ H s)(ok:(eK X N scope s.heap.objs.size s H fp).Ok)(VB:∀ y∈scope.names,y.2≠.cell)(rD:∀ y∈scope.names,y.2=.free->X.env.kindOf y.1=some .cell)(hN:N.length=m+fr.length)
  (hfr:∀ j i x,fr[j]?=some i->N[m+j]?=some x->X.N[i]?=some x/\X.env.scope.names.lookup x=some .cell/\(Im scope X.env).names.lookup x=some .cell) (Ry:∃ mm,pH.Ns s.heap.objs.size mm) (hk:∀ b o,s.heap.get? b=some o->pH.get? b=some o) :
  Inv (eK X N scope s.heap.objs.size s H fp) [] (aU m none++fr.map fun i=>(σ[i]?).getD none) H { s with heap:=pH,toks:=tk }:=by
 have DZ:∀ y∈scope.names,y.2=.free->∃ c,X.env.cells.lookup y.1=some c:=fun y hy hf=>I.ok.has _ (.inl (rD y hy hf));have UG:∀ x c,(gI X.env scope.names []).lookup x=some c->X.env.cells.lookup x=some c:=fun x c e=>vQ DZ (fun y c q=>by simp at q) e;obtain⟨mm,Ry⟩:=Ry;refine⟨ok,rfl,I.bare,Un.kept hk,⟨mm,Ry,fun i x v h1 h2 h3=>?_⟩,fun x c e=>?_,I.cN.fresh (aF _),fun x c e=>?_,fun p hp=>absurd hp (by simp),I.cN.kept hk,?_⟩
 ·by_cases hi:i < m
  ·rw [bS (by simpa using hi),my] at h2;split at h2 <;> cases h2
  ·obtain⟨j,rfl⟩:∃ j,i=m+j:=⟨i - m,by lia⟩;rw [bH (by simp),ft,uV,bz] at h2;cases hj:fr[j]? with
   | none=>rw [hj] at h2; cases h2
   | some k =>
    rw [hj] at h2;have Lv:(σ[k]?).getD none=some v:=by simpa using h2
    have P6:σ[k]?=some (some v):=by
     cases q:σ[k]? with
     | none=>rw [q] at Lv; cases Lv
     | some o=>rw [q] at Lv; simp at Lv; rw [Lv]
    obtain⟨e1,e2,e3⟩:=hfr j k x hj h1;obtain⟨m0,hn0,hl0⟩:=I.loc;obtain⟨u,r,l⟩:=hl0 k x v e1 P6 (.inr (.inl e2));refine⟨u,r,.inr ⟨.inl e3,?_⟩⟩;rcases l with ⟨l1,_⟩ | ⟨_,c,hc,rE⟩
    ·have:X.env.scope.names.lookup x=some .local:=l1;rw [e2] at this; cases this
    ·have hx:(x,kU)∈scope.names:=v8 (.inl e3) VB;obtain⟨c',Ue⟩:=qx (env:=X.env) (x:=x) (ns:=scope.names) (acc:=[]) (.inl hx);have:=UG x c' Ue;rw [hc] at this;have ec:c=c':=bx this;subst ec;obtain⟨oc,Wq,hd⟩:=rE;exact⟨c,Ue,oc,hk _ _ Wq,hd⟩
 ·obtain⟨v,oc,Wq,hd⟩:=I.cell x c (UG x c e);exact⟨v,oc,hk _ _ Wq,hd⟩
 ·exact I.oa x c (UG x c e)
 ·rw [ar,ft,ao];exact hN.symm
theorem Er{prog:bG}{w:World}{A:du}{R:Result->az->Prop}{s:az}{elt target iter:Expr}{ifs:List Expr}{sc:Scope}{pos:Pos}{it acc:Value}{env:Env}(J:Nat->az->Prop)
  (turn:∀ n s,J n s->wpAny (model prog w) A (kS it) (fun r fM=>match r with
   | none=>R (.ok .next) fM
   | some v=>wpAny (model prog w) A (zc target it v) (fun _ WL=>wpAny (model prog w) A (Od target env v) (fun _ kQ =>
     wpAny (model prog w) A (forIn ifs true fun c r=>if r=true then do let ok ← isTrue c env (eval c env); pure (uC ok) else pure (uC r)) (fun k OF =>
      if k=true then wpAny (model prog w) A (eval elt env) (fun x Ma=>wpAny (model prog w) A (call (.builtin "list.append") [acc,x]) (fun _ OE=>∃ m,m < n/\J m OE) (fun _ _=>False) Ma) (fun _ _=>False) OF
      else ∃ m,m < n/\J m OF) (fun _ _=>False) kQ) (fun _ _=>False) WL) (fun _ _=>False) fM) (fun _ _=>False) s) (n:Nat) (h:J n s) :
  sd (model prog w) A (.compLoop (.ListComp elt [⟨target,iter,ifs,0⟩] sc pos) 0 it acc env) R s:=by
 have no:∀ {α:Type} {t:Sem α} {Q:α->az->Prop} {E:Value->az->Prop} {s:az},wpAny (model prog w) A t Q (fun _ _=>False) s->wpAny (model prog w) A t Q E s:=fun h=>Ij h (fun _ _ q=>q) fun _ _ z=>z.elim;refine codeAny_loop rfl J (fun n s hJ=>?_) n h;show wpAny _ A ((compTurn (.ListComp elt [⟨target,iter,ifs,0⟩] sc pos) 0 it acc env).onRaise (fun x=>do noteFrame x env; theTreesLotGoes x)) _ _ s;refine wpAny_noted ?_;rw [compTurn_list];refine af (wpAny_standAt (af (iy (no (turn n s hJ)) fun r fM pH=>?_)));cases r with
 | none=>exact aw pH
 | some v =>
  refine af (iy (no pH) fun _ kQ Au=>af (iy (no Au) fun _ OF Gy=>af (iy (no Gy) fun k Ma Xr=>?_)));cases k with
  | false=>exact aw ⟨rfl,Xr⟩
  | true=>exact af (af (iy (no Xr) fun x OE aaX=>af (iy (no aaX) fun _ ad3 aaW=>aw (aw ⟨rfl,aaW⟩))))
noncomputable def CompEnd(X:Cx)(pins:List (Addr×Obj))(σ:L2.St)(H:Hp)(G:Gp)(Q:DK)(C Dd:Addr)(s':az):Prop :=
 ∃ m H' G',Inv X pins σ H' s'/\s'.heap.Ns C m/\oI X pins H' C/\Mv X.K H G H' G'/\Q (.ref Dd) G'
inductive V9 (Xc:Cx):List Expr->Option yv->Prop
 | none:V9 Xc [] none
 | some {c:Expr} {t:yv}:NX Xc c t->V9 Xc [c] (some t)
theorem CM{τ:iX}{G G2:Gp}{H2:Hp}{s2:az}{tg elt iter:Expr}{ifs:List Expr}{pos:Pos}{m:Nat}{fr:List Nat}{E:mO}{g:BQ}{c:Option yv}{te:gG}{J:It}{tn:Nat->Heap->Prop}{it:Addr}{ds:List D}{ok:Gp->Prop}{Q:DK}{Rr:Value->Addr->Result->az->Prop}{E0:Value->az->Prop}
  (hc:X.calm=true) (rE:∀ y∈scope.names,y.2≠.cell) (Cv:scope.kind=.function) (rD:∀ y∈scope.names,y.2=.free->X.env.kindOf y.1=some .cell) (hN:N.length=m+fr.length)
  (hfr:∀ j i x,fr[j]?=some i->N[m+j]?=some x->X.N[i]?=some x/\X.env.scope.names.lookup x=some .cell/\(Im scope X.env).names.lookup x=some .cell)
  (hg:∀ C s H fp,N0 (eK X N scope C s H fp) tg g) (hi:∀ C s H fp,V9 (eK X N scope C s H fp) ifs c) (he:∀ C s H fp,gW (eK X N scope C s H fp) elt te)
  (I:I2 X pins σ H2 τ G2 s2) (m2:Mv X.K H G H2 G2) (T:Turn X.prog X.w X.K tg J fp it tn) (Rq:tn 0 s2.heap) (f2:∀ b∈fp,oI X pins H2 b) (wk:Uo X.K J H2 ds ok) (hz:ds.length<=SZ)
  (hE0:∀ ex G,¬ E ex G) (q:jE g c te ok ds E (AS m fr τ) G2 [] fun xs G3=>gx G3 (.lst xs) Q)
  (fin:∀ C s',CompEnd X pins σ H G Q C s2.heap.objs.size s'->Rr (.ref s2.heap.objs.size) C (.ok .next) s') :
  wpAny (model X.prog X.w) X.A (newList []) (fun acc OF=>wpAny (model X.prog X.w) X.A (newFunctionEnv scope X.env.globals (gI X.env scope.names []) [] X.env.qual none .none (some X.env)) (fun Yi Ma =>
   sd (model X.prog X.w) X.A (.compStart (.ListComp elt [⟨tg,iter,ifs,0⟩] scope pos) 0 (.ref it) acc { Yi with scope:=Im scope X.env }) (Rr acc Yi.locals) Ma) E0 OF) E0 s2:=by
 have sz:bu=16777216:=cH;have xM:H2 s2.heap.objs.size=none:=I.inv.cN.fresh (aF _);have VI:G2 s2.heap.objs.size=none:=I.ab.free xM;refine dw (wpAny_newFunctionEnv rE (by intro y hy; simp at hy) (fun pH P4 PY=>?_) Cv);dsimp only at P4 PY ⊢;have I3:Inv X pins σ (upd H2 s2.heap.objs.size (.lst [])) { s2 with heap:=s2.heap.push { cls:=.type "list",data:=.seq ([]:List Value).toArray },toks:=s2.toks }:=I.inv.aaN (ys:=[]) .nil (cq _);generalize Xw:({ s2 with heap:=s2.heap.push { cls:=.type "list",data:=.seq ([]:List Value).toArray },toks:=s2.toks }:az)=s3 at I3;generalize XZ:upd H2 s2.heap.objs.size (.lst [])=H3 at I3;have eH3:∀ b,b≠s2.heap.objs.size->H3 b=H2 b:=fun b hb=>by rw [<-XZ,bK hb]
 have GB:s3.heap=s2.heap.push { cls:=.type "list",data:=.seq ([]:List Value).toArray }:=by rw [<-Xw]
 have WR:s3.heap.objs.size=s2.heap.objs.size+1:=by rw [GB,iw]
 have P9:∀ b∈fp,b < s2.heap.objs.size:=fun b hb=>by
  obtain⟨o,e,_⟩:=T.obj _ _ Rq b hb;exact aP e
 have XM:∀ b∈fp,oI X pins H3 b/\b < s3.heap.objs.size:=fun b hb=>by
  have hb2:=P9 b hb;obtain⟨f0,f1⟩:=f2 b hb;exact⟨⟨by rw [eH3 b (bc hb2)]; exact f0,f1⟩,bD hb2 (by rw [WR]; exact zi _)⟩
 have YI:(eK X N scope s3.heap.objs.size s3 H3 fp).Ok:=VT I3 rE Cv rD (aF _) XM;have Uc:∀ b o,s3.heap.get? b=some o->pH.get? b=some o:=fun b o e=>by
  have hb:b < s3.heap.objs.size:=aP e;refine PY.extBut b o ?_ (aE _ ?_)
  ·rw [<-GB]; exact bc hb
  ·rw [<-GB]; exact e
 have abh:∃ mm,pH.Ns s3.heap.objs.size mm:=⟨_,by rw [GB]; exact P4⟩;have I4:=Tg (tk:=s3.toks+([]:List (Str×Value)).length) I3 YI rE rD hN hfr abh Uc;have aaU:Kp H2 H3:=by rw [<-XZ]; exact .new xM
 have NV:oy X.K H3 G2:=by rw [<-XZ]; exact(Mv.P8 I.ab xM).ab
 have mv3:Mv X.K H2 G2 H3 G2:=by rw [<-XZ]; exact .P8 I.ab xM
 have YD:RD X.K H3 (aU m none++fr.map fun i=>(σ[i]?).getD none) (AS m fr τ):=by
  refine⟨by unfold AS; rw [ar,ar,ao,ao,ft,ft],fun i d h2=>?_⟩;unfold AS at h2;by_cases hi:i < m
  ·rw [bS (by simpa using hi),my] at h2;split at h2 <;> cases h2
  ·obtain⟨j,rfl⟩:∃ j,i=m+j:=⟨i - m,by lia⟩;rw [bH (by simp),ft,uV,bz] at h2;rw [bH (by simp),ft,uV,bz];cases hj:fr[j]? with
   | none=>rw [hj] at h2; cases h2
   | some k =>
    rw [hj] at h2;have Lv:(τ[k]?).getD none=some d:=by simpa using h2
    have P6:τ[k]?=some (some d):=by
     cases qq:τ[k]? with
     | none=>rw [qq] at Lv; cases Lv
     | some o=>rw [qq] at Lv; simp at Lv; rw [Lv]
    obtain⟨v,e1,e2⟩:=I.st.at' k d P6;exact⟨v,by simp [e1],e2.mono aaU⟩
 have hD3:H3 s2.heap.objs.size=some (.lst []):=by rw [<-XZ,bX]
 have WO:tn 0 pH:=T.keep _ _ _ Rq fun b hb o e=>Uc b o (by rw [GB]; exact aE _ e);have OJ:∀ {Hc:Hp},(∀ b∈fp,Hc b=none)->∀ b∈fp,oI (eK X N scope s3.heap.objs.size s3 H3 fp) [] Hc b:=fun hn b hb =>
  ⟨hn b hb,(YI.Y5 b hb).1,YI.Qq b hb,.inl hb,fun x c e=>(YI.Y5 b hb).2 x c e,fun p hp=>absurd hp (by simp)⟩
 have neD:∀ b∈fp,b≠s2.heap.objs.size:=fun b hb=>bc (P9 b hb);have loop:sd (model X.prog X.w) X.A (.compLoop (.ListComp elt [⟨tg,iter,ifs,0⟩] scope pos) 0 (.ref it) (.ref s2.heap.objs.size) (eK X N scope s3.heap.objs.size s3 H3 fp).env) (Rr (.ref s2.heap.objs.size) s3.heap.objs.size)
   { s3 with heap:=pH,toks:=s3.toks+([]:List (Str×Value)).length }:=by
  refine Er (fun n s'=>∃ i Rp Hc Oo Gc vp xg,I2 (eK X N scope s3.heap.objs.size s3 H3 fp) [] Rp Hc Oo Gc s'/\Gc s2.heap.objs.size=none/\Hc s2.heap.objs.size=some (.lst vp)/\bC X.K Hc vp xg/\xg.length<=i/\Mv X.K H2 G2 Hc Gc/\tn i s'.heap/\(∀ b∈fp,Hc b=none) /\
   n=ds.length - i/\i<=ds.length/\jE g c te ok (ds.drop i) E Oo Gc xg fun xs G3=>gx G3 (.lst xs) Q) ?_ ds.length
   ⟨0,_,H3,_,G2,[],[],⟨I4,YD,NV⟩,VI,hD3,.nil,aF _,mv3,WO,fun b hb=>by rw [eH3 b (neD b hb)]; exact(f2 b hb).1,rfl,cq _,q⟩
  rintro n s4 ⟨i,Rp,Hc,Oo,Gc,vp,xg,Ic,gD,hD,rA,hA,mc,stc,frc,rfl,hle,wq⟩;have kpc:Kp H2 Hc:=mc.kp I.ab;by_cases xK:i < ds.length
  ·rw [iu xK] at wq;obtain⟨Z9,wq⟩:=wq;obtain⟨go,yl⟩:=(wk i Hc Gc kpc Ic.ab Z9).1 ds[i] (by simp [xK]);refine iy (T.item (eK X N scope s3.heap.objs.size s3 H3 fp) rfl rfl rfl hc i [] s4 Rp Hc (fun _ _=>False) Ic.inv (OJ frc) stc go) ?_;rintro r s5 ⟨u,hr,h5⟩;subst hr;refine iy h5 ?_;rintro _ s6 ⟨x,H6,I6,r6,y6,ZQ,fr6⟩;obtain⟨rd6,m6⟩:=yl x H6 y6;have I6':=I6.pinned (OJ fr6) (T.obj _ _ ZQ);have J6:I2 (eK X N scope s3.heap.objs.size s3 H3 fp) ([]++sU fp s6.heap) Rp H6 Oo Gc s6:=⟨I6',Ic.st.mono (m6.kp Ic.ab),m6.ab⟩;have back:∀ {ZF:L2.St} {H9:Hp} {Yy:iX} {G9:Gp} {s9:az} {aV:List V} {aD:List D},I2 (eK X N scope s3.heap.objs.size s3 H3 fp) ([]++sU fp s6.heap) ZF H9 Yy G9 s9->Mv X.K H2 G2 H9 G9->G9 s2.heap.objs.size=none->H9 s2.heap.objs.size=some (.lst aV)->bC X.K H9 aV aD->aD.length<=i+1 ->
     (jE g c te ok (ds.drop (i+1)) E Yy G9 aD fun xs G3=>gx G3 (.lst xs) Q)->∃ mm,mm < ds.length - i/\∃ i Rp Hc Oo Gc vp xg,I2 (eK X N scope s3.heap.objs.size s3 H3 fp) [] Rp Hc Oo Gc s9/\Gc s2.heap.objs.size=none/\Hc s2.heap.objs.size=some (.lst vp)/\bC X.K Hc vp xg/\xg.length<=i /\
      Mv X.K H2 G2 Hc Gc/\tn i s9.heap/\(∀ b∈fp,Hc b=none)/\mm=ds.length - i/\i<=ds.length/\jE g c te ok (ds.drop i) E Oo Gc xg fun xs G3=>gx G3 (.lst xs) Q:=fun {ZF H9 Yy G9 s9 aV aD} I9 m9 g9 h9 r9 l9 n9=>by
    refine⟨ds.length - (i+1),by lia,i+1,ZF,H9,Yy,G9,aV,aD,⟨I9.inv.vM,I9.st,I9.ab⟩,g9,h9,r9,l9,m9,T.keep _ _ _ ZQ fun b hb o e=>(I9.inv.pin (b,o) (cC _ (cC _ (qK hb e)))).1,fun b hb=>?_,rfl,xK,n9⟩;obtain⟨o,e,d⟩:=T.obj _ _ ZQ b hb;exact(I9.inv.pin (b,o) (cC _ (cC _ (qK hb e)))).2.1
   have mc6:=mc.trans m6;have hD6:=m6.keep _ _ hD gD;refine iy (hg _ _ _ _ E _ s6 Rp H6 Oo Gc x ds[i] u _ (Lk.none hE0) J6 r6 rd6 wq) ?_;rintro _ s7 ⟨NL,H7,NK,G7,I7,m7,q7⟩;have Y3:=m7.keep _ _ hD6.1 gD;have mc7:=mc6.trans m7;have rA7:=rA.mono ((m6.trans m7).kp Ic.ab);have X7:∀ (H8:Hp) (G8:Gp) (s8:az),I2 (eK X N scope s3.heap.objs.size s3 H3 fp) ([]++sU fp s6.heap) NL H8 NK G8 s8->Mv X.K H7 G7 H8 G8->(te E NK G8 fun y G9=>jE g c te ok (ds.drop (i+1)) E NK G9 (xg++[y]) fun xs G3=>gx G3 (.lst xs) Q) ->
     wpAny (model X.prog X.w) X.A (eval elt (eK X N scope s3.heap.objs.size s3 H3 fp).env) (fun y Ma=>wpAny (model X.prog X.w) X.A (call (.builtin "list.append") [.ref s2.heap.objs.size,y]) (fun _ OE=>∃ mm,mm < ds.length - i/\∃ i Rp Hc Oo Gc vp xg,I2 (eK X N scope s3.heap.objs.size s3 H3 fp) [] Rp Hc Oo Gc OE/\Gc s2.heap.objs.size=none/\Hc s2.heap.objs.size=some (.lst vp)/\bC X.K Hc vp xg/\xg.length<=i /\
      Mv X.K H2 G2 Hc Gc/\tn i OE.heap/\(∀ b∈fp,Hc b=none)/\mm=ds.length - i/\i<=ds.length/\jE g c te ok (ds.drop i) E Oo Gc xg fun xs G3=>gx G3 (.lst xs) Q) (fun _ _=>False) Ma) (fun _ _=>False) s8:=fun H8 G8 s8 I8 m8 q8=>by
    refine kj (he _ _ _ _) (Lk.none hE0) I8 q8 fun v H9 d9 G9 u9 s9 I9 m9 r9 rd9 q9=>?_;have m79:=m8.trans m9;have Y2:=m79.keep _ _ Y3.1 Y3.2;have rA9:=rA7.mono (m79.kp I7.ab);have mc9:=mc7.trans m79;refine iy (Cg (X:=eK X N scope s3.heap.objs.size s3 H3 fp) _ s9 NL H9 (.ref s2.heap.objs.size) [v] _ [u9] (fun _ H'=>H'=upd H9 s2.heap.objs.size (.lst (vp++[v]))) I9.inv rfl (.cons r9 .nil)
     ⟨_,vp,v,rfl,rfl,Y2.1,by rw [rA.length,sz]; have:SZ=16777216:=rfl; lia,rfl⟩) ?_
    rintro _ s10 ⟨v10,H10,I10,_,e10⟩;subst e10;have kpA:Kp H9 (upd H9 s2.heap.objs.size (.lst (vp++[v]))):=.putL Y2.1;have abA:oy X.K (upd H9 s2.heap.objs.size (.lst (vp++[v]))) G9:=fun a g' e=>by
     have ne:a≠s2.heap.objs.size:=by rintro rfl; rw [Y2.2] at e; cases e
     exact(I9.ab a g' e).mono kpA (bK ne)
    have mA:Mv X.K H2 G2 (upd H9 s2.heap.objs.size (.lst (vp++[v]))) G9:=⟨fun a o e n=>by
      have ne:a≠s2.heap.objs.size:=fj e xM;obtain⟨e1,e2⟩:=mc9.keep a o e n;exact⟨by rw [bK ne]; exact e1,e2⟩,fun a n=>by
      by_cases ha:a=s2.heap.objs.size
      ·rw [ha,bX]; simp
      ·rw [bK ha]; exact mc9.mF a n,abA⟩
    exact back ⟨I10,I9.st.mono kpA,abA⟩ mA Y2.2 bX ((rA9.append (.cons rd9 .nil)).mono kpA) (by rw [ar,cW]; lia) q9
   cases hi s3.heap.objs.size s3 H3 fp with
   | none =>
    refine wpAny_tests_nil ?_;rw [if_pos rfl];exact X7 H7 G7 s7 I7 (.refl I7.ab) q7
   | some XT =>
    refine wpAny_tests_one (OD XT (Lk.none hE0) I7 q7 fun k H8 G8 s8 I8 m8 q8=>?_);cases k with
    | true =>
     rw [if_pos rfl] at q8 ⊢;exact X7 H8 G8 s8 I8 m8 q8
    | false =>
     rw [if_neg rP] at q8 ⊢;have hD8:=m8.keep _ _ Y3.1 Y3.2;exact back I8 (mc7.trans m8) hD8.2 hD8.1 (rA7.mono (m8.kp I7.ab)) (by lia) q8
  ·have hn:ds.length<=i:=by lia
   rw [mR hn] at wq;obtain⟨Z9,qn⟩:=wq;have stop:=(wk i Hc Gc kpc Ic.ab Z9).2 hn;refine iy (T.done (eK X N scope s3.heap.objs.size s3 H3 fp) rfl rfl rfl hc i [] s4 Rp Hc (fun _ _=>False) Ic.inv (OJ frc) stc stop) ?_;rintro r s5 ⟨hr,I5⟩;subst hr;refine fin s3.heap.objs.size s5 ?_;obtain⟨mm,abi,_⟩:=I5.loc;have hC5:Hc s3.heap.objs.size=none:=I5.free;have I6:Inv X pins σ Hc s5:=by
    obtain⟨h5,g5,d5,t5,o5⟩:=s5;have eo:o5=s3.os:=I5.os;subst eo;exact I3.call (h':=h5) (g':=g5) (d':=d5) (t':=t5) (ch:=fp) I5.base I5.cN I5.bare fun b hb=>by
     obtain⟨⟨f0,f1,f2',f3,f4,f5⟩,hl⟩:=XM b hb;exact⟨f3,f1,f4,f5⟩
   have mvF:Mv X.K H2 G2 Hc (c7 Gc s2.heap.objs.size (.lst xg)):=⟨fun a o e n=>by
     have ne:a≠s2.heap.objs.size:=fj e xM;obtain⟨e1,e2⟩:=mc.keep a o e n;exact⟨e1,by rw [c6 ne]; exact e2⟩,mc.mF,fun a g' e=>by
     by_cases ha:a=s2.heap.objs.size
     ·subst ha;rw [aA] at e;cases e;exact⟨vp,hD,rA⟩
     ·rw [c6 ha] at e;exact Ic.ab a g' e⟩
   exact⟨mm,Hc,_,I6,abi,I3.D6 (aF _) hC5,m2.trans mvF,qn _ gD⟩
 have all:sd (model X.prog X.w) X.A (.compStart (.ListComp elt [⟨tg,iter,ifs,0⟩] scope pos) 0 (.ref it) (.ref s2.heap.objs.size) (eK X N scope s3.heap.objs.size s3 H3 fp).env) (Rr (.ref s2.heap.objs.size) s3.heap.objs.size)
   { s3 with heap:=pH,toks:=s3.toks+([]:List (Str×Value)).length }:=codeAny_compStart_list loop (T.self _ 0 _ _ _ WO loop)
 subst Xw;exact all
end
end K2
end
section
namespace K2
open PySem PySem.Spec PyProof.Rows L2
section
variable {X:Cx} {N:List Str} {scope:Scope} {tg elt iter:Expr} {ifs:List Expr} {pos:Pos} {m:Nat} {fr:List Nat} {wi:NW} {g:BQ} {c:Option yv} {te:gG}
structure Be(X:Cx)(N:List Str)(scope:Scope)(m:Nat)(fr:List Nat):Prop where
 cell:∀ y∈scope.names,y.2≠.cell
 kind:scope.kind=.function
 names:∀ y∈scope.names,y.2=.local->scope.names.lookup y.1=some .local
 free:∀ y∈scope.names,y.2=.free->X.env.kindOf y.1=some .cell
 len:N.length=m+fr.length
 at':∀ j i x,fr[j]?=some i->N[m+j]?=some x->X.N[i]?=some x/\X.env.scope.names.lookup x=some .cell/\(Im scope X.env).names.lookup x=some .cell
theorem Be.closed{X:Cx}{N:List Str}{scope:Scope}{m:Nat}{fr:List Nat}(k:Be X N scope m fr){pins:List (Addr×Obj)}{σ:L2.St}{H:Hp}{s:az}(I:Inv X pins σ H s):closureFor scope X.env=pure (gI X.env scope.names []) :=
 BO fun y hy hf=>I.ok.has _ (.inl (k.free y hy hf))
theorem Mt(hc:X.calm=true)(k:Be X N scope m fr)(hi:NY X tg iter wi)(hg:∀ C s H fp,N0 (eK X N scope C s H fp) tg g)(Vx:∀ C s H fp,V9 (eK X N scope C s H fp) ifs c)(he:∀ C s H fp,gW (eK X N scope C s H fp) elt te)
  (hs:autoParam (∀ x,pq iter X.env x=pure x) Ai._auto_1):gW X (.ListComp elt [⟨tg,iter,ifs,0⟩] scope pos) (gO m fr wi g c te):=by
 intro E pins s σ H τ G Q hE I h;rw [eval_ListComp];refine wpAny_comprehension_free (use:=none) rfl hs (k.closed I.inv) k.kind k.names (iy (hi E pins s σ H τ G _ hE I h) fun xv fM pH=>iy pH fun T8 kQ Au=>?_);obtain⟨it,fp,tn,J,H2,G2,ds,ok,e,qm,m2,T,Rq,f2,wk,hz,q⟩:=Au;subst e;refine CM (Rr:=fun acc C=>compPost (model X.prog X.w) X.A X.xe none (tH X pins σ H G Q) acc C) hc k.cell k.kind k.free k.len k.at' hg Vx he (I.mv qm m2) m2 T Rq f2 wk hz (fun _ _ z=>z) q ?_;rintro C s' ⟨mm,H',G',I',Ry,fpC,mv,q'⟩;refine⟨mm,Ry,fun h' Wn=>?_⟩;obtain⟨f0,f1,_,f3,f4,f5⟩:=fpC;exact⟨.ref _,H',.ref _,G',I'.turned (t':=s'.toks) (fun b o hb e=>Wn.extBut b o hb e) f0 f1 f3 f4 f5,mv,rfl,.ref _,q'⟩
theorem FK{i:Nat}{y:Str}{py OM:Pos}(hN:X.N.Nodup)(hyi:X.N[i]?=some y)(hy:X.env.scope.names.lookup y=some .local)(hc:X.calm=true)(k:Be X N scope m fr)(hi:NY X tg iter wi)(hg:∀ C s H fp,N0 (eK X N scope C s H fp) tg g)
  (Vx:∀ C s H fp,V9 (eK X N scope C s H fp) ifs c) (he:∀ C s H fp,gW (eK X N scope C s H fp) elt te) (hsw:autoParam (N8 (.ListComp elt [⟨tg,iter,ifs,0⟩] scope pos) (some (.Name y py)) OM.line X.env=pure true) Ar._auto_1)
  (hs:autoParam (∀ x,pq iter X.env x=pure x) Ai._auto_1):Kg X (.Assign [.Name y py] (.ListComp elt [⟨tg,iter,ifs,0⟩] scope pos) OM) (bq (gO m fr wi g c te) (aC i)):=by
 intro E pins s σ H τ G D hE I h;rw [exec_Assign_Name_used _ _ _ _ hsw];refine af (wpAny_standAt (af ?_));show wpAny _ X.A (do let _ ← comprehension (.ListComp elt [⟨tg,iter,ifs,0⟩] scope pos) scope X.env _ (newList []) false (eval iter X.env) (some (Od (.Name y py) X.env))) _ _ s;refine af (iy (wpAny_comprehension_free (use:=some (Od (.Name y py) X.env)) (Q:=fun _ s'=>V6 X pins H G D .next s') rfl hs (k.closed I.inv) k.kind k.names (iy (hi E pins s σ H τ G _ hE I h) fun xv fM pH=>iy pH fun T8 kQ Au=>?_)) fun _ s' hq=>aw (aw hq));obtain⟨it,fp,tn,J,H2,G2,ds,ok,e,qm,m2,T,Rq,f2,wk,hz,q⟩:=Au;subst e;refine CM (Rr:=fun acc C=>compPost (model X.prog X.w) X.A X.xe (some (Od (.Name y py) X.env)) (fun _ s'=>V6 X pins H G D .next s') acc C) hc k.cell k.kind k.free k.len k.at' hg Vx he (I.mv qm m2) m2 T Rq f2 wk hz (fun _ _ z=>z) q ?_;rintro C s' ⟨mm,H',G',I',Ry,fpC,mv,q'⟩;show wpAny (model X.prog X.w) X.A (Od (.Name y py) X.env (.ref kQ.heap.objs.size)) _ X.xe s';obtain⟨f0,f1,_,f3,f4,f5⟩:=fpC;refine wpAny_assign_Name (B4 (v:=.ref kQ.heap.objs.size) I' hN hyi (.inl hy) rfl (?_) (.inr hy));rintro s3 I3 ⟨a,Xv,ha⟩;have hCa:C≠a:=by
  rcases ha with rfl | ha
  ·exact f1
  ·exact fun e=>f4 y a ha e.symm
 refine⟨mm,Ry.sameBut Xv hCa,fun h' Wn=>?_⟩;exact⟨_,H',_,G',⟨I3.turned (t':=s3.toks) (fun b o hb e=>Wn.extBut b o hb e) f0 f1 f3 f4 f5,(I.st.mono (mv.kp I.ab)).set i (.ref _),mv.ab⟩,mv,q'⟩
theorem cT{i:Nat}{u:EC}{n:Nat}(h:∀ E ds τ G Q,u E ds τ G Q->ds.length=n):∀ E ds τ G Q,eA (aC i) u E ds τ G Q->ds.length=n+1 :=
 M4 h (fun _ _ _ _ _ _ q k=>k _ _ q) fun _ _ _ _ q=>q
theorem bw (i:Nat) {x:Str} {pos:Pos} (hN:autoParam (X.N[i]?=some x) Ar._auto_1) (hv:autoParam (Y7 X.env.scope x) Ao._auto_1) (hd:autoParam ((x == ("__debug__" : Str))=false) Ad._auto_1)
  (Ls:autoParam ((x == ("__classdict__" : Str))=false) Ad._auto_1):gW X (.Name x pos) (au i):=Si hN hv hd Ls
theorem Jp{pins:List (Addr×Obj)}{s:az}{σ:L2.St}{H:Hp}{G:Gp}{x:V}{d:D}{v:Value}{zs:List D}(I:Inv X pins σ H s)(ab:oy X.K H G)(rx:RelV x v)(rd:cK X.K H x d)(hi:itemsOf d G=some zs) :
  ∃ l vs bM,v=.ref l/\Vals vs bM/\bC X.K H vs zs/\(s.heap.IsList l bM.toArray\/s.heap.IsTuple l bM.toArray)/\vs.length<=bu:=by
 cases rd with
 | ez hq rs =>
  cases hi;cases rx;obtain⟨bM,rv,pl,hz⟩:=I.list hq.sq;exact⟨_,_,bM,rfl,rv,rs,.inl pl.isList,hz⟩
 | tup hq rs =>
  cases hi;cases rx;obtain⟨bM,rv,pl,hz⟩:=I.tuple (.of hq);exact⟨_,_,bM,rfl,rv,rs,.inr pl,hz⟩
 | ref l =>
  unfold itemsOf at hi;dsimp only at hi;cases hg:G l with
  | none=>rw [hg] at hi; cases hi
  | some gg =>
   rw [hg] at hi;cases gg with
   | lst ds =>
    cases hi;cases rx;obtain⟨vs,hv,rs⟩:=ab.lst hg;obtain⟨bM,rv,pl,hz⟩:=I.list (.of hv);exact⟨_,_,bM,rfl,rv,rs,.inl pl.isList,hz⟩
   | dI _=>cases hi
 | _=>cases hi
theorem U1{body:List Stmt}{t2:ie}(h:A5 X body t2){E:mO}(hE:Lk X E):Wz X body (fun D σ H=>∃ (τ:iX) (G:Gp) (D2:mP),RD X.K H σ τ/\oy X.K H G/\t2 E D2 τ G /\
  (∀ kb H' rQ G',Mv X.K H G H' G'->D2.nx rQ G'->D.nx kb H')/\(∀ v H' d G',Mv X.K H G H' G'->cK X.K H' v d->D2.rt d G'->D.rt v H')/\(∀ τ G,¬ D2.bk τ G)/\(∀ τ G,¬ D2.ct τ G)):=by
 rintro pins s σ H D I ⟨τ,G,D2,st,ab,q,k1,k2,k3,k4⟩;refine iy (h E pins s σ H τ G D2 hE ⟨I,st,ab⟩ q) fun f s1 z=>?_;cases f with
 | next=>obtain⟨kb,H',rQ,G',J,mv,z⟩:=z; exact⟨kb,H',J.inv,k1 kb H' rQ G' mv z⟩
 | brk=>obtain⟨kb,H',rQ,G',J,mv,z⟩:=z; exact(k3 _ _ z).elim
 | cont=>obtain⟨kb,H',rQ,G',J,mv,z⟩:=z; exact(k4 _ _ z).elim
 | ret u=>obtain⟨v,kb,H',d,G',J,mv,r,rd,z⟩:=z; exact⟨v,kb,H',J,r,k2 v H' d G' mv rd z⟩
theorem OK{K:aq}{H:Hp}{Nn:List Str}{vs:List V}{ds:List D}(r:bC K H vs ds):RD K H (L2.start Nn vs) (bb Nn.length ds):=by
 unfold L2.start bb;refine⟨by simp [r.length],fun i d h=>?_⟩;by_cases hi:i < ds.length
 ·rw [bS (by simpa using hi),bz] at h;cases hd:ds[i]? with
  | none=>rw [hd] at h; cases h
  | some d' =>
   rw [hd] at h;have e:d'=d:=by simpa using h
   subst e;obtain⟨v,h1,h2⟩:=r.get hd;refine⟨v,?_,h2⟩;rw [bS (by simpa [r.length] using hi),bz,h1]; rfl
 ·rw [bH (by simpa using hi),my] at h;split at h <;> cases h
theorem Ly{P:bG}{w:World}{K:aq}{mg:Str->Option Value}{base:Heap}{x qual:Str}{st:Stmt}{f:Addr}{fd:aH}{Nn ps:List Str}{k:Nat}{sp:kN}{rd:ie}(F:nB K x qual st f fd)(S:bU Nn ps (a0 st))(len:∀ ds G Q E,sp ds G Q E->ds.length=ps.length)
  (hr:∀ ds G Q,sp ds G Q (fun _ _=>False)->rd (fun _ _=>False) (ends Q) (bb Nn.length ds) G)
  (hb:∀ (qk:Value) (A:du) (outer:List Env) (s:az) (H:Hp) (E:XK),nv k (A.deeper (EZ qual (a0 st) s.heap.objs.size f qk))->A5 (Hm gu P w K mg base Nn qual (a0 st) f qk A outer s H E).Wh (kJ st) rd):fK P w K mg base gu (k+1) f fd ps (cD K sp):=by
 refine F.ok S ((by rintro vs H Q E ⟨ds,G,Q2,r,ab,q,_⟩; exact by rw [r.length]; exact len _ _ _ _ q)) ?_;rintro qk A outer s H vs Q E Xx ⟨ds,G,Q2,r,ab,q,kk⟩;refine⟨_,U1 (hb qk A outer s H E Xx) (E:=fun _ _=>False) (Lk.none fun _ _ z=>z),?_⟩;exact⟨bb Nn.length ds,G,ends Q2,OK r,ab,hr ds G Q2 q,fun kb H' rQ G' mv z=>kk _ _ _ _ z mv .fh,fun v H' d G' mv ZW z=>kk _ _ _ _ z mv ZW,fun _ _ z=>z,fun _ _ z=>z⟩
section
variable {prog:bG} {w:World} {A:du} {R:Result->az->Prop} {Zb:Addr} {fq wr:List Addr} {n:Nat} {P:Nat->Value->Prop} {Sx:Nat->Heap->Prop}
theorem Vg(W:Walks prog w A.in1 Zb fq wr n P Sx)(bt:Nat->Nat->Bool)(T:Heap->Prop)(B:Addr)(hB:B∉fq)(hT:∀ h h',T h->(∀ b o,b∉wr->b≠B->h.get? b=some o->h'.get? b=some o)->T h')
  (cmp:∀ i j x y s (Q:Value->az->Prop) (E:Value->az->Prop),T s.heap->P i x->P j y->Q (.bool (bt i j)) s->wpAny (model prog w) A.in1 (rZ .Lt x y) Q E s) :
  ∀ (k j:Nat) (s:az) (best:Value) (cc:Nat),n - (j+1)=k->j+1<=n->Sx (j+1) s.heap->T s.heap->P (se bt j) best ->
  s.heap.get? B=some { cls:=.type "list",dict:=none,data:=.seq #[best,best] cc,slots:=#[] } ->
  (∀ v h' tk,P (se bt (n - 1)) v->(∀ b o,b∉wr->b≠B->s.heap.get? b=some o->h'.get? b=some o)->R (.ok (.ret v)) { s with heap:=h',toks:=tk }) ->
  sd (model prog w) A (.builtin "min.loop" ⟨[.ref Zb,.none,.ref B],[]⟩) R s:=by
 have hBw:B∉wr:=fun z=>hB (W.sub _ z);have nm:(toString "min"++toString ".loop" : String) = "min.loop":=by decide
 intro k;induction k with
 | zero =>
  intro j s best cc hk hj hs ht hp hb hR;have ej:j+1=n:=by lia
  refine fH Iz ?_; rw [dH jB _];show wpAny _ A.in1 (seqItems? (.ref B) >>= _) _ _ s; refine af (jR hb rfl ?_);show wpAny _ A.in1 (tryCatch (kS (.ref Zb)) _ >>= _) _ _ s; refine af (uU (W.done s _ _ (ej ▸ hs) fun h' tk kept=>?_));have D0:=kept B _ hBw hb;show wpAny _ A.in1 (updateSeq B (fun _=>#[]) >>= _) _ _ _; refine af ?_;refine y8 D0 rfl (af (CY (aw ?_)));exact hR best _ tk (by rw [<-ej]; exact hp) fun b o z1 z2 e=>(dc _ _ (dW z2)).trans (kept b o z1 e)
 | succ k ih =>
  intro j s best cc hk hj hs ht hp hb hR;have lt:j+1 < n:=by lia
  refine fH Iz ?_; rw [dH jB _];show wpAny _ A.in1 (seqItems? (.ref B) >>= _) _ _ s; refine af (jR hb rfl ?_);show wpAny _ A.in1 (tryCatch (kS (.ref Zb)) _ >>= _) _ _ s; refine af (uU (W.item (j+1) s _ _ lt hs fun v h' tk pv Bq kept=>?_));have D0:=kept B _ hBw hb;have SR:T h':=hT _ _ ht fun b o z1 _ e=>kept b o z1 e;show wpAny _ A.in1 (tryCatch (Io [v,v] (rZ .Lt v best >>= _)) _ >>= _) _ _ _;refine af (uU (cP (af (cmp (j+1) (se bt j) v best _ _ _ SR pv hp ?_)))); refine af (cP (vE ?_)); refine af (CY (aw ?_));cases hbt:bt (j+1) (se bt j) with
  | true =>
   simp only [if_true]; refine af ?_;refine y8 D0 rfl (af (CY ?_)); rw [nm];refine aw ⟨iF jB _,ih (j+1) _ v _ (by lia) lt (W.frame _ _ _ Bq fun b z o e=>?_) (hT _ _ SR fun b o _ z2 e=>?_) (by simp only [se,hbt,if_true]; exact pv) (jV _ D0 rfl) fun v' X2 OC W0 kk=>?_⟩
   ·exact(dc _ _ (fun z':B=b=>hB (by rw [z']; exact z))).trans e
   ·exact(dc _ _ (dW z2)).trans e
   ·exact hR v' X2 OC W0 fun b o z1 z2 e=>kk b o z1 z2 ((dc _ _ (dW z2)).trans (kept b o z1 e))
  | false =>
   simp only [aJ,if_false]; refine af (CY ?_); rw [nm];refine aw ⟨iF jB _,ih (j+1) _ best cc (by lia) lt Bq SR (by simp only [se,hbt,aJ,if_false]; exact hp) D0 fun v' X2 OC W0 kk=>?_⟩;exact hR v' X2 OC W0 fun b o z1 z2 e=>kk b o z1 z2 (kept b o z1 e)
end
theorem Ge{prog:bG}{w:World}{A:du}{E:Value->az->Prop}{s:az}{x:Value}{Q:Value->az->Prop}
  (h:wpAny (model prog w) A.in1 (BX x) (fun it kQ=>∃ (I:Addr) (fq wr:List Addr) (n:Nat) (P:Nat->Value->Prop) (Sx:Nat->Heap->Prop) (bt:Nat->Nat->Bool) (T:Heap->Prop),it=.ref I/\Walks prog w A.in1 I fq wr n P Sx/\Sx 0 kQ.heap/\(∀ b∈fq,b < kQ.heap.objs.size)/\0 < n/\T kQ.heap/\(∀ (h h':Heap) (B:Addr),kQ.heap.objs.size<=B->T h->(∀ b o,b∉wr->b≠B->h.get? b=some o->h'.get? b=some o)->T h') /\
   (∀ i j x y s (Q:Value->az->Prop) (E:Value->az->Prop),T s.heap->P i x->P j y->Q (.bool (bt i j)) s->wpAny (model prog w) A.in1 (rZ .Lt x y) Q E s) /\
   ∀ v h' tk,P (se bt (n - 1)) v->(∀ b o,b∉wr->kQ.heap.get? b=some o->h'.get? b=some o)->Q v { kQ with heap:=h',toks:=tk }) E s) :
  wpAny (model prog w) A (call (.builtin "min") [x]) Q E s:=by
 have nm:(toString "min"++toString ".loop" : String) = "min.loop":=by decide
 refine call_function_tree F.kind_min F.plain_min F.entry_min (F.args_min1 _) ?_;show wpAny _ A.in1 (xm "min" ["key","default"] 0 ⟨[],[]⟩ >>= _) _ _ s; refine af (CW (show xm "min" ["key","default"] 0 ⟨[],[]⟩=pure [none,none] from rfl) ?_);refine af (aw ?_); refine af (Ij h (fun it kQ Au=>?_) fun _ _ e=>e);obtain⟨I,fq,wr,n,P,Sx,bt,T,rfl,W,JA,XO,hn,ht,hT,cmp,hQ⟩:=Au;refine af (dw ?_);have Wt:kQ.heap.objs.size∉fq:=fun z=>i6 _ (XO _ z);have Y1:kQ.heap.objs.size∉wr:=fun z=>Wt (W.sub _ z);rw [nm];generalize hh:kQ.heap.push { cls:=.type "list",data:=.seq ([]:List Value).toArray } = hp;have hb:hp.get? kQ.heap.objs.size=some { cls:=.type "list",dict:=none,data:=.seq #[] 0,slots:=#[] }:=by rw [<-hh]; exact bh _ rfl
 have old:∀ b o,kQ.heap.get? b=some o->hp.get? b=some o:=fun b o e=>by rw [<-hh]; exact aE _ e
 have st0:Sx 0 hp:=W.frame _ _ _ JA fun b _ o e=>old b o e;have ht0:T hp:=hT _ _ _ (aF _) ht fun b o _ _ e=>old b o e;refine aw ⟨iF jB _,?_⟩;refine fH Iz ?_; rw [dH jB _];show wpAny _ A.in1 (seqItems? (.ref kQ.heap.objs.size) >>= _) _ _ _; refine af (jR hb rfl ?_);show wpAny _ A.in1 (tryCatch (kS (.ref I)) _ >>= _) _ _ _; refine af (uU (W.item 0 _ _ _ hn st0 fun v h' tk pv Bq kept=>?_));have D0:=kept _ _ Y1 hb;show wpAny _ A.in1 (updateSeq kQ.heap.objs.size (fun _=>#[v,v]) >>= _) _ _ _; refine af ?_;refine y8 D0 rfl ?_; rw [nm];refine aw ⟨iF jB _,Vg W bt T _ Wt (fun h h'=>hT h h' _ (aF _)) cmp _ 0 _ v _ rfl hn (W.frame _ _ _ Bq fun b z o e=>?_) (hT _ _ _ (aF _) (hT _ _ _ (aF _) ht0 fun b o z1 _ e=>kept b o z1 e) fun b o _ z2 e=>?_) pv (jV _ D0 rfl) fun v' X2 OC W0 kk=>?_⟩
 ·exact(dc _ _ (fun z':kQ.heap.objs.size=b=>Wt (by rw [z']; exact z))).trans e
 ·exact(dc _ _ (dW z2)).trans e
 ·refine hQ v' X2 OC W0 fun b o z1 e=>?_;have nb:b≠kQ.heap.objs.size:=bc (aP e);exact kk b o z1 nb ((dc _ _ (dW nb)).trans (kept b o z1 (old b o e)))
theorem Hv{α:Type}(lt:α->α->Bool)(l:List α)(a:α)(f:Nat->α)(hf:∀ i,i < l.length+1->f i=(a :: l).getD i a) :
  f (se (fun i j=>lt (f i) (f j)) l.length)=l.foldl (fun m x=>if lt x m=true then x else m) a:=by
 have key:∀ k,k<=l.length->f (se (fun i j=>lt (f i) (f j)) k)=(l.take k).foldl (fun m x=>if lt x m=true then x else m) a:=by
  intro k;induction k with
  | zero=>intro _; rw [se,hf 0 (by lia)]; rfl
  | succ k ih =>
   intro hk;have ih':=ih (by lia);rw [List.take_succ_eq_append_getElem (by lia),cF,<-ih'];have e:f (k+1)=l[k]:=by
    rw [hf (k+1) (by lia),a8];simp [show k < l.length by lia]
   show f (if lt (f (k+1)) (f (se _ k))=true then k+1 else se _ k)=(if lt l[k] _=true then l[k] else _);rw [<-e];split <;> rfl
 rw [key l.length (aF _),List.take_length]
theorem Nr (hc : X.calm = true) (hu : X.A.units + 64 < cLine) : rq X (.builtin "min") Tj := by
  intro pins s σ H G xs ds us Q I ab rx rd q;unfold Tj at q;split at q
  · rename_i x
    obtain⟨v, rfl, r⟩ := rd.one;obtain⟨u, rfl, ru⟩ := rx.one;have main : ∀ {α : Type} (zs : List α) (a : α) (enc : α -> D) (lt : α -> α -> Bool) (T : Heap -> Prop), itemsOf x G = some ((a :: zs).map enc) -> T s.heap -> (∀ (h h' : Heap) (B : Addr), s.heap.objs.size ≤ B -> T h -> (∀ b o, b < s.heap.objs.size -> b ≠ B -> h.get? b = some o -> h'.get? b = some o) -> T h') ->
        (∀ y z vy vz uy uz (s' : az) (Q' : Value -> az -> Prop) (E' : Value -> az -> Prop), T s'.heap -> cK X.K H vy (enc y) -> RelV vy uy -> cK X.K H vz (enc z) -> RelV vz uz -> Q' (.bool (lt y z)) s' -> wpAny (model X.prog X.w) X.A.in1 (rZ .Lt uy uz) Q' E' s') ->
        Q (enc (zs.foldl (fun m x => if lt x m = true then x else m) a)) G -> wpAny (model X.prog X.w) X.A (call (.builtin "min") [u]) (tH X pins σ H G Q) X.xe s := by
      intro α zs a enc lt T hi ht hT cmp hq;obtain⟨l, vs, bM, rfl, rv, rs, hl, hz⟩ := Jp I ab ru r hi;have hlen : bM.length = zs.length + 1 := by rw [<-rv.length, rs.length, ao, ai]
      have wM : ∀ {o : Obj}, s.heap.get? l = some o -> l ≠ s.heap.objs.size := fun e => bc (aP e);have at_ : ∀ i uu, bM.toArray[i]? = some uu -> ∃ vv, RelV vv uu ∧ cK X.K H vv (enc ((a :: zs).getD i a)) := fun i uu e => by
        have e' : bM[i]? = some uu := by simpa using e
        have DW : i < bM.length := (List.getElem?_eq_some_iff.mp e').1;have hd : ((a :: zs).map enc)[i]? = some (enc ((a :: zs).getD i a)) := by
          rw [bz, a8];cases h9 : (a :: zs)[i]? with
          | none => rw [List.getElem?_eq_none_iff] at h9; simp at h9; lia
          | some z => rfl
        obtain⟨vv, h1, h2⟩ := rs.get hd;obtain⟨uu', h3, h4⟩ := rv.get h1;rw [e'] at h3;cases h3;exact⟨vv, h4, h2⟩
      have Yh : ∀ i j p9 q9 s' (Q' : Value -> az -> Prop) (E' : Value -> az -> Prop), T s'.heap -> bM.toArray[i]? = some p9 -> bM.toArray[j]? = some q9 -> Q' (.bool (lt ((a :: zs).getD i a) ((a :: zs).getD j a))) s' -> wpAny (model X.prog X.w) X.A.in1 (rZ .Lt p9 q9) Q' E' s' := fun i j p9 q9 s' Q' E' t' h1 h2 h3 => by
        obtain⟨v1, r1, d1⟩ := at_ i p9 h1;obtain⟨v2, r2, d2⟩ := at_ j q9 h2;exact cmp _ _ v1 v2 p9 q9 s' Q' E' t' d1 r1 d2 r2 h3
      have fin : ∀ vv h' tk, bM.toArray[se (fun i j => lt ((a :: zs).getD i a) ((a :: zs).getD j a)) (bM.toArray.size - 1)]? = some vv -> (∀ b o, b ∉ [s.heap.objs.size] -> s.heap.get? b = some o -> h'.get? b = some o) -> tH X pins σ H G Q vv { s with heap := h', toks := tk } := fun vv h' tk e hk => by
        obtain⟨v1, r1, d1⟩ := at_ _ vv e;have es : bM.toArray.size - 1 = zs.length := by rw [aY]; lia
        rw [es, Hv lt zs a (fun i => (a :: zs).getD i a) (fun i _ => rfl)] at d1;exact⟨v1, H, _, G, I.kept fun b o e => hk b o (by simpa using bc (aP e)) e, .refl ab, r1, d1, hq⟩
      have Vs : 0 < bM.toArray.size := by rw [aY]; lia
      have hTp : ∀ (oo : Obj), T (s.heap.push oo) := fun oo => hT _ _ (s.heap.objs.size + 1) (zi _) ht fun b o hb _ e => aE _ e;have hT2 : ∀ (oo : Obj) (h h' : Heap) (B : Addr), (s.heap.push oo).objs.size ≤ B -> T h -> (∀ b o, b ∉ [s.heap.objs.size] -> b ≠ B -> h.get? b = some o -> h'.get? b = some o) -> T h' := fun oo h h' B hB t kk => hT h h' B (by rw [iw] at hB; exact Nat.le_of_succ_le hB) t fun b o hb hn e => kk b o (by simpa using bc hb) hn e;rcases hl with hl | hl
      · refine Ge (vF hl ?_)
        obtain⟨o, ho, DZ, n, hd⟩ := id hl;exact⟨s.heap.objs.size, _, _, _, _, _, _, T, rfl, Walks.list (A := X.A.in1) (show X.A.in1.handled = none from I.ok.hd hc) _ l (wM ho) bM.toArray, ⟨⟨_, bh _ rfl, rfl, rfl⟩, ⟨o, aE _ ho, DZ, n, hd⟩⟩,
          fun b hb => by rcases (by simpa using hb : b = s.heap.objs.size ∨ b = l) with rfl | rfl
                         · rw [iw]; exact kT _
                         · rw [iw]; exact nF (aP ho), Vs, hTp _, hT2 _, Yh, fun vv h' tk e hk => fin vv h' tk e fun b o hb e => hk b o hb (aE _ e)⟩
      · refine Ge (wpAny_pyIter_tuple hl ?_)
        obtain⟨o, ho, DZ, n, hd⟩ := id hl;exact⟨s.heap.objs.size, _, _, _, _, _, _, T, rfl, Walks.tuple (A := X.A.in1) (show X.A.in1.handled = none from I.ok.hd hc) _ l (wM ho) bM.toArray, ⟨⟨_, bh _ rfl, rfl, rfl⟩, ⟨o, aE _ ho, DZ, n, hd⟩⟩,
          fun b hb => by rcases (by simpa using hb : b = s.heap.objs.size ∨ b = l) with rfl | rfl
                         · rw [iw]; exact kT _
                         · rw [iw]; exact nF (aP ho), Vs, hTp _, hT2 _, Yh, fun vv h' tk e hk => fin vv h' tk e fun b o hb e => hk b o hb (aE _ e)⟩
    rcases q with ⟨ns, mm, hi, hm, q⟩ | ⟨YJ, mm, hi, hm, q⟩
    · cases ns with
      | nil => cases hm
      | cons a zs =>
        cases hm;have e : (fun m x : Int => if x < m then x else m) = fun m x => if decide (x < m) = true then x else m := by funext m x; simp
        rw [e] at q;refine main zs a D.int (fun x y => decide (x < y)) (fun _ => True) hi trivial (fun _ _ _ _ _ _ => trivial) (fun y z vy vz uy uz s' Q' E' _ d1 r1 d2 r2 hq => ?_) q;cases d1;cases d2;obtain⟨t1, rfl⟩ := r1;obtain⟨t2, rfl⟩ := r2;exact HT.zL X.A.in1 s' y t1 z t2 X.prog X.w E' Q' hq
    · cases YJ with
      | nil => cases hm
      | cons a zs =>
        cases hm;have el : ∀ xs ys : List Int, HT.lexLt xs ys = K2.lexLt xs ys := by
          intro xs;induction xs with
          | nil => intro ys; cases ys <;> rfl
          | cons x xs ih => intro ys; cases ys with
            | nil => rfl
            | cons y ys => unfold HT.lexLt K2.lexLt; rw [ih]
        refine main zs a tI K2.lexLt (fun h => ∀ b o, b < s.heap.objs.size -> s.heap.get? b = some o -> h.get? b = some o) hi (fun b o _ e => e) (fun h h' B hB t kk b o hb e => kk b o hb (bc (bD hb hB)) (t b o hb e)) (fun y z vy vz uy uz s' Q' E' t' d1 r1 d2 r2 hq => ?_) q;cases d1 with
        | tup h1 YE =>
          cases d2 with
          | tup h2 B9 =>
            cases r1;cases r2;have z1 := YE.ints;have z2 := B9.ints;subst z1 z2;obtain⟨Jv, R1, ⟨o1, ho1, hc1, n1, XS⟩, _⟩ := I.tuple (.of h1);obtain⟨mY, HY, ⟨o2, Cu, xq, n2, hd2⟩, _⟩ := I.tuple (.of h2);have p1 : IsTup s'.heap _ Jv.toArray := ⟨o1, t' _ _ (aP ho1) ho1, hc1, n1, XS⟩;have p2 : IsTup s'.heap _ mY.toArray := ⟨o2, t' _ _ (aP Cu) Cu, xq, n2, hd2⟩;rw [<-el] at hq;have i1 : nG Jv.toArray.toList y := intsAre_of R1;have i2 : nG mY.toArray.toList z := intsAre_of HY;exact(HT.z8 p1 p2 i1 i2 (show X.A.units + 1 < cLine by lia) hq : wpAny (model X.prog X.w) X.A.in1 (fx .Lt _ _) Q' E' s')
  · exact q.elim
noncomputable def ZV(scope sc:Scope):List (Str×uH):=scope.names.map fun (n,k)=>if (k == .free&&sc.kind == .function&&sc.names.lookup n == some .cell) then (n,.cell) else (n,k)
noncomputable def yX(N:List Str)(scope:Scope)(m:Nat)(fr:List Nat)(sc:Scope)(XN:List Str):Bool :=
 scope.names.all (fun y=>decide (y.2≠.cell))&&decide (scope.kind=.function)&&scope.names.all (fun y=>!decide (y.2=.local)||decide (scope.names.lookup y.1=some .local)) &&
 scope.names.all (fun y=>!decide (y.2=.free)||decide (sc.names.lookup y.1=some .cell))&&decide (N.length=m+fr.length) &&
 (c9 fr.length).all (fun j=>match fr[j]?,N[m+j]? with
  | some i,some x=>decide (XN[i]?=some x)&&decide (sc.names.lookup x=some .cell)&&decide ((ZV scope sc).lookup x=some .cell)
  | _,_=>false)
theorem CN{sc:Scope}{XN:List Str}(Xu:X.env.scope=sc)(XW:X.N=XN)(hb:yX N scope m fr sc XN=true):Be X N scope m fr:=by
 subst Xu XW;unfold yX at hb;simp only [aM] at hb;obtain⟨⟨⟨⟨⟨h1,h2⟩,h3⟩,h4⟩,h5⟩,h6⟩:=hb;refine⟨fun y hy=>of_decide_eq_true (List.all_eq_true.mp h1 y hy),of_decide_eq_true h2,fun y hy hl=>?_,fun y hy hl=>?_,of_decide_eq_true h5,fun j i x e1 e2=>?_⟩
 ·have:=List.all_eq_true.mp h3 y hy;simp only [hl,decide_true,dg,NI] at this;exact of_decide_eq_true this
 ·have:=List.all_eq_true.mp h4 y hy;simp only [hl,decide_true,dg,NI] at this;exact of_decide_eq_true this
 ·have hj:j < fr.length:=(List.getElem?_eq_some_iff.mp e1).1;have:=List.all_eq_true.mp h6 j (List.mem_range.mpr hj);rw [e1,e2] at this;simp only [aM] at this;exact⟨of_decide_eq_true this.1.1,of_decide_eq_true this.1.2,of_decide_eq_true this.2⟩
theorem kG(N:List Str){sc:Scope}{XN:List Str}(hi:NY X tg iter wi)(hg:∀ C s H fp,N0 (eK X N scope C s H fp) tg g)(Vx:∀ C s H fp,V9 (eK X N scope C s H fp) ifs c)(he:∀ C s H fp,gW (eK X N scope C s H fp) elt te)
  (Xu:autoParam (X.env.scope=sc) Ar._auto_1) (XW:autoParam (X.N=XN) Ar._auto_1) (hb:autoParam (yX N scope m fr sc XN=true) Ak._auto_1) (hc:autoParam (X.calm=true) Ar._auto_1) (hs:autoParam (∀ x,pq iter X.env x=pure x) Ai._auto_1):gW X (.ListComp elt [⟨tg,iter,ifs,0⟩] scope pos) (gO m fr wi g c te) :=
 Mt hc (CN Xu XW hb) hi hg Vx he hs
theorem O1(N:List Str){sc:Scope}{XN:List Str}{i:Nat}{y:Str}{py OM:Pos}(hN:X.N.Nodup)(hyi:X.N[i]?=some y)(hy:X.env.scope.names.lookup y=some .local)(hi:NY X tg iter wi)(hg:∀ C s H fp,N0 (eK X N scope C s H fp) tg g)
  (Vx:∀ C s H fp,V9 (eK X N scope C s H fp) ifs c) (he:∀ C s H fp,gW (eK X N scope C s H fp) elt te) (Xu:autoParam (X.env.scope=sc) Ar._auto_1) (XW:autoParam (X.N=XN) Ar._auto_1) (hb:autoParam (yX N scope m fr sc XN=true) Ak._auto_1) (hc:autoParam (X.calm=true) Ar._auto_1)
  (hsw:autoParam (N8 (.ListComp elt [⟨tg,iter,ifs,0⟩] scope pos) (some (.Name y py)) OM.line X.env=pure true) Ar._auto_1) (hs:autoParam (∀ x,pq iter X.env x=pure x) Ai._auto_1) :
  Kg X (.Assign [.Name y py] (.ListComp elt [⟨tg,iter,ifs,0⟩] scope pos) OM) (bq (gO m fr wi g c te) (aC i)) :=
 FK hN hyi hy hc (CN Xu XW hb) hi hg Vx he hsw hs
theorem MJ{K:aq}{H:Hp}{a:Addr}{ns:List Int}(hO:TB H)(hS:rH K H a (ns.map V.int))(hl:ns.length<=63):cD K B6 [.ref a] H (fun v _=>v=.bl true) fun _ _ _=>False:=by
 have hF:Wy K H a (ns.map V.int):=by
  rcases hS with (h | ⟨o,h⟩) | h
  ·rcases hO a with z | ⟨o,xs,z⟩
   ·rw [z] at h; cases h
   ·rw [z] at h; cases h
  ·exact .inl ⟨o,h⟩
  ·exact .inr h
 refine⟨[.ez (ns.map D.int)],fun _=>none,fun d _=>d=.bl true,.cons (.ez hF (bC.La ns)) .nil,fun a g e=>(by cases e),⟨ns,rfl,hl,fun _=>rfl,fun _=>rfl⟩,fun d G' v H' e mv r=>?_⟩;subst e;cases r;rfl
theorem PC{l:C0}{q:bG}{loose:List Str}{XP:(Str->Option Value)->Heap->Prop}{YP:World->Heap->Prop}{d:DefRec}{K:Params->aq}{k:Nat}{x:Str}(hn:l.most=some 63)(XR:d.params.defaults=[])(hr:nv k Ip)
  (hY:∀ (w:World) (h:Heap),YP w h->(K w.params).In h)
  (F:∀ (w:World) (mg:Str->Option Value) (fa:Addr) (h:Heap),(K w.params).In h->h.Ns bP mg->mg d.name=some (.ref fa) ->
   ∃ fd:aH,(∀ (s:az) (u:Value),Om s fd ⟨[u],[]⟩ [(x,u)])/\∀ base:Heap,(K w.params).In base->base.Ns bP mg->fK l.prog w (K w.params) mg base gu k fa fd [x] (cD (K w.params) B6)) :
  PySem.W.WalkO q loose XP YP l.row.toRowW d [] (fun f vs=>Kv f vs) :=
 L2.RT (n:=63) (k:=k) (x:=x) (CX:=fun _=>gu) (sp:=fun w=>cD (K w.params) B6) hn (by decide) XR hr hY F (fun _ _ _ _ hl hO hS=>MJ hO hS hl) fun _ _ _ _ _ z=>z
end
end K2
end
section
namespace K2
open PySem PySem.Spec PyProof.Rows L2
noncomputable def Kb:HO->Bool
 | .lst _=>true
 | .dK _=>true
 | .dT _=>true
 | _=>false
noncomputable def nh(h:Heap)(S:Addr->Bool)(H:Hp):Hp:=fun a=>match H a with
 | some u=>if (Kb u&&S a)=true then (match h.get? a with
  | some o=>some (.mC o u)
  | none=>some u) else some u
 | none=>none
section
variable {h:Heap} {S:Addr->Bool} {H:Hp} {a:Addr}
theorem JF(n:∀ u,H a=some u->Kb u=false):nh h S H a=H a:=by
 unfold nh;cases e:H a with
 | none=>rfl
 | some u=>simp only [n u e,KD,aJ,if_false]
theorem wQ(hs:S a=false):nh h S H a=H a:=by
 unfold nh;cases e:H a with
 | none=>rfl
 | some u=>simp only [hs,KG,aJ,if_false]
theorem ub{u:HO}{o:Obj}(hs:S a=true)(e:H a=some u)(hu:Kb u=true)(ho:h.get? a=some o):nh h S H a=some (.mC o u):=by
 unfold nh;simp only [e,hs,hu,Bool.and_self,if_true,ho]
theorem qh(e:H a=none):nh h S H a=none:=by unfold nh; rw [e]
theorem oY{u:HO}(e:H a=some u)(hu:Kb u=false):nh h S H a=some u:=by rw [JF (fun v z=>by rw [e] at z; cases z; exact hu)]; exact e
theorem wR:Kp H (nh h S H):=⟨fun a xs e=>oY e rfl,fun a o u e=>oY e rfl⟩
end
section
variable {X:Cx} {pins:List (Addr×Obj)} {σ:L2.St} {H:Hp} {s:az} {G:Gp}
theorem Inv.freeze(I : Inv X pins σ H s)(S : Addr -> Bool) : Inv X pins σ (nh s.heap S H) s where
  ok := I.ok
  os := I.os
  bare := I.bare
  base := { keep := I.base.keep, slot := I.base.slot, there := I.base.there
            free := fun b o q n hx => qh (I.base.free b o q n hx)
            xy := fun b xs q => oY (I.base.xy b xs q) rfl
            wO := fun b o u q => oY (I.base.wO b o u q) rfl
            xA := fun b ps q => by
              obtain⟨more, e⟩ := I.base.xA b ps q;exact⟨more, oY e rfl⟩ }
  loc := I.loc
  cell := I.cell
  free := qh I.free
  oa := fun x c e => qh (I.oa x c e)
  pin := fun p hp => let ⟨h1, h2, h3⟩ := I.pin p hp; ⟨h1, qh h2, h3⟩
  cN := fun a o q => by
    have st : ∀ u, H a = some u -> ig X.prog X.w (nh s.heap S H) s.heap a u := fun u e =>
      (I.cN a u e).mF (fun b v _ r => r) (fun b r => oY r rfl) (fun b xs r => oY r rfl)
    cases e : H a with
    | none => rw [qh e] at q; cases q
    | some u =>
      by_cases hc : Kb u = true
      · by_cases hs : S a = true
        · obtain⟨ob, ho⟩ := lu (I.cN a _ e)
          rw [ub hs e hc ho] at q;cases q;exact⟨ho, st _ e⟩
        · rw [wQ (by simpa using hs), e] at q
          cases q;exact st _ e
      · rw [oY e (by simpa using hc)] at q
        cases q;exact st _ e
  len := I.len
noncomputable def jK(R:Nat->Bool)(G:Gp):Addr->Bool:=fun a=>R a&&(G a).isSome
theorem CA(I:Inv X pins σ H s)(ab:oy X.K H G)(R:Nat->Bool):Mv X.K H G (nh s.heap (jK R G) H) (BG R G) where
 keep:=fun a o e n=>by
  refine⟨by rw [wQ (by simp [jK,n])]; exact e,?_⟩;unfold BG; split
  ·rfl
  ·exact n
 mF:=fun a n=>by
  cases q:G a with
  | none=>exact absurd q n
  | some g =>
   have t:=(ab a g q).tracked;cases e:H a with
   | none=>exact absurd e t
   | some u =>
    unfold nh;rw [e];dsimp only;split
    ·split <;> simp
    ·simp
 ab:=fun a g e=>by
  unfold BG at e;split at e
  ·cases e
  ·rename_i hr;exact(ab a g e).mono wR (wQ (by simp [jK,hr]))
theorem JE(I:Inv X pins σ H s)(ab:oy X.K H G){R:Nat->Bool}:∀ {d t:D} {v:V},Fz G R d t->cK X.K H v d->cK X.K (nh s.heap (jK R G) H) v t:=by
 intro d t v h;revert v;refine Fz.rec (motive_1:=fun d t _=>∀ {v:V},cK X.K H v d->cK X.K (nh s.heap (jK R G) H) v t)
  (motive_2:=fun ds ts _=>∀ {vs:List V},bC X.K H vs ds->bC X.K (nh s.heap (jK R G) H) vs ts)
  (motive_3:=fun ds ts _=>(∀ {vs:List (Key×V)},mD X.K H vs ds->mD X.K (nh s.heap (jK R G) H) vs ts)/\∀ {vs:List (List Key×V)},oJ X.K H vs ds->oJ X.K (nh s.heap (jK R G) H) vs ts)
  ?_ ?_ ?_ ?_ ?_ ?_ ?_ ?_ ?_ h
 ·intro d v r; exact r.mono wR
 ·intro ds ss _ ih v r;cases r with
  | tup h rs=>exact .tup (wR.tup _ _ h) (ih rs)
 ·intro ds ss _ ih v r;cases r with
  | ez h rs=>exact .ez (wR.UN h) (ih rs)
 ·intro a ds ss g hr _ ih v r;cases r;obtain⟨vs,hv,rs⟩:=ab a _ g;obtain⟨ob,ho⟩:=lu (I.cN a _ hv);exact .ez (.inl ⟨_,ub (by simp [jK,hr,g]) hv rfl ho⟩) (ih rs)
 ·intro a ds ss g hr _ ih v r;cases r;rcases ab a _ g with ⟨kv,hv,rs⟩ | ⟨kv,hv,rs⟩
  ·obtain⟨ob,ho⟩:=lu (I.cN a _ hv);exact .qC (ub (by simp [jK,hr,g]) hv rfl ho) (ih.1 rs)
  ·obtain⟨ob,ho⟩:=lu (I.cN a _ hv);exact .qB (ub (by simp [jK,hr,g]) hv rfl ho) (ih.2 rs)
 ·intro vs r; cases r; exact .nil
 ·intro d s ds ss _ _ i1 i2 vs r;cases r with
  | cons r rs=>exact .cons (i1 r) (i2 rs)
 ·exact⟨fun r=>by cases r; exact .nil,fun r=>by cases r; exact .nil⟩
 ·intro k d s ds ss _ _ i1 i2;exact⟨fun r=>by cases r with | cons r rs=>exact .cons (i1 r) (i2.1 rs),fun r=>by cases r with | cons r rs=>exact .cons (i1 r) (i2.2 rs)⟩
variable {e:Expr} {te:gG} {st:Stmt} {t:ie}
theorem br(he:gW X e te):gW X e (cZ te):=by
 intro E pins s σ H τ G Q hE I h;refine iy (he E pins s σ H τ G _ hE I h) ?_;rintro u s1 ⟨v,H1,d,G1,I1,m,r,rd,R,t,hf,q⟩;exact⟨v,_,t,_,Inv.freeze I1 _,m.trans (CA I1 m.ab R),r,JE I1 m.ab hf rd,q⟩
theorem Dw{i:Nat}(h1:Kg X st t):Kg X st (Np i t):=by
 intro E pins s σ H τ G D hE I h;refine iy (h1 E pins s σ H τ G _ hE I h) fun f s1 z=>?_;cases f with
 | next =>
  obtain⟨kb,H',rQ,G',I',m,q⟩:=z;simp only at q;split at q
  ·rename_i d hd;obtain⟨R,t,hf,q⟩:=q;obtain⟨v,hv,rv⟩:=I'.st.at' i d hd;have a1:=(I'.st.mono (H':=nh s1.heap (jK R G') H') wR).set i (JE I'.inv I'.ab hf rv);have es:kb.set i (some v)=kb:=by
    have hi:i < kb.length:=(List.getElem?_eq_some_iff.mp hv).1;have e2:=(List.getElem?_eq_some_iff.mp hv).2;rw [<-e2]; exact List.set_getElem_self hi
   rw [es] at a1;have m2:=CA I'.inv I'.ab R;exact⟨kb,_,_,_,⟨Inv.freeze I'.inv _,a1,m2.ab⟩,m.trans m2,q⟩
  ·exact q.elim
 | ret v=>exact z
 | brk=>exact z
 | cont=>exact z
end
end K2
end
section
namespace K2
open PySem PySem.Spec PyProof.Rows L2
theorem AZ:eE "len" = some (.builtin "len"):=by decide +kernel
theorem V2:eE "min" = some (.builtin "min"):=by decide +kernel
theorem V1:eE "sum" = some (.builtin "sum"):=by decide +kernel
theorem um:eE "sorted" = some (.builtin "sorted"):=by decide +kernel
theorem To:eE "list" = some (.type "list"):=by decide +kernel
theorem uo:eE "dict" = some (.type "dict"):=by decide +kernel
theorem QV:eE "int" = some (.type "int"):=by decide +kernel
theorem Tq:eE "bool" = some (.type "bool"):=by decide +kernel
section
variable {X:Cx} {a b c e o:Expr} {es:List Expr} {ta tb tc te to:gG} {t:EW} {pos p p2 apos lC:Pos} {x name:Str} {id T:String} {k:Nat} {f:Addr} {fd:aH} {ps:List Str} {sp:kN}
theorem bp(F:fK X.prog X.w X.K X.mg X.base gu k f fd ps (cD X.K sp))(hr:nv k X.A)(hg:Gl X x)(hm:X.mg x=some (.ref f))(hk:kg X.K (.ref f)=true)(hb:Binds X.K fd ps [])
  (ha:Hx X (e :: es) t) (JC:autoParam ((x == ("__debug__" : Str))=false) Ad._auto_1) (he:autoParam (bR (e :: es) X.env=(false,eval e X.env) :: bR es X.env) Ar._auto_1) (JB:autoParam ((mJ pos (bR es X.env)).any (·.1)=false) Ar._auto_1) :
  gW X (.Call (.Name x p) (e :: es) [] pos) (bB sp t):=Pa F hr hg hm hk hb ha JC he JB
end
end K2
end
section
namespace L2
open PySem PySem.Spec PyProof.Rows
section
variable {X:Cx} {pins:List (Addr×Obj)} {σ:St} {H:Hp} {s:az} {h':Heap}
theorem Inv.tK{t':Nat}{fp:List Addr}(I:Inv X pins σ H s)(hf:∀ b∈fp,oI X pins H b)(k:∀ b o,b∉fp->s.heap.get? b=some o->h'.get? b=some o):Inv X pins σ H { s with heap:=h',toks:=t' }:=by
 have nt:∀ b u,H b=some u->b∉fp:=fun b u e z=>by rw [(hf b z).1] at e; cases e
 refine I.step (g':=s.gens) (d':=s.drawn) (ch:=fp) (fun b hb=>?_) (fun b o _ _ hc e _=>k b o hc e) (fun b o _ _ hc e _=>⟨o.slots,k b o hc e⟩) (fun _ _ _ _ n=>n)
  (fun b o hc e=>⟨o,k b o hc e⟩) (fun _ _ e=>e) (fun _ _ _ e=>e) (fun b ps e=>⟨#[],by rw [e]; simp⟩) (fun m hm=>?_) (fun b u e=>?_) I.bare
 ·obtain⟨f0,f1,f2,f3,f4,f5⟩:=hf b hb;exact⟨f3,f1,f4,f5⟩
 ·obtain⟨o,es,ep,ho,r⟩:=hm;exact⟨o,es,ep,k _ _ (fun z=>(hf _ z).2.1 rfl) ho,r⟩
 ·refine(I.cN b u e).mF (fun c v hc r=>k c v ?_ r) (fun _ z=>z) (fun _ _ z=>z);rcases hc with rfl | hc
  ·exact nt _ _ e
  ·exact nt _ _ hc
theorem Inv.yK{t':Nat}{fp:List Addr}{T:Addr}{vs:List V}(I:Inv X pins σ H s)(hf:∀ b∈fp,oI X pins H b)(k:∀ b o,b∉fp->s.heap.get? b=some o->h'.get? b=some o)(hT:s.heap.objs.size<=T)
  (new:ig X.prog X.w (upd H T (.tup vs)) h' T (.tup vs)):Inv X pins σ (upd H T (.tup vs)) { s with heap:=h',toks:=t' }:=by
 have hn:H T=none:=I.cN.fresh hT;have ht:∀ b o,s.heap.get? b=some o->b≠T:=fun b o e z=>by subst z; exact absurd (aP e) (Nat.not_lt.mpr hT)
 have nt:∀ b u,H b=some u->b∉fp:=fun b u e z=>by rw [(hf b z).1] at e; cases e
 have ne:∀ b u,H b=some u->b≠T:=fun b u e=>fj e hn;refine I.step (g':=s.gens) (d':=s.drawn) (ch:=fp) (fun b hb=>?_) (fun b o _ _ hc e _=>k b o hc e) (fun b o _ _ hc e _=>⟨o.slots,k b o hc e⟩) (fun b o _ e n=>by rw [bK (ht b o e)]; exact n)
  (fun b o hc e=>⟨o,k b o hc e⟩) (fun b xs e=>by rw [bK (ne _ _ e)]; exact e) (fun b o u e=>by rw [bK (ne _ _ e)]; exact e) (fun b ps e=>⟨#[],by rw [bK (ne _ _ e),e]; simp⟩) (fun m hm=>?_) (fun b u e=>?_) I.bare
 ·obtain⟨f0,f1,f2,f3,f4,f5⟩:=hf b hb;exact⟨f3,f1,f4,f5⟩
 ·obtain⟨o,es,ep,ho,r⟩:=hm;exact⟨o,es,ep,k _ _ (fun z=>(hf _ z).2.1 rfl) ho,r⟩
 ·by_cases hb:b=T
  ·subst hb; rw [bX] at e; cases e; exact new
  ·rw [bK hb] at e;refine(I.cN b u e).mF (fun c v hc r=>k c v ?_ r) (fun c z=>by rw [bK (ne _ _ z)]; exact z) (fun c xs z=>by rw [bK (ne _ _ z)]; exact z);rcases hc with rfl | hc
   ·exact nt _ _ e
   ·exact nt _ _ hc
theorem oI.upd{b T:Addr}{o:HO}(h:oI X pins H b)(hb:b≠T):oI X pins (L2.upd H T o) b:=by
 obtain⟨f0,r⟩:=h;exact⟨by rw [bK hb]; exact f0,r⟩
end
noncomputable def Ite(K:aq)(a:Addr):It :=
  ⟨fun i H=>∃ xs x,rH K H a xs/\xs[i]?=some x,
   fun i H v H'=>∃ T y,v=.ref T/\H T=none/\H'=upd H T (.tup [.int i,y])/\∀ xs,rH K H a xs->xs[i]?=some y,
   fun i H=>∃ xs,rH K H a xs/\xs.length<=i⟩
theorem L6{P:bG}{w:World}{K:aq}{elts:List Expr}{kk:Nat}{pos:Pos}(a e it:Addr)(wM:e≠it) :
  Turn P w K (.Tuple elts kk pos) (Ite K a) [e,it] e (fun i h=>(∃ old,IsEnum h e it i old)/\h.IsListIter it a i) where
 mem:=by simp
 obj:=fun i h MV b hb=>by
  obtain⟨⟨old,he⟩,hit⟩:=MV;rcases List.mem_cons.mp hb with rfl | hb
  ·exact⟨_,he,fun v z=>by cases z⟩
  ·have e:b=it:=by simpa using hb
   subst e;obtain⟨o,e,c,d⟩:=hit;exact⟨o,e,fun v z=>by rw [d] at z; cases z⟩
 keep:=(by rintro i h h' ⟨⟨old,he⟩,hit⟩ k; exact⟨⟨old,k e (by simp) _ he⟩,hit.at fun o q=>k it (by simp) o q⟩)
 item:=by
  intro X hP hw hK hc i pins s σ H E I hf st hg;obtain⟨⟨old,he⟩,hit⟩:=st;subst hP hw hK;obtain⟨xs,x,hq,hx⟩:=hg;obtain⟨bM,rv,p,hz⟩:=I.list hq;obtain⟨u,hu,ru⟩:=rv.get hx;have VG:H s.heap.objs.size=none:=I.cN.fresh (aF _);have heT:e≠s.heap.objs.size:=bc (aP he);have XH:it≠s.heap.objs.size:=by obtain⟨o,q,_⟩:=hit; exact bc (aP q)
  refine wpAny_pyNext_enum_item he hit p.isList (x:=u) (by simpa using hu) wM fun h' ho abn hT hsz kk=>?_;refine⟨_,rfl,?_⟩;have I1:Inv X pins σ (upd H s.heap.objs.size (.tup [.int i,x])) { s with heap:=h',toks:=s.toks+1 } :=
   I.yK (fp:=[e,it]) hf (fun b o hb q=>kk b o (fun z=>hb (by simp [z])) (fun z=>hb (by simp [z])) q) (aF _)
    ⟨by show 2<=bu; decide,[.int i s.toks,u],.cons ⟨_,rfl⟩ (.cons ru .nil),⟨_,hT,rfl,_,rfl⟩⟩
  refine wpAny_letOwnedTupleGo_enum (s:={ s with heap:=h',toks:=s.toks+1 }) ho fun h2 Vz xp=>?_;have f1:∀ b∈[e,it],oI X pins (upd H s.heap.objs.size (.tup [.int i,x])) b:=fun b hb=>(hf b hb).upd (by
   rcases List.mem_cons.mp hb with rfl | hb
   ·exact heT
   ·rw [List.mem_singleton.mp hb]; exact XH)
  have I2:Inv X pins σ (upd H s.heap.objs.size (.tup [.int i,x])) { s with heap:=h2,toks:=s.toks+1 } :=
   Inv.tK (s:={ s with heap:=h',toks:=s.toks+1 }) (t':=s.toks+1) (fp:=[e,it]) I1 f1 fun b o hb q=>(xp.2 b (fun z=>hb (by simp [z]))).trans q
  refine⟨.ref s.heap.objs.size,_,I2,rfl,⟨_,x,rfl,VG,rfl,fun ys hy=>by rw [I.wA hy hq]; exact hx⟩,⟨⟨u,?_⟩,?_⟩,fun b hb=>(f1 b hb).1⟩
  ·simpa using Vz
  ·exact abn.at fun o q=>(xp.2 it (dW wM)).trans q
 done:=by
  intro X hP hw hK hc i pins s σ H E I hf st hg;obtain⟨⟨old,he⟩,hit⟩:=st;subst hP hw hK;obtain⟨xs,hq,hx⟩:=hg;obtain⟨bM,rv,p,hz⟩:=I.list hq;have hl:=rv.length;refine wpAny_pyNext_enum_end (I.ok.hd hc) he hit p.isList (by simp; lia) fun h' eb=>⟨rfl,?_⟩;exact I.tK (t':=s.toks) (fp:=[e,it]) hf fun b o hb q=>eb b o (fun z=>hb (by simp [z])) q
 self:=(by rintro A i s Q E ⟨⟨old,he⟩,_⟩ h; exact wpAny_pyIter_enum he h)
end L2
namespace K2
open PySem PySem.Spec PyProof.Rows L2
section
variable {X:Cx} {elts:List Expr} {kk:Nat} {Ff:Pos} {a b:Expr} {ta tb:gG} {pos p:Pos}
theorem LB{pins:List (Addr×Obj)}{σ:L2.St}{H H1:Hp}{G G1:Gp}{s1:az}{l:Addr}{vs:List V}{ds:List D}{ok:Gp->Prop}{R:List D->(Gp->Prop)->Gp->Prop}(I1:Inv X pins σ H1 s1)(m:Mv X.K H G H1 G1)(hq:rH X.K H1 l vs)
  (hk:∀ H2 G2,Kp H1 H2->oy X.K H2 G2->ok G2->∃ ws,rH X.K H2 l ws/\bC X.K H2 ws ds) (q:R (og 0 ds) ok G1) :
  wpAny (model X.prog X.w) X.A (call (.type "enumerate") [.ref l]) (fun v s2=>wpAny (model X.prog X.w) X.A (BX v) (Kh X pins σ (.Tuple elts kk Ff) H G R) X.xe s2) X.xe s1:=by
 obtain⟨bM,rv,pl,hz⟩:=I1.list hq;refine call_enumerate_list pl.isList fun h' he hit hsz kp=>?_;refine wpAny_pyIter_enum he ?_;refine⟨_,[s1.heap.objs.size+1,s1.heap.objs.size],_,_,H1,G1,og 0 ds,ok,rfl,I1.kept (t':=s1.toks) kp,m,L6 l _ _ (Nat.succ_ne_self _),⟨⟨_,he⟩,hit⟩,fun b hb=>?_,fun i H2 G2 k ab o=>?_,q⟩
 ·have D0:s1.heap.objs.size<=b:=by
   rcases List.mem_cons.mp hb with rfl | hb
   ·lia
   ·rw [List.mem_singleton.mp hb]; exact aF _
  exact I1.D6 D0 (I1.cN.fresh D0)
 ·obtain⟨ws,hw,rd⟩:=hk H2 G2 k ab o;refine⟨fun d hd=>?_,fun hl=>⟨ws,hw,by rw [rd.length,<-CG ds 0]; exact hl⟩⟩;rw [CH] at hd;cases hdi:ds[i]? with
  | none=>rw [hdi] at hd; cases hd
  | some d' =>
   rw [hdi] at hd;obtain⟨v,hv,r⟩:=rd.get hdi;refine⟨⟨ws,v,hw,hv⟩,?_⟩;rintro x H3 ⟨T,y,ex,hT,e3,hy⟩;subst ex e3;have:=hy ws hw;rw [hv] at this;cases this;have ed:D.tup [.int ((0+i:Nat):Int),d']=d:=by simpa using hd
   subst ed;refine⟨.tup bX (.cons (by rw [oB]; exact .int _) (.cons (r.mono (.new hT)) .nil)),.P8 ab hT⟩
theorem Ew:eE "enumerate" = some (.type "enumerate"):=by decide +kernel
theorem QU:eE "zip" = some (.type "zip"):=by decide +kernel
theorem O6 (hg:Gl X "enumerate") (hm:X.mg "enumerate" = none) (ha:gW X a ta) (hs:autoParam (bR [a] X.env=[(false,eval a X.env)]) Ar._auto_1):NY X (.Tuple elts kk Ff) (.Call (.Name "enumerate" p) [a] [] pos) (PX ta):=by
 intro E pins s σ H τ G R hE I h;have hA:Hx X [a] (ay ta aX):=ak ha aI hs;refine Call_ (mG I.inv hg hm Ew (c8 (zo hA pos hE I (R:=Z8 fun x G1=>wL x G1 R) h fun vs H1 ds G1 us s1 I1 m1 r1 jG q1=>?_) hs rfl))
 match ds,q1 with
 | [x],q1 =>
  change wL x G1 R at q1;obtain⟨w,rfl,Dl⟩:=jG.one;obtain⟨u,rfl,ru⟩:=r1.one;cases Dl with
  | ez hq rs=>cases ru; exact LB I1.inv m1 hq.sq (fun H2 G2 k ab _=>⟨_,(k.UN hq).sq,rs.mono k⟩) q1
  | ref p =>
   cases ru;unfold wL at q1;dsimp only at q1;split at q1
   ·rename_i ds e;obtain⟨vs,hv,rs⟩:=I1.ab.lst e;refine LB I1.inv m1 (.of hv) (fun H2 G2 k ab o=>?_) q1;obtain⟨ws,hw,v3⟩:=ab.lst o;exact⟨ws,.of hw,v3⟩
   ·exact q1.elim
  | tup _ _=>exact q1.elim
  | qC _ _=>exact q1.elim
  | qB _ _=>exact q1.elim
  | fh=>exact q1.elim
  | bl _=>exact q1.elim
  | int _=>exact q1.elim
  | str _=>exact q1.elim
  | exc _=>exact q1.elim
 | [],q1=>exact q1.elim
 | _ :: _ :: _,q1=>exact q1.elim
end
end K2
end
section
namespace K2
open PySem PySem.Spec PyProof.Rows L2
section
variable {X:Cx} {o i a b:Expr} {to ti ta tb:gG} {pos p:Pos}
theorem fE(hu:X.A.units+64 < cLine)(ho:gW X o to)(hi:gW X i ti)
  (ha:autoParam (∀ v,Od (.Subscript o i pos) X.env v=(do
   let ov ← Io [v] (eval o X.env)
   let iv ← Io [v,ov] (eval i X.env)
   standAt pos
   Io [v,ov,iv] (setItem ov iv v)
   release [v,ov,iv] [])) Ai._auto_1):N0 X (.Subscript o i pos) (fX to ti):=by
 intro E pins s σ H τ G w d u Q hE I r rd h;rw [ha];refine af (cP (kj ho hE I h fun x H1 dx G1 ov s1 I1 m1 r1 jG q1=>?_));refine af (cP (kj hi hE I1 q1 fun y H2 dy G2 iv s2 qm m2 r2 Bt q2=>?_));refine af (wpAny_standAt (af (cP ?_)));have T5:=m1.trans m2;have YG:=rd.mono (T5.kp I.ab);have Bq:=I.st.mono (T5.kp I.ab);have rx':=jG.mono (m2.kp I1.ab);unfold zx at q2;split at q2
 ·rename_i l;cases rx';cases r1;split at q2
  ·rename_i xs hg;obtain⟨vs,hv,rs⟩:=qm.ab.lst hg;split at q2
   ·rename_i k;cases Bt;split at q2
    ·rename_i j hj;have m3:Mv X.K H2 G2 (upd H2 l (.lst (vs.set j w))) (c7 G2 l (.lst (xs.set j d))):=.putL qm.ab hg hv (rs.set YG j);refine iy (set_list pins s2 σ H2 (.ref l) (.int k) w _ _ _ (fun H3=>H3=upd H2 l (.lst (vs.set j w))) qm.inv rfl r2 r ⟨l,vs,k,j,rfl,rfl,hv,?_,rfl⟩) ?_
     ·rw [rs.length]; exact hj
     ·rintro _ s3 ⟨H3,I3,e3⟩;subst e3;exact wpAny_release ⟨σ,_,τ,_,⟨I3,Bq.mono (m3.kp qm.ab),m3.ab⟩,T5.trans m3,q2⟩
    ·exact q2.elim
   ·exact q2.elim
  ·rename_i kvs hg;obtain⟨hk,hz,q⟩:=q2;obtain⟨H3,H4,I3,dp,m3⟩:=Qy qm.inv qm.ab hg hk hz Bt YG;exact Nh (by lia) I3 dp r2 r fun s4 I4=>wpAny_release ⟨σ,H4,τ,_,⟨I4,Bq.mono (m3.kp qm.ab),m3.ab⟩,T5.trans m3,q⟩
  ·exact q2.elim
 ·exact q2.elim
end
end K2
end
section
namespace L2
open PySem PySem.Spec PyProof.Rows
theorem vR{X:Cx}{pins:List (Addr×Obj)}{σ:St}{H:Hp}{s:az}{l b:Addr}{xs:List V}(I:Inv X pins σ H s)(hq:rH X.K H l xs)(hf:oI X pins H b):l≠b:=by
 rintro rfl;obtain⟨f0,f1,f2,f3,f4,f5⟩:=hf;rcases hq with (h | ⟨o,h⟩) | ⟨o,bM,n,h,_⟩
 ·rw [f0] at h; cases h
 ·rw [f0] at h; cases h
 ·have hb:=I.ok.mod.Xp _ _ h;rcases f3 with f3 | f3
  ·exact I.ok.MB _ _ hb f3
  ·exact absurd (aP (I.ok.bs _ _ hb).1) (Nat.not_lt.mpr f3)
noncomputable def Itz(K:aq)(a b:Addr):It :=
  ⟨fun i H=>∃ xs x ys y,rH K H a xs/\xs[i]?=some x/\rH K H b ys/\ys[i]?=some y,
   fun i H v H'=>∃ T x y,v=.ref T/\H T=none/\H'=upd H T (.tup [x,y])/\(∀ xs,rH K H a xs->xs[i]?=some x)/\∀ ys,rH K H b ys->ys[i]?=some y,
   fun i H=>∃ xs ys,rH K H a xs/\rH K H b ys/\(xs.length<=i\/ys.length<=i)⟩
structure Yo(z TI TO i1 i2 a b:Addr)(i:Nat)(h:Heap):Prop where
 hz:IsZip h z TI TO .none
 hI:xX h TI (.ref i1) (.ref i2)
 hO:∃ x y,xX h TO x y
 h1:h.IsListIter i1 a i
 h2:h.IsListIter i2 b i
theorem Oy{P:bG}{w:World}{K:aq}{elts:List Expr}{kk:Nat}{pos:Pos}(a b z TI TO i1 i2:Addr)(nd:[z,TI,TO,i1,i2].Nodup) :
  Turn P w K (.Tuple elts kk pos) (Itz K a b) [z,TI,TO,i1,i2] z (Yo z TI TO i1 i2 a b) where
 mem:=by simp
 obj:=fun i h st c hc=>by
  simp only [bQ,bL,or_false] at hc;rcases hc with rfl | rfl | rfl | rfl | rfl
  ·exact⟨_,st.hz,fun v q=>by cases q⟩
  ·exact⟨_,st.hI,fun v q=>by cases q⟩
  ·obtain⟨x,y,h⟩:=st.hO; exact⟨_,h,fun v q=>by cases q⟩
  ·obtain⟨o,e,_,d⟩:=st.h1; exact⟨o,e,fun v q=>by rw [d] at q; cases q⟩
  ·obtain⟨o,e,_,d⟩:=st.h2; exact⟨o,e,fun v q=>by rw [d] at q; cases q⟩
 keep:=fun i h h' st k=>⟨k _ (by simp) _ st.hz,k _ (by simp) _ st.hI,let ⟨x,y,q⟩:=st.hO; ⟨x,y,k _ (by simp) _ q⟩,st.h1.at fun o q=>k _ (by simp) o q,st.h2.at fun o q=>k _ (by simp) o q⟩
 item:=by
  intro X hP hw hK hc i pins s σ H E I hf st hg;subst hP hw hK;obtain⟨xs,x,ys,y,MU,hx,Rx,hy⟩:=hg;obtain⟨Jv,R1,p1,YT⟩:=I.list MU;obtain⟨mY,HY,p2,Wm⟩:=I.list Rx;obtain⟨u1,hu1,R5⟩:=R1.get hx;obtain⟨u2,hu2,R4⟩:=HY.get hy;obtain⟨xo,yo,hO⟩:=st.hO;have ap:∀ c∈[z,TI,TO,i1,i2],a≠c/\b≠c:=fun c hc=>⟨vR I MU (hf c hc),vR I Rx (hf c hc)⟩;simp only [eV,bQ,bL,or_false,not_or] at nd;obtain⟨⟨n1,n2,n3,n4⟩,⟨n5,n6,n7⟩,⟨n8,n9⟩,n10,_⟩:=nd;have Dz:pP z TI TO i1 i2 a b:=⟨dW n1,dW n2,dW n3,dW n4,n5,n6,n7,n8,n9,n10,(ap z (by simp)).1,(ap TO (by simp)).1,(ap i1 (by simp)).1,(ap i2 (by simp)).1,(ap z (by simp)).2,(ap TO (by simp)).2,(ap i1 (by simp)).2,(ap i2 (by simp)).2⟩;have VG:H s.heap.objs.size=none:=I.cN.fresh (aF _);have inH:∀ c∈[z,TI,TO,i1,i2],c≠s.heap.objs.size:=fun c hc=>by
   simp only [bQ,bL,or_false] at hc;rcases hc with rfl | rfl | rfl | rfl | rfl
   ·exact bc (aP st.hz)
   ·exact bc (aP st.hI)
   ·exact bc (aP hO)
   ·obtain⟨o,e,_⟩:=st.h1; exact bc (aP e)
   ·obtain⟨o,e,_⟩:=st.h2; exact bc (aP e)
  refine wpAny_pyNext_zip_item Dz st.hz st.hI hO st.h1 st.h2 p1.isList p2.isList (x:=u1) (y:=u2) (by simpa using hu1) (by simpa using hu2) fun h' a1 a2 a3 a4 a5 a6 a7=>?_;refine⟨_,rfl,?_⟩;have k1:∀ c o,c∉[z,TI,TO,i1,i2]->s.heap.get? c=some o->h'.get? c=some o:=fun c o hc q =>
   a7 c o (fun e=>hc (by simp [e])) (fun e=>hc (by simp [e])) (fun e=>hc (by simp [e])) (fun e=>hc (by simp [e])) q
  have I1:Inv X pins σ (upd H s.heap.objs.size (.tup [x,y])) { s with heap:=h' } :=
   I.yK (t':=s.toks) (fp:=[z,TI,TO,i1,i2]) hf k1 (aF _) ⟨by show 2<=bu; decide,[u1,u2],.cons R5 (.cons R4 .nil),⟨_,a5,rfl,_,rfl⟩⟩
  refine wpAny_letOwnedTupleGo_zip (s:={ s with heap:=h' }) a1 fun h2 Wm xp=>?_;have f1:∀ c∈[z,TI,TO,i1,i2],oI X pins (upd H s.heap.objs.size (.tup [x,y])) c:=fun c hc=>(hf c hc).upd (inH c hc);have I2:Inv X pins σ (upd H s.heap.objs.size (.tup [x,y])) { s with heap:=h2 } :=
   Inv.tK (s:={ s with heap:=h' }) (t':=s.toks) (fp:=[z,TI,TO,i1,i2]) I1 f1 fun c o hc q=>(xp.2 c (fun e=>hc (by simp [e]))).trans q
  have hI':xX h' TI (.ref i1) (.ref i2):=a7 TI _ (dW n1) n5 n6 n7 st.hI;refine⟨.ref s.heap.objs.size,_,I2,rfl,⟨_,x,y,rfl,VG,rfl,fun zs hs=>by rw [I.wA hs MU]; exact hx,fun zs hs=>by rw [I.wA hs Rx]; exact hy⟩,⟨Wm,?_,⟨u1,u2,?_⟩,?_,?_⟩,fun c hc=>(f1 c hc).1⟩
  ·exact(xp.2 TI (dW n1)).trans hI'
  ·exact(xp.2 TO (dW n2)).trans a2
  ·exact a3.at fun o q=>(xp.2 i1 (dW n3)).trans q
  ·exact a4.at fun o q=>(xp.2 i2 (dW n4)).trans q
 done:=by
  intro X hP hw hK hc i pins s σ H E I hf st hg;subst hP hw hK;obtain⟨xs,ys,MU,Rx,hx⟩:=hg;obtain⟨Jv,R1,p1,YT⟩:=I.list MU;obtain⟨mY,HY,p2,Wm⟩:=I.list Rx;have yD:=R1.length;have vA:=HY.length;obtain⟨xo,yo,hO⟩:=st.hO;have ap:∀ c∈[z,TI,TO,i1,i2],a≠c/\b≠c:=fun c hc=>⟨vR I MU (hf c hc),vR I Rx (hf c hc)⟩;simp only [eV,bQ,bL,or_false,not_or] at nd;obtain⟨⟨n1,n2,n3,n4⟩,⟨n5,n6,n7⟩,⟨n8,n9⟩,n10,_⟩:=nd;have Dz:pP z TI TO i1 i2 a b:=⟨dW n1,dW n2,dW n3,dW n4,n5,n6,n7,n8,n9,n10,(ap z (by simp)).1,(ap TO (by simp)).1,(ap i1 (by simp)).1,(ap i2 (by simp)).1,(ap z (by simp)).2,(ap TO (by simp)).2,(ap i1 (by simp)).2,(ap i2 (by simp)).2⟩;refine wpAny_pyNext_zip_end (I.ok.hd hc) Dz st.hz st.hI hO st.h1 st.h2 p1.isList p2.isList (by
   rcases hx with hx | hx
   ·left; simp; lia
   ·right; simp; lia) fun h' k1=>⟨rfl,?_⟩
  exact I.tK (t':=s.toks) (fp:=[z,TI,TO,i1,i2]) hf fun c o hc q=>k1 c o (fun e=>hc (by simp [e])) (fun e=>hc (by simp [e])) (fun e=>hc (by simp [e])) (fun e=>hc (by simp [e])) q
 self:=fun A i s Q E st h=>LW st.hz h
end L2
namespace K2
open PySem PySem.Spec PyProof.Rows L2
section
variable {X:Cx} {elts:List Expr} {kk:Nat} {Ff:Pos} {a b:Expr} {ta tb:gG} {pos p:Pos}
theorem Gj{pins:List (Addr×Obj)}{s:az}{σ:L2.St}{H:Hp}{G:Gp}{x:V}{d:D}{v:Value}{ds:List D}{ok:Gp->Prop}(I:Inv X pins σ H s)(ab:oy X.K H G)(rx:RelV x v)(rd:cK X.K H x d)(hi:Ac d G=some (ds,ok)) :
  ∃ l vs,v=.ref l/\rH X.K H l vs/\bC X.K H vs ds/\∀ H2 G2,Kp H H2->oy X.K H2 G2->ok G2->∃ ws,rH X.K H2 l ws/\bC X.K H2 ws ds:=by
 cases rd with
 | ez hq rs=>cases hi; cases rx; exact⟨_,_,rfl,hq.sq,rs,fun H2 G2 k ab _=>⟨_,(k.UN hq).sq,rs.mono k⟩⟩
 | ref l =>
  unfold Ac at hi;dsimp only at hi;cases hg:G l with
  | none=>rw [hg] at hi; cases hi
  | some gg =>
   rw [hg] at hi;cases gg with
   | lst zs =>
    cases hi;cases rx;obtain⟨vs,hv,rs⟩:=ab.lst hg;refine⟨_,_,rfl,.of hv,rs,fun H2 G2 k ab o=>?_⟩;obtain⟨ws,hw,v3⟩:=ab.lst o;exact⟨ws,.of hw,v3⟩
   | dI _=>cases hi
 | _=>cases hi
theorem Sg (hg:Gl X "zip") (hm:X.mg "zip" = none) (ha:gW X a ta) (hb:gW X b tb) (hs:autoParam (bR [a,b] X.env=[(false,eval a X.env),(false,eval b X.env)]) Ar._auto_1) (xp:autoParam (bR [b] X.env=[(false,eval b X.env)]) Ar._auto_1) :
  NY X (.Tuple elts kk Ff) (.Call (.Name "zip" p) [a,b] [] pos) (Vq ta tb):=by
 intro E pins s σ H τ G R hE I h;have hA:Hx X [a,b] (ay ta (ay tb aX)):=ak ha (ak hb aI xp) (by rw [hs,xp]);refine Call_ (mG I.inv hg hm QU (c8 (zo hA pos hE I (R:=W6 fun x y G1=>As x y G1 R) h fun vs H1 ds G1 us s1 I1 m1 r1 jG q1=>?_) (by rw [hs,xp]) (by rw [xp]; rfl)))
 match ds,q1 with
 | [x,y],q1 =>
  change As x y G1 R at q1;obtain⟨w1,w2,rfl,Dl,UU⟩:=jG.two;obtain⟨u1,u2,rfl,R5,R4⟩:=vals2 r1;unfold As at q1;split at q1
  ·rename_i xs k1 ys k2 e1 e2;obtain⟨l1,v1,rfl,MU,YE,st1⟩:=Gj I1.inv I1.ab R5 Dl e1;obtain⟨l2,v2,rfl,Rx,B9,Rq⟩:=Gj I1.inv I1.ab R4 UU e2;obtain⟨Jv,R1,pl1,_⟩:=I1.inv.list MU;obtain⟨mY,HY,pl2,_⟩:=I1.inv.list Rx;refine call_zip_2 pl1.isList pl2.isList fun h' z1 z2 z3 z4 z5 z6 z7=>?_;refine LW z1 ?_;refine⟨_,[s1.heap.objs.size+4,s1.heap.objs.size+2,s1.heap.objs.size+3,s1.heap.objs.size,s1.heap.objs.size+1],_,_,H1,G1,uE xs ys,_,rfl,I1.inv.kept (t':=s1.toks) z7,m1,
    Oy l1 l2 _ _ _ _ _ (by simp),⟨z1,z2,⟨_,_,z3⟩,z4,z5⟩,fun c hc=>?_,fun i H2 G2 k ab o=>?_,q1⟩
   ·have Ue:s1.heap.objs.size<=c:=by
     simp only [bQ,bL,or_false] at hc;rcases hc with rfl | rfl | rfl | rfl | rfl
     ·exact gB _ _
     ·exact gB _ _
     ·exact gB _ _
     ·exact aF _
     ·exact gB _ _
    exact I1.inv.D6 Ue (I1.inv.cN.fresh Ue)
   ·obtain⟨ZI,hw1,jG⟩:=st1 H2 G2 k ab o.1;obtain⟨ZH,YV,Bt⟩:=Rq H2 G2 k ab o.2;refine⟨fun d hd=>?_,fun hl=>⟨ZI,ZH,hw1,YV,?_⟩⟩
    ·rw [E7] at hd;cases hx:xs[i]? with
     | none=>rw [hx] at hd; cases hd
     | some x' =>
      cases hy:ys[i]? with
      | none=>rw [hx,hy] at hd; cases hd
      | some y' =>
       rw [hx,hy] at hd;have ed:D.tup [x',y']=d:=by simpa using hd
       subst ed;obtain⟨vx,hvx,rx⟩:=jG.get hx;obtain⟨vy,hvy,ry⟩:=Bt.get hy;refine⟨⟨ZI,vx,ZH,vy,hw1,hvx,YV,hvy⟩,?_⟩;rintro v H3 ⟨T,px,py,ex,hT,e3,hx3,hy3⟩;subst ex e3;have q1:=hx3 ZI hw1;have q2:=hy3 ZH YV;rw [hvx] at q1;rw [hvy] at q2;cases q1; cases q2;exact⟨.tup bX (.cons (rx.mono (.new hT)) (.cons (ry.mono (.new hT)) .nil)),.P8 ab hT⟩
    ·rw [E6] at hl;rw [jG.length,Bt.length];lia
  ·exact q1.elim
 | [],q1=>exact q1.elim
 | [_],q1=>exact q1.elim
 | _ :: _ :: _ :: _,q1=>exact q1.elim
end
end K2
end
section
namespace K2
open PySem PySem.W PyProof.Rows
noncomputable def iV{α:Type}(lt:Nat->Nat->Bool):KasT α->α
 | .ret a=>a
 | .ask i j k=>iV lt (k (lt i j))
theorem ny{α β:Type}(lt:Nat->Nat->Bool)(f:α->KasT β):∀ t:KasT α,iV lt (t.bind f)=iV lt (f (iV lt t))
 | .ret _=>rfl
 | .ask i j k=>ny lt f (k (lt i j))
noncomputable abbrev gA(p:Array Nat)(k:Nat):Nat:=p.getD k 0
theorem Cy(p:Array Nat)(k:Nat):gA p k=(p[k]?).getD 0:=by
 unfold gA; rw [bf]
structure Ny(lt:Nat->Nat->Bool):Prop where
 asymm:∀ i j,lt i j=true->lt j i=false
 trans:∀ i j k,lt j i=false->lt k j=false->lt k i=false
theorem Ny.refl{lt:Nat->Nat->Bool}(w:Ny lt)(i:Nat):lt i i=false:=by
 cases h:lt i i with
 | false=>rfl
 | true=>rw [w.asymm _ _ h] at h; cases h
noncomputable def Up(lt:Nat->Nat->Bool)(p:Array Nat)(m:Nat):Prop:=∀ i j,i<=j->j < m->lt (gA p j) (gA p i)=false
noncomputable def Dn(lt:Nat->Nat->Bool)(p:Array Nat)(m:Nat):Prop:=∀ i j,i<=j->j < m->lt (gA p i) (gA p j)=false
section
variable {lt:Nat->Nat->Bool}
theorem Up.more(w:Ny lt){p:Array Nat}{n m:Nat}(h1:1<=n)(h:Up lt p n)(hs:∀ k,n<=k->k < m->lt (gA p k) (gA p (k - 1))=false):Up lt p m:=by
 intro i j MX hjm;induction j with
 | zero =>
  have:i=0:=by lia
  subst this; exact w.refl _
 | succ j ih =>
  by_cases hj:j+1 < n
  ·exact h i (j+1) MX hj
  ·by_cases e:i=j+1
   ·subst e; exact w.refl _
   ·have h1:=ih (by lia) (by lia);have h2:=hs (j+1) (by lia) hjm;exact w.trans _ _ _ h1 h2
theorem KU(p:Array Nat):∀ (f n:Nat),n<=iV lt (r8 p f n)/\iV lt (r8 p f n)<=n+f/\(∀ k,n<=k->k < iV lt (r8 p f n)->lt (gA p k) (gA p (k - 1))=false) /\
  (iV lt (r8 p f n) < n+f->lt (gA p (iV lt (r8 p f n))) (gA p (iV lt (r8 p f n) - 1))=true):=by
 intro f;induction f with
 | zero=>intro n; exact⟨aF _,aF _,fun k h1 h2=>absurd (show k < n from h2) (by lia),fun h=>absurd (show n < n+0 from h) (by lia)⟩
 | succ f ih =>
  intro n;have e:iV lt (r8 p (f+1) n)=if lt (gA p n) (gA p (n - 1))=true then n else iV lt (r8 p f (n+1)):=by
   show iV lt (if lt (gA p n) (gA p (n - 1))=true then xu n else r8 p f (n+1))=_;split <;> rfl
  rw [e];by_cases c:lt (gA p n) (gA p (n - 1))=true
  ·rw [if_pos c];exact⟨aF _,by lia,fun k h1 h2=>absurd h2 (by lia),fun _=>c⟩
  ·rw [if_neg c];obtain⟨h1,h2,h3,h4⟩:=ih (n+1);refine⟨by lia,by lia,fun k k1 k2=>?_,fun h=>h4 (by lia)⟩;by_cases e:k=n
   ·subst e; simpa using c
   ·exact h3 k (by lia) k2
theorem iU{p:Array Nat}{i j:Nat}(hj:j<=p.size)(k:Nat):gA (g8 p i j) k=if i<=k/\k < j then gA p (i+j - 1 - k) else gA p k:=by
 rw [Cy,g8,getElem?_mirror_all hj];split <;> rw [Cy]
theorem nM(p:Array Nat)(i j:Nat):(g8 p i j).size=p.size:=mirror_size _ _ _ _
theorem kC(p:Array Nat)(i j:Nat):(g8 p i j).Perm p:=mirror_perm _ _ _ _
theorem Dn.rev{p:Array Nat}{a n:Nat}(w:Ny lt)(hn:n<=p.size)(h:Dn lt p n)(he:∀ k,a<=k->k < n->lt (gA p (n - 1)) (gA p k)=false):Dn lt (g8 p a n) n:=by
 intro i j MX XE;rw [iU hn,iU hn];by_cases hi:a<=i
 ·rw [if_pos ⟨hi,by lia⟩,if_pos ⟨by lia,XE⟩];exact w.trans _ _ _ (he (a+n - 1 - j) (by lia) (by lia)) (h (a+n - 1 - i) (n - 1) (by lia) (by lia))
 ·rw [if_neg (by lia)];by_cases hj:a<=j
  ·rw [if_pos ⟨hj,XE⟩];exact h i (a+n - 1 - j) (by lia) (by lia)
  ·rw [if_neg (by lia)];exact h i j MX XE
noncomputable def Eqs(lt:Nat->Nat->Bool)(p:Array Nat)(n q:Nat):Prop:=q+1<=n/\∀ k,n - (q+1)<=k->k < n->lt (gA p (n - 1)) (gA p k)=false
theorem Dn.one(w:Ny lt){p:Array Nat}{n:Nat}(h1:1<=n)(h:Dn lt p n)(hc:lt (gA p (n - 1)) (gA p n)=false):Dn lt p (n+1):=by
 intro i j MX hj;by_cases e:j=n
 ·subst e;by_cases e2:i=j
  ·subst e2; exact w.refl _
  ·exact w.trans _ _ _ hc (h i (j - 1) (by lia) (by lia))
 ·exact h i j MX (by lia)
theorem OT(w:Ny lt):∀ (f:Nat) (p:Array Nat) (n q:Nat),n+f<=p.size->Dn lt p n->Eqs lt p n q->∃ p' n' q',iV lt (mx f p n q)=(p',n',q')/\p'.Perm p/\p'.size=p.size/\n<=n'/\n'<=n+f/\Dn lt p' n'/\Eqs lt p' n' q':=by
 intro f;induction f with
 | zero=>intro p n q _ hd he; exact⟨p,n,q,rfl,oz _,rfl,aF _,aF _,hd,he⟩
 | succ f ih =>
  intro p n q hs hd he;have h1:1<=n:=by have:=he.1; lia
  have e:iV lt (mx (f+1) p n q)=if lt (gA p n) (gA p (n - 1))=true then (if q > 0 then iV lt (mx f (g8 p (n - (q+1)) n) (n+1) 0) else iV lt (mx f p (n+1) 0))
    else if lt (gA p (n - 1)) (gA p n)=true then (p,n,q) else iV lt (mx f p (n+1) (q+1)):=by
   show iV lt (if lt (gA p n) (gA p (n - 1))=true then (if q > 0 then mx f (g8 p (n - (q+1)) n) (n+1) 0 else mx f p (n+1) 0) else .ask (gA p (n - 1)) (gA p n) fun d=>if d=true then .ret (p,n,q) else mx f p (n+1) (q+1))=_;split
   ·split <;> rfl
   ·show iV lt (if lt (gA p (n - 1)) (gA p n)=true then xu (p,n,q) else mx f p (n+1) (q+1))=_;split <;> rfl
  rw [e];by_cases c:lt (gA p n) (gA p (n - 1))=true
  ·rw [if_pos c];have ca:=w.asymm _ _ c;by_cases hq:q > 0
   ·rw [if_pos hq];have d1:Dn lt (g8 p (n - (q+1)) n) n:=hd.rev w (by lia) he.2;have en:gA (g8 p (n - (q+1)) n) n=gA p n:=by rw [iU (by lia),if_neg (by lia)]
    have ca':lt (gA (g8 p (n - (q+1)) n) (n - 1)) (gA (g8 p (n - (q+1)) n) n)=false:=by
     rw [en,iU (by lia)];split
     ·-- an item of ZN YB is above p n
      exact w.trans _ _ _ ca (hd _ (n - 1) (by lia) (by lia))
     ·exact ca
    obtain⟨p',n',q',z,h2,h3,h4,h5,h6,h7⟩:=ih (g8 p (n - (q+1)) n) (n+1) 0 (by rw [nM]; lia) (d1.one w h1 ca') ⟨by lia,fun k k1 k2=>by
     have:k=n:=by lia
     subst this; exact w.refl _⟩
    exact⟨p',n',q',z,h2.trans (kC _ _ _),h3.trans (nM _ _ _),by lia,by lia,h6,h7⟩
   ·rw [if_neg hq];obtain⟨p',n',q',z,h2,h3,h4,h5,h6,h7⟩:=ih p (n+1) 0 (by lia) (hd.one w h1 ca) ⟨by lia,fun k k1 k2=>by
     have:k=n:=by lia
     subst this; exact w.refl _⟩
    exact⟨p',n',q',z,h2,h3,by lia,by lia,h6,h7⟩
  ·rw [if_neg c];have c':lt (gA p n) (gA p (n - 1))=false:=by simpa using c
   by_cases d:lt (gA p (n - 1)) (gA p n)=true
   ·rw [if_pos d];exact⟨p,n,q,rfl,oz _,rfl,aF _,by lia,hd,he⟩
   ·rw [if_neg d];have d':lt (gA p (n - 1)) (gA p n)=false:=by simpa using d
    obtain⟨p',n',q',z,h2,h3,h4,h5,h6,h7⟩:=ih p (n+1) (q+1) (by lia) (hd.one w h1 d') ⟨by have:=he.1; lia,fun k k1 k2=>by
     rw [Nat.add_sub_cancel];by_cases e:k=n
     ·subst e; exact w.refl _
     ·exact w.trans _ _ _ (he.2 k (by lia) (by lia)) c'⟩
    exact⟨p',n',q',z,h2,h3,by lia,by lia,h6,h7⟩
theorem Dn.up{p:Array Nat}{n:Nat}(hn:n<=p.size)(h:Dn lt p n):Up lt (g8 p 0 n) n:=by
 intro i j MX XE;rw [iU hn,iU hn,if_pos ⟨by lia,XE⟩,if_pos ⟨by lia,by lia⟩];exact h _ _ (by lia) (by lia)
theorem Fu(w:Ny lt){p:Array Nat}{n nrem:Nat}(h1:1<=n)(hn:n<=nrem)(hs:nrem<=p.size)(h:Dn lt p n):∃ p' m,iV lt (N9 n nrem p)=(m,p')/\p'.Perm p/\p'.size=p.size/\n<=m/\m<=nrem/\Up lt p' m:=by
 obtain⟨a1,a2,a3,_⟩:=KU (lt:=lt) (g8 p 0 n) (nrem - n) n;refine⟨g8 p 0 n,iV lt (r8 (g8 p 0 n) (nrem - n) n),by rw [N9,ny]; rfl,kC _ _ _,nM _ _ _,a1,by lia,?_⟩;exact(h.up (by lia)).more w h1 a3
theorem v7(w:Ny lt){p:Array Nat}{n nrem:Nat}(h1:1<=n)(hn:n < nrem)(hs:nrem<=p.size)(h:Dn lt p n)(hc:lt (gA p (n - 1)) (gA p n)=false) :
  ∃ p' m,iV lt (zd n nrem p)=(m,p')/\p'.Perm p/\p'.size=p.size/\n<=m/\m<=nrem/\Up lt p' m:=by
 obtain⟨p1,n1,q1,z,z2,z3,z4,z5,z6,z7⟩:=OT w (nrem - (n+1)) p (n+1) 0 (by lia) (h.one w h1 hc) ⟨by lia,fun k k1 k2=>by
  have:k=n:=by lia
  subst this; exact w.refl _⟩
 rw [zd,ny,z];show ∃ p' m,iV lt (if q1 > 0 then N9 n1 nrem (g8 p1 (n1 - (q1+1)) n1) else N9 n1 nrem p1)=(m,p')/\_;by_cases hq:q1 > 0
 ·rw [if_pos hq];obtain⟨p',m,y1,y2,y3,y4,y5,y6⟩:=Fu (nrem:=nrem) w (p:=g8 p1 (n1 - (q1+1)) n1) (by lia) (by lia) (by rw [nM]; lia) (z6.rev w (by lia) z7.2);exact⟨p',m,y1,(y2.trans (kC _ _ _)).trans z2,(y3.trans (nM _ _ _)).trans z3,by lia,y5,y6⟩
 ·rw [if_neg hq];obtain⟨p',m,y1,y2,y3,y4,y5,y6⟩:=Fu (nrem:=nrem) w (p:=p1) (by lia) (by lia) (by lia) z6;exact⟨p',m,y1,y2.trans z2,y3.trans z3,by lia,y5,y6⟩
theorem Mi(w:Ny lt){p:Array Nat}{nrem:Nat}(h1:1<=nrem)(hs:nrem<=p.size):∃ p' m,iV lt (kas_count nrem p)=(m,p')/\p'.Perm p/\p'.size=p.size/\1<=m/\m<=nrem/\Up lt p' m:=by
 obtain⟨a1,a2,a3,a4⟩:=KU (lt:=lt) p (nrem - 1) 1;rw [kas_count,ny];generalize iV lt (r8 p (nrem - 1) 1)=n at a1 a2 a3 a4;have u1:Up lt p 1:=fun i j MX hj=>by
  have:i=j:=by lia
  subst this; exact w.refl _
 have up:Up lt p n:=u1.more w (aF _) a3;by_cases e:n=nrem
 ·subst e;rw [if_pos (by simp)];exact⟨p,n,rfl,oz _,rfl,a1,aF _,up⟩
 ·rw [if_neg (by simpa using e)];have hb:=a4 (by lia);by_cases h2:n > 1
  ·rw [if_pos h2];show ∃ p' m,iV lt (if lt (gA p 0) (gA p (n - 1))=true then xu (n,p) else zd n nrem (g8 p 0 n))=(m,p')/\_;by_cases c:lt (gA p 0) (gA p (n - 1))=true
   ·rw [if_pos c];exact⟨p,n,rfl,oz _,rfl,a1,by lia,up⟩
   ·rw [if_neg c];have c':lt (gA p 0) (gA p (n - 1))=false:=by simpa using c
    have all:∀ i j,i < n->j < n->lt (gA p i) (gA p j)=false:=fun i j hi hj =>
     w.trans _ _ _ (w.trans _ _ _ (up j (n - 1) (by lia) (by lia)) c') (up 0 i (by lia) hi)
    have d1:Dn lt (g8 p 0 n) n:=fun i j MX hj=>by
     rw [iU (by lia),iU (by lia),if_pos ⟨by lia,by lia⟩,if_pos ⟨by lia,hj⟩];exact all _ _ (by lia) (by lia)
    have hl:lt (gA (g8 p 0 n) (n - 1)) (gA (g8 p 0 n) n)=false:=by
     rw [iU (by lia),iU (by lia),if_pos ⟨by lia,by lia⟩,if_neg (by lia)];exact w.trans _ _ _ (w.asymm _ _ hb) (all _ _ (by lia) (by lia))
    obtain⟨p',m,y1,y2,y3,y4,y5,y6⟩:=v7 (nrem:=nrem) w (p:=g8 p 0 n) a1 (by lia) (by rw [nM]; lia) d1 hl;exact⟨p',m,y1,y2.trans (kC _ _ _),y3.trans (nM _ _ _),by lia,y5,y6⟩
  ·rw [if_neg h2];have e1:n=1:=by lia
   subst e1;have d1:Dn lt p 1:=fun i j MX hj=>by
    have:i=j:=by lia
    subst this; exact w.refl _
   obtain⟨p',m,y1,y2,y3,y4,y5,y6⟩:=v7 (nrem:=nrem) w (p:=p) (aF _) (by lia) hs d1 (w.asymm _ _ hb);exact⟨p',m,y1,y2,y3,by lia,y5,y6⟩
theorem Mh(w:Ny lt){p:Array Nat}{k:Nat}:∀ (f l r:Nat),l<=r->r<=k->r - l<=f->Up lt p k->(∀ i,i < l->lt (gA p k) (gA p i)=false)->(∀ i,r<=i->i < k->lt (gA p k) (gA p i)=true) ->
  ∃ m,iV lt (kn p k f l r)=m/\m<=k/\(∀ i,i < m->lt (gA p k) (gA p i)=false)/\(∀ i,m<=i->i < k->lt (gA p k) (gA p i)=true):=by
 intro f;induction f with
 | zero =>
  intro l r hlr YX hf up h1 h2;have:l=r:=by lia
  subst this;exact⟨l,rfl,YX,h1,h2⟩
 | succ f ih =>
  intro l r hlr YX hf up h1 h2;have e:iV lt (kn p k (f+1) l r)=if l>=r then l else if lt (gA p k) (gA p ((l+r) / 2))=true then iV lt (kn p k f l ((l+r) / 2)) else iV lt (kn p k f ((l+r) / 2+1) r):=by
   show iV lt (if l>=r then xu l else .ask (gA p k) (gA p ((l+r) / 2)) fun c=>if c=true then kn p k f l ((l+r) / 2) else kn p k f ((l+r) / 2+1) r)=_;split
   ·rfl
   ·show iV lt (if lt (gA p k) (gA p ((l+r) / 2))=true then kn p k f l ((l+r) / 2) else kn p k f ((l+r) / 2+1) r)=_;split <;> rfl
  rw [e];by_cases c:l>=r
  ·rw [if_pos c];have:l=r:=by lia
   subst this;exact⟨l,rfl,YX,h1,h2⟩
  ·rw [if_neg c];by_cases d:lt (gA p k) (gA p ((l+r) / 2))=true
   ·rw [if_pos d];refine ih l ((l+r) / 2) (by lia) (by lia) (by lia) up h1 fun i i1 i2=>?_;cases q:lt (gA p k) (gA p i) with
    | true=>rfl
    | false=>rw [w.trans _ _ _ (up ((l+r) / 2) i i1 i2) q] at d; cases d
   ·rw [if_neg d];refine ih ((l+r) / 2+1) r (by lia) YX (by lia) up (fun i hi=>?_) h2;exact w.trans _ _ _ (up i ((l+r) / 2) (by lia) (by lia)) (by simpa using d)
theorem Cz{p:Array Nat}{src d:Nat}(hs:src < p.size)(hd:d<=src)(k:Nat):gA (bubble p src d) k=if k=src - d then gA p src else if src - d < k/\k<=src then gA p (k - 1) else gA p k:=by
 rw [Cy,getElem?_bubble hs d hd,Cy p src,Cy p (k - 1),Cy p k];by_cases h1:k=src - d
 ·rw [if_pos h1,if_pos h1]
 ·rw [if_neg h1,if_neg h1];by_cases h2:src - d < k/\k<=src
  ·rw [if_pos h2,if_pos h2]
  ·rw [if_neg h2,if_neg h2]
theorem R3(w:Ny lt):∀ (f:Nat) (p:Array Nat) (k:Nat),k+f<=p.size->Up lt p k->∃ p',iV lt (kas_bin f p k)=p'/\p'.Perm p/\p'.size=p.size/\Up lt p' (k+f):=by
 intro f;induction f with
 | zero=>intro p k _ up; exact⟨p,rfl,oz _,rfl,up⟩
 | succ f ih =>
  intro p k hs up;obtain⟨m,e,hm,h1,h2⟩:=Mh w k 0 k (cq _) (aF _) (aF _) up (fun i hi=>absurd hi (by lia)) (fun i i1 i2=>absurd i1 (by lia));have up':Up lt (bubble p k (k - m)) (k+1):=by
   intro i j MX hj;rw [Cz (by lia) (by lia),Cz (by lia) (by lia)];have ek:k - (k - m)=m:=by lia
   rw [ek];by_cases j1:j=m
   ·rw [if_pos j1];by_cases i1:i=m
    ·rw [if_pos i1]; exact w.refl _
    ·rw [if_neg i1,if_neg (by lia)]; exact h1 i (by lia)
   ·rw [if_neg j1];by_cases j2:m < j/\j<=k
    ·rw [if_pos j2];by_cases i1:i=m
     ·rw [if_pos i1]; exact w.asymm _ _ (h2 (j - 1) (by lia) (by lia))
     ·rw [if_neg i1];by_cases i2:m < i/\i<=k
      ·rw [if_pos i2]; exact up _ _ (by lia) (by lia)
      ·rw [if_neg i2]; exact up _ _ (by lia) (by lia)
    ·rw [if_neg j2,if_neg (by lia),if_neg (by lia)]; exact up _ _ MX (by lia)
  obtain⟨p',z,z1,z2,z3⟩:=ih (bubble p k (k - m)) (k+1) (by rw [bubble_size]; lia) up';refine⟨p',?_,z1.trans (bubble_perm _ _ _),z2.trans (bubble_size _ _ _),by rw [show k+(f+1)=k+1+f by lia]; exact z3⟩;rw [kas_bin,ny,e]; exact z
theorem OQ(w:Ny lt){n:Nat}(h1:1<=n):∃ p,iV lt (kas_sort n)=p/\p.toList.Perm (c9 n)/\p.size=n/\Up lt p n:=by
 obtain⟨p,m,z,z1,z2,z3,z4,z5⟩:=Mi w (p:=(c9 n).toArray) h1 (by simp);have zs:p.size=n:=by rw [z2]; simp
 have zp:p.toList.Perm (c9 n):=by simpa using z1.toList
 rw [kas_sort,ny,z];show ∃ q,iV lt (if m < n then kas_bin (n - max m 1) p (max m 1) else .ret p)=q/\_;by_cases c:m < n
 ·rw [if_pos c];have em:max m 1=m:=by lia
  rw [em];obtain⟨p',y,y1,y2,y3⟩:=R3 w (n - m) p m (by lia) z5;exact⟨p',y,(by simpa using y1.toList:p'.toList.Perm p.toList).trans zp,y2.trans zs,by rw [show n=m+(n - m) by lia]; exact y3⟩
 ·rw [if_neg c];have:m=n:=by lia
  subst this;exact⟨p,rfl,zp,zs,z5⟩
end
end K2
end
section
namespace K2
open PySem PySem.Spec PyProof.Rows L2
open PySem.AutoSeq1 (wpAny_loadPart')
open PySem.MeetsSeq PySem.MeetsSeq2 PySem.MeetsSeq3 PySem.SeqAt
noncomputable def Bc(A:du)(s:az)(y x:Value)(b:Bool):Prop :=
 ∀ (prog:bG) (w:World) (E:Value->az->Prop) (Q:Value->az->Prop),Q (.bool b) s->wpAny (model prog w) A (rZ .Lt y x) Q E s
noncomputable def uF(e l:Nat->Bool)(n m:Nat):Nat->Nat->Bool
 | 0,_=>decide (n < m)
 | f+1,i=>if e i=true then uF e l n m f (i+1) else l i
theorem SD(l b:Addr)(xs ys:Array Value)(n m:Nat)(dd de:Option Addr)(sl sm:Array (Option Value))(e lt:Nat->Bool)(k:Nat) :
  ∀ i:Nat,i<=min xs.size ys.size->min xs.size ys.size - i=k->Meets (Builtin.«list.__eq__.loop» ⟨[.ref l,.ref b,vG i,vG 0],[]⟩)
   (fun A R s=>s.heap.get? l=some { cls:=.type "list",dict:=dd,data:=.seq xs n,slots:=sl }/\s.heap.get? b=some { cls:=.type "list",dict:=de,data:=.seq ys m,slots:=sm } /\
    (∀ j (h1:j < xs.size) (h2:j < ys.size),EqAt A.in1 s xs[j] ys[j] (e j)/\Bc A.in1 s xs[j] ys[j] (lt j)) /\
    R (.ok (.ret (.bool (uF e lt xs.size ys.size k i)))) s):=by
 induction k with
 | zero =>
  intro i hi hk prog w A R s h;obtain⟨hp,g,d,tk,os⟩:=s;obtain⟨hl,hb,he,h⟩:=h
  wp_walk using cj hl,cj hb
  by_cases c:xs.size<=ys.size
  ·have h1:xs[((i:Nat):Int).toNat]?=none:=by simp; lia
   rw [h1]
   wp_walk using cj hl,cj hb
   exact h
  ·have h2:ys[((i:Nat):Int).toNat]?=none:=by simp; lia
   rw [h2];cases q:xs[((i:Nat):Int).toNat]? with
   | none =>
    wp_walk using cj hl,cj hb
    exact h
   | some v =>
    wp_walk using cj hl,cj hb
    exact h
 | succ k ih =>
  intro i hi hk prog w A R s h;obtain⟨hp,g,d,tk,os⟩:=s;obtain⟨hl,hb,he,h⟩:=h
  wp_walk using cj hl,cj hb
  have l1:i < xs.size:=by lia
  have l2:i < ys.size:=by lia
  have h1:xs[((i:Nat):Int).toNat]?=some xs[i]:=by simp [l1]
  have h2:ys[((i:Nat):Int).toNat]?=some ys[i]:=by simp [l2]
  have hc:((i:Int)+1)=((i+1:Nat):Int):=by push_cast; rfl
  rw [h1,h2];refine af ((he i l1 l2).1 prog w _ _ ?_);cases q:e i with
  | true =>
   rw [uF,q,if_pos rfl] at h
   wp_walk
   rw [hc];exact⟨iF plain_eq_loop _,fH entry_eq_loop (by
    rw [dH plain_eq_loop _];exact ih (i+1) (by lia) (by lia) prog w A R _ ⟨hl,hb,he,h⟩)⟩
  | false =>
   rw [uF,q,if_neg (by simp)] at h
   wp_walk using cj hl,cj hb
   rw [h1,h2];have Xy:=(he i l1 l2).2 prog w
   wp_walk using Xy
   exact h
theorem Cm(l b:Addr)(xs ys:Array Value)(n m:Nat)(dd de:Option Addr)(sl sm:Array (Option Value))(e lt:Nat->Bool) :
  Meets (Builtin.«list.__lt__» ⟨[.ref l,.ref b],[]⟩)
   (fun A R s=>s.heap.get? l=some { cls:=.type "list",dict:=dd,data:=.seq xs n,slots:=sl }/\s.heap.get? b=some { cls:=.type "list",dict:=de,data:=.seq ys m,slots:=sm } /\
    (∀ j (h1:j < xs.size) (h2:j < ys.size),EqAt A.in1 s xs[j] ys[j] (e j)/\Bc A.in1 s xs[j] ys[j] (lt j)) /\
    R (.ok (.ret (.bool (uF e lt xs.size ys.size (min xs.size ys.size) 0)))) s):=by
 intro prog w A R s h;obtain⟨hp,g,d,tk,os⟩:=s;obtain⟨hl,hb,he,h⟩:=h;have f3:=IC
 wp_walk using cj hl,cj hb
 exact⟨iF plain_eq_loop _,fH entry_eq_loop (by
  rw [dH plain_eq_loop _];exact SD l b xs ys n m dd de sl sm e lt _ 0 (cq _) rfl prog w A R _ ⟨hl,hb,he,h⟩)⟩
theorem zk(l b:Addr)(xs ys:Array Value)(n m:Nat)(dd de:Option Addr)(sl sm:Array (Option Value))(e lt:Nat->Bool) :
  Meets (Builtin.«tuple.__lt__» ⟨[.ref l,.ref b],[]⟩)
   (fun A R s=>s.heap.get? l=some { cls:=.type "tuple",dict:=dd,data:=.seq xs n,slots:=sl }/\s.heap.get? b=some { cls:=.type "tuple",dict:=de,data:=.seq ys m,slots:=sm } /\
    (∀ j (h1:j < xs.size) (h2:j < ys.size),EqAt A.in1 s xs[j] ys[j] (e j)/\Bc A.in1 s xs[j] ys[j] (lt j)) /\
    R (.ok (.ret (.bool (uF e lt xs.size ys.size (min xs.size ys.size) 0)))) s) :=
 .of_wp fun prog w A R s h=>by
  obtain⟨hp,g,d,tk,os⟩:=s;obtain⟨hl,hb,he,h⟩:=h;have f2:=rB;have zl:(xs.toList.zip ys.toList).length=min xs.size ys.size:=by simp
  wp_walk using cj hl,cj hb,qt _ (fun rest c s'=>c.1=none/\s'=⟨hp,g,d,tk,os⟩/\∃ i,i<=min xs.size ys.size/\rest=(xs.toList.zip ys.toList).drop i /\
   R (.ok (.ret (.bool (uF e lt xs.size ys.size (min xs.size ys.size - i) i)))) ⟨hp,g,d,tk,os⟩) _
  case turn =>
   rintro⟨y,x⟩ rest c s' ⟨hc,rfl,i,hi,hz,hR⟩;have il:i < min xs.size ys.size:=by
    have:=congrArg dh hz;rw [cI,zl,ai] at this;lia
   have l1:i < xs.size:=by lia
   have l2:i < ys.size:=by lia
   rw [iu (by rw [zl]; exact il)] at hz;injection hz with hyx P0
   have ey:y=xs[i]/\x=ys[i]:=by simpa using hyx
   obtain⟨rfl,rfl⟩:=ey;obtain⟨k,ek⟩:∃ k,min xs.size ys.size - i=k+1:=⟨min xs.size ys.size - i - 1,by lia⟩;rw [ek,uF] at hR;refine af ((he i l1 l2).1 prog w _ _ ?_);cases q:e i with
   | true =>
    rw [q,if_pos rfl] at hR
    wp_walk
    exact⟨rfl,rfl,i+1,by lia,P0,by rw [show min xs.size ys.size - (i+1)=k by lia]; exact hR⟩
   | false =>
    rw [q,if_neg (by simp)] at hR;have Xy:=(he i l1 l2).2 prog w
    wp_walk using Xy
    exact⟨_,rfl,by simpa using hR⟩
  case fin =>
   rintro⟨c1,c2⟩ s' ⟨hc,rfl,i,hi,hz,hR⟩;simp only at hc;subst hc;have il:min xs.size ys.size - i=0:=by
    have:=congrArg dh hz;rw [cI,zl,aB] at this;lia
   rw [il,uF] at hR
   wp_walk
   exact⟨_,rfl,by simpa [vL] using hR⟩
  case h =>
   exact⟨rfl,rfl,0,cq _,rfl,by simpa using h⟩
theorem MD{A:du}{s:az}{l b:Addr}{xs ys:Array Value}{e lt:Nat->Bool}(hl:s.heap.IsList l xs)(hb:s.heap.IsList b ys)(hu:A.units < cLine)
  (he:∀ j (h1:j < xs.size) (h2:j < ys.size),EqAt A.in1 s xs[j] ys[j] (e j)/\Bc A.in1 s xs[j] ys[j] (lt j)):Bc A s (.ref l) (.ref b) (uF e lt xs.size ys.size (min xs.size ys.size) 0):=by
 intro prog w E Q hq;obtain⟨⟨cls,dd,data,sl⟩,ho,hc,n,hd⟩:=id hl;obtain⟨⟨QO,CK,data2,KS⟩,Cu,xq,n2,hd2⟩:=id hb;simp only at hc hd xq hd2;subst hc hd xq hd2;exact yy (op:=.Lt) ⟨_,ho,rfl⟩ ⟨_,Cu,rfl⟩ vI LY (Ky _ _) (Cm l b xs ys n n2 dd CK sl KS e lt)
  ⟨ho,Cu,he,(fun x=>nomatch x),hq⟩ hu
theorem Jo{A:du}{s:az}{l b:Addr}{xs ys:Array Value}{e lt:Nat->Bool}(hl:s.heap.IsTuple l xs)(hb:s.heap.IsTuple b ys)(hu:A.units < cLine)
  (he:∀ j (h1:j < xs.size) (h2:j < ys.size),EqAt A.in1 s xs[j] ys[j] (e j)/\Bc A.in1 s xs[j] ys[j] (lt j)):Bc A s (.ref l) (.ref b) (uF e lt xs.size ys.size (min xs.size ys.size) 0):=by
 intro prog w E Q hq;obtain⟨⟨cls,dd,data,sl⟩,ho,hc,n,hd⟩:=id hl;obtain⟨⟨QO,CK,data2,KS⟩,Cu,xq,n2,hd2⟩:=id hb;simp only at hc hd xq hd2;subst hc hd xq hd2;exact yy (op:=.Lt) ⟨_,ho,rfl⟩ ⟨_,Cu,rfl⟩ mQ uw (sg _ _) (zk l b xs ys n n2 dd CK sl KS e lt)
  ⟨ho,Cu,he,(fun x=>nomatch x),hq⟩ hu
theorem qe(xs ys:List D):∀ (k i:Nat),i<=min xs.length ys.length->min xs.length ys.length - i=k ->
  uF (fun j=>i5 (xs.getD j .fh) (ys.getD j .fh)) (fun j=>qp (xs.getD j .fh) (ys.getD j .fh)) xs.length ys.length k i=oF (xs.drop i) (ys.drop i)
 | 0,i,hi,hk=>by
  rw [uF];by_cases c:xs.length<=ys.length
  ·have e1:xs.drop i=[]:=mR (by lia);rw [e1];cases q:ys.drop i with
   | nil =>
    have:=congrArg dh q;rw [cI,aB] at this;exact decide_eq_false (by lia)
   | cons y r =>
    have:=congrArg dh q;rw [cI,ai] at this;exact decide_eq_true (by lia)
  ·have e1:ys.drop i=[]:=mR (by lia);rw [e1];cases q:xs.drop i with
   | nil =>
    have:=congrArg dh q;rw [cI,aB] at this;exact decide_eq_false (by lia)
   | cons y r=>exact decide_eq_false (by lia)
 | k+1,i,hi,hk=>by
  have l1:i < xs.length:=by lia
  have l2:i < ys.length:=by lia
  rw [uF,iu l1,iu l2,qM,qe xs ys k (i+1) (by lia) (by lia)];have g1:xs.getD i .fh=xs[i]:=by rw [a8,ax l1]; rfl
  have g2:ys.getD i .fh=ys[i]:=by rw [a8,ax l2]; rfl
  rw [g1,g2]
theorem kD{h:Heap}:∀ {ds:List D} {vs:List Value} {as:List Addr},iG h vs (oE ds) as->∀ j (hj:j < vs.length),∃ bs,Reads h vs[j] (pd (ds.getD j .fh)) bs
 | [],vs,as,r,j,hj=>by cases r; exact absurd hj (cY _)
 | d :: ds,_,_,.cons (v:=v) (vs:=vs) r1 r2,j,hj=>by
  cases j with
  | zero=>exact⟨_,r1⟩
  | succ j=>exact kD r2 j (by simpa using hj)
theorem readsAll_len{h:Heap}:∀ {ds:List D} {vs:List Value} {as:List Addr},iG h vs (oE ds) as->vs.length=ds.length
 | [],_,_,r=>by cases r; rfl
 | d :: ds,_,_,.cons r1 r2=>by rw [ai,ai,readsAll_len r2]
theorem qH:∀ {ds:List D},sV ds=true->∀ j,nr (ds.getD j .fh)=true
 | [],_,j=>by rw [List.getD_nil]; rfl
 | d :: ds,h,0=>by
  have h:(nr d&&sV ds)=true:=h;rw [aM] at h; simpa using h.1
 | d :: ds,h,j+1=>by
  have h:(nr d&&sV ds)=true:=h;rw [aM] at h; simpa using qH h.2 j
theorem mi:∀ (ds:List D) (j:Nat),(pd (ds.getD j .fh)).depth<=cA (oE ds)
 | [],j=>by rw [List.getD_nil]; exact aF _
 | d :: ds,0=>by
  show (pd d).depth<=cA (pd d :: oE ds);simp only [cA]; lia
 | d :: ds,j+1=>by
  have:=mi ds j;show (pd (ds.getD j .fh)).depth<=cA (pd d :: oE ds);simp only [cA]; lia
theorem tj:∀ {l:List o9} {ds:List D},fN l ds=true->∀ j,j < ds.length->∃ s∈l,df s (ds.getD j .fh)=true/\l[j]?=some s
 | [],[],_,j,hj=>absurd hj (cY _)
 | [],_ :: _,h,_,_=>by cases h
 | _ :: _,[],h,_,_=>by cases h
 | s :: l,d :: ds,h,0,_=>by
  have h:(df s d&&fN l ds)=true:=h;rw [aM] at h;exact⟨s,by simp,by simpa using h.1,by simp⟩
 | s :: l,d :: ds,h,j+1,hj=>by
  have h:(df s d&&fN l ds)=true:=h;rw [aM] at h;obtain⟨s',h1,h2,h3⟩:=tj h.2 j (by simpa using hj);exact⟨s',aK _ h1,by simpa using h2,by simpa using h3⟩
theorem tm:∀ {s:o9} {ds:List D},ic s ds=true->∀ j,j < ds.length->df s (ds.getD j .fh)=true
 | s,[],_,j,hj=>absurd hj (cY _)
 | s,d :: ds,h,0,_=>by
  have h:(df s d&&ic s ds)=true:=h;rw [aM] at h; simpa using h.1
 | s,d :: ds,h,j+1,hj=>by
  have h:(df s d&&ic s ds)=true:=h;rw [aM] at h; simpa using tm h.2 j (by simpa using hj)
theorem Ek{A:du}{s:az}{xs ys:List D}{vs ws:Array Value}{as bs:List Addr}(r1:iG s.heap vs.toList (oE xs) as)(r2:iG s.heap ws.toList (oE ys) bs)(n1:sV xs=true)(n2:sV ys=true)
  (hu:A.units+cA (oE xs) < cLine) (j:Nat) (h1:j < vs.size) (h2:j < ws.size):EqAt A s vs[j] ws[j] (i5 (xs.getD j .fh) (ys.getD j .fh)):=by
 obtain⟨Yn,q1⟩:=kD r1 j (by simpa using h1);obtain⟨Yk,q2⟩:=kD r2 j (by simpa using h2);have m1:=qH n1 j;have m2:=qH n2 j;have dp:=mi xs j;have:=eqAt_reads (pd (xs.getD j .fh)) (pd (ys.getD j .fh)) A s _ _ _ _ q1 q2 (ly _ m1) (ly _ m2) (by lia);rw [xO _ _ m1 m2] at this;simpa using this
theorem Ab:∀ (n:Nat) (sh:o9) (a b:D) (A:du) (s:az) (u v:Value) (as bs:List Addr),(pd a).depth<=n->df sh a=true->df sh b=true->nr a=true->nr b=true->Reads s.heap u (pd a) as->Reads s.heap v (pd b) bs->A.units+n < cLine->Bc A s u v (qp a b):=by
 intro n;induction n using Nat.strongRecOn with
 | _ n ih =>
 intro sh a b A s u v as bs hn h1 h2 n1 n2 r1 r2 hu;cases sh with
 | int =>
  first | obtain⟨_,rfl⟩:=dQ h1 | obtain⟨_,rfl⟩:=dO h1 | obtain⟨_,rfl⟩:=dP h1
  first | obtain⟨_,rfl⟩:=dQ h2 | obtain⟨_,rfl⟩:=dO h2 | obtain⟨_,rfl⟩:=dP h2
  cases r1; cases r2;intro prog w E Q hq;exact HT.zL A s _ _ _ _ prog w E Q hq
 | tup l =>
  first | obtain⟨_,rfl⟩:=dQ h1 | obtain⟨_,rfl⟩:=dO h1 | obtain⟨_,rfl⟩:=dP h1
  first | obtain⟨_,rfl⟩:=dQ h2 | obtain⟨_,rfl⟩:=dO h2 | obtain⟨_,rfl⟩:=dP h2
  rename_i xs ys;have n1:sV xs=true:=n1;have n2:sV ys=true:=n2;cases r1 with
  | tuple k1 k2 k3 k4 =>
   cases r2 with
   | tuple m1 m2 m3 m4 =>
    rename_i p o vs c p' o' ws c';have hd:(pd (.tup xs)).depth=cA (oE xs)+1:=rfl;obtain⟨n',rfl⟩:∃ n',n=n'+1:=⟨n - 1,by lia⟩;have z1:=readsAll_len k4;have z2:=readsAll_len m4;have e1:vs.size=xs.length:=by simpa using z1
    have e2:ws.size=ys.length:=by simpa using z2
    have base:=Jo (A:=A) (s:=s) (e:=fun j=>i5 (xs.getD j .fh) (ys.getD j .fh)) (lt:=fun j=>qp (xs.getD j .fh) (ys.getD j .fh)) ⟨_,k1,k2,_,k3⟩ ⟨_,m1,m2,_,m3⟩ (by lia) (fun j j1 j2=>by
     refine⟨Ek k4 m4 n1 n2 (by show A.units+1+_ < _; lia) j j1 j2,?_⟩;obtain⟨Yn,q1⟩:=kD k4 j (by simpa using j1);obtain⟨Yk,q2⟩:=kD m4 j (by simpa using j2);obtain⟨sj,hsj,g1,g2⟩:=tj (l:=l) (ds:=xs) h1 j (by lia);obtain⟨sj',abb,g1',Uh⟩:=tj (l:=l) (ds:=ys) h2 j (by lia);rw [g2] at Uh; cases Uh;have dp:=mi xs j;have:=ih n' (by lia) sj (xs.getD j .fh) (ys.getD j .fh) A.in1 s _ _ _ _ (by lia) g1 g1' (qH n1 j) (qH n2 j) q1 q2 (by show A.units+1+n' < cLine; lia);simpa using this)
    have fin:=qe xs ys (min xs.length ys.length) 0 (cq _) rfl;rw [e1,e2,fin] at base;exact base
 | lst l =>
  first | obtain⟨_,rfl⟩:=dQ h1 | obtain⟨_,rfl⟩:=dO h1 | obtain⟨_,rfl⟩:=dP h1
  first | obtain⟨_,rfl⟩:=dQ h2 | obtain⟨_,rfl⟩:=dO h2 | obtain⟨_,rfl⟩:=dP h2
  rename_i xs ys;have n1:sV xs=true:=n1;have n2:sV ys=true:=n2;cases r1 with
  | list k1 k2 k3 k4 =>
   cases r2 with
   | list m1 m2 m3 m4 =>
    rename_i p o vs c p' Yn o' ws c' Yk;have hd:(pd (.ez xs)).depth=cA (oE xs)+1:=rfl;obtain⟨n',rfl⟩:∃ n',n=n'+1:=⟨n - 1,by lia⟩;have z1:=readsAll_len k4;have z2:=readsAll_len m4;have e1:vs.size=xs.length:=by simpa using z1
    have e2:ws.size=ys.length:=by simpa using z2
    have base:=MD (A:=A) (s:=s) (e:=fun j=>i5 (xs.getD j .fh) (ys.getD j .fh)) (lt:=fun j=>qp (xs.getD j .fh) (ys.getD j .fh)) ⟨_,k1,k2,_,k3⟩ ⟨_,m1,m2,_,m3⟩ (by lia) (fun j j1 j2=>by
     refine⟨Ek k4 m4 n1 n2 (by show A.units+1+_ < _; lia) j j1 j2,?_⟩;obtain⟨Yn,q1⟩:=kD k4 j (by simpa using j1);obtain⟨Yk,q2⟩:=kD m4 j (by simpa using j2);have dp:=mi xs j;have:=ih n' (by lia) l (xs.getD j .fh) (ys.getD j .fh) A.in1 s _ _ _ _ (by lia) (tm (s:=l) (ds:=xs) h1 j (by lia)) (tm (s:=l) (ds:=ys) h2 j (by lia)) (qH n1 j) (qH n2 j) q1 q2 (by show A.units+1+n' < cLine; lia);simpa using this)
    have fin:=qe xs ys (min xs.length ys.length) 0 (cq _) rfl;rw [e1,e2,fin] at base;exact base
end K2
end
section
namespace K2
open PySem PySem.Spec PyProof.Rows L2 PySem.W
section
variable {prog:bG} {w:World} {A:du} {E:Value->az->Prop} {s:az}
theorem ON {at':Addr} {bM:List Value} {n:Nat} {P:PySem.Fin->az->Prop} (Ib:s.heap.get? at'=some (zb "list" bM.toArray n)) (oG:bM.length < 2)
  (done:P (.done (.ret .none)) { s with heap:=sortedHeap s.heap at' bM bM.toArray }):wpAny (model prog w) A (Builtin.«list.sort» ⟨[.ref at'],[]⟩) P E s:=by
 rw [list_sort_plain];have lt':at' < s.heap.objs.size:=aP Ib;refine af (listItems_at Ib rfl (af (listUpdate_at Ib rfl ?_)));obtain⟨c,hc⟩:∃ c,(s.heap.update at' (jt fun _=>#[])).get? at'=some (zb "list" #[] c):=⟨_,get?_update_seq Ib (fun _=>#[])⟩;refine af (seqEpoch_at hc rfl (af (RF (af (wpAny_newList (cP ?_))))));have h6:(((s.heap.update at' (jt fun _=>#[])).push (zb "tuple" bM.toArray 0)).push (zb "list" #[] 0)).get? at'=some (zb "list" #[] c):=by
  rw [Heap.get?_push_ne _ _ _ (by rw [size_push',ES]; exact bc (nF lt')),Heap.get?_push_ne _ _ _ (by rw [ES]; exact bc lt')];exact hc
 show wpAny (model prog w) A _ P E { s with heap:=((s.heap.update at' (jt fun _=>#[])).push (zb "tuple" bM.toArray 0)).push (zb "list" #[] 0) };dsimp only;have sz2:bM.toArray.size < 2:=by simpa using oG
 rw [if_pos sz2,if_pos sz2];refine af (aw ?_);rw [StateT.run_pure];refine af (aw ?_);dsimp only;have es:(bM.toArray.zip bM.toArray).map (·.2)=bM.toArray:=by
  apply Array.toList_inj.mp;simp [List.map_snd_zip]
 refine af (seqEpoch_at h6 rfl (af (listUpdate_at h6 rfl ?_ (hsz2:=by rw [show (arrOf (SortSt.mk' general' (bM.toArray.zip bM.toArray) #[] 7 none)).map (·.2)=bM.toArray from es,cH]; simp; lia))));simp only [bne_self_eq_false,aJ,if_false];refine aw ?_;rw [show (arrOf (SortSt.mk' general' (bM.toArray.zip bM.toArray) #[] 7 none)).map (·.2)=bM.toArray from es];exact done
theorem IK{l:Addr}{bM:List Value}{Q:Value->az->Prop}(hl:s.heap.IsList l bM.toArray)(oG:bM.length < 2)
  (done:Q (.ref (s.heap.objs.size+1)) { s with heap:=sortedAll s.heap bM bM.toArray }):wpAny (model prog w) A (call (.builtin "sorted") [.ref l]) Q E s:=by
 refine Calls.call_function_entry kind_sorted plain_sorted entry_sorted (args_sorted1 _) ?_;unfold Builtin.«sorted»;refine af (m:=checkCount "sorted" 1 1 _) (aw (af (collect_list hl (af (wpAny_newList ?_)))));have e1:((s.heap.push (zb "list" #[] 0)).update s.heap.objs.size (jt (·++bM.toArray))).objs.size=s.heap.objs.size+1:=by rw [ES,size_push']
 have e2:(((s.heap.push (zb "list" #[] 0)).update s.heap.objs.size (jt (·++bM.toArray))).push (zb "list" bM.toArray 0)).get? (s.heap.objs.size+1)=some (zb "list" bM.toArray 0):=by
  rw [<-e1]; exact bh _ rfl
 show wpAny _ _ _ _ _ { s with heap:=((s.heap.push (zb "list" #[] 0)).update s.heap.objs.size (jt (·++bM.toArray))).push (zb "list" bM.toArray 0) };rw [e1];refine af (cP (dM slot_list_sort ⟨_,e2,rfl⟩ entry_list_sort (ON e2 oG ⟨_,rfl,?_⟩) (args_list_sort _)));exact aw ⟨_,rfl,done⟩
end
section
open PySem.SeqAt
noncomputable def Q3(A:du)(s:az)(y x:Value)(b:Bool):Prop :=
 ∀ (prog:bG) (w:World) (E:Value->az->Prop) (Q:Bool->az->Prop),Q b s->wpAny (model prog w) A (oneLt' true y x) Q E s
theorem Jd{A:du}{s:az}{l b:Addr}{xs ys:Array Value}{e lt:Nat->Bool}(hl:s.heap.IsList l xs)(hb:s.heap.IsList b ys)(hu:A.units < cLine)
  (he:∀ j (h1:j < xs.size) (h2:j < ys.size),EqAt A.in1 s xs[j] ys[j] (e j)/\Bc A.in1 s xs[j] ys[j] (lt j)):Q3 A s (.ref l) (.ref b) (uF e lt xs.size ys.size (min xs.size ys.size) 0):=by
 intro prog w E Q hq;obtain⟨⟨cls,dd,data,sl⟩,ho,hc,n,hd⟩:=id hl;obtain⟨⟨QO,CK,data2,KS⟩,Cu,xq,n2,hd2⟩:=id hb;simp only at hc hd xq hd2;subst hc hd xq hd2;rw [oneLt'_eq];simp only [if_true];refine af (wpAny_cRoomFor hu (af (Ks (T:="list") ⟨_,ho,rfl⟩ vI ?_)));exact Iq vI ⟨_,ho,rfl⟩ LY (Ky _ _) (Cm l b xs ys n n2 dd CK sl KS e lt) ⟨ho,Cu,he,vE hq⟩
theorem FV{A:du}{s:az}{l b:Addr}{xs ys:Array Value}{e lt:Nat->Bool}(hl:s.heap.IsTuple l xs)(hb:s.heap.IsTuple b ys)(hu:A.units < cLine)
  (he:∀ j (h1:j < xs.size) (h2:j < ys.size),EqAt A.in1 s xs[j] ys[j] (e j)/\Bc A.in1 s xs[j] ys[j] (lt j)):Q3 A s (.ref l) (.ref b) (uF e lt xs.size ys.size (min xs.size ys.size) 0):=by
 intro prog w E Q hq;obtain⟨⟨cls,dd,data,sl⟩,ho,hc,n,hd⟩:=id hl;obtain⟨⟨QO,CK,data2,KS⟩,Cu,xq,n2,hd2⟩:=id hb;simp only at hc hd xq hd2;subst hc hd xq hd2;rw [oneLt'_eq];simp only [if_true];refine af (wpAny_cRoomFor hu (af (Ks (T:="tuple") ⟨_,ho,rfl⟩ mQ ?_)));exact Iq mQ ⟨_,ho,rfl⟩ uw (sg _ _) (zk l b xs ys n n2 dd CK sl KS e lt) ⟨ho,Cu,he,vE hq⟩
theorem Gv{n:Nat}{A:du}{s:az}{xs ys:List D}{vs ws:Array Value}{as bs:List Addr}(r1:iG s.heap vs.toList (oE xs) as)(r2:iG s.heap ws.toList (oE ys) bs)(n1:sV xs=true)(n2:sV ys=true)(hd:cA (oE xs)<=n)
  (hu:A.units+n < cLine) (hs:∀ j,j < xs.length->j < ys.length->∃ sh,df sh (xs.getD j .fh)=true/\df sh (ys.getD j .fh)=true) (j:Nat) (h1:j < vs.size) (h2:j < ws.size) :
  EqAt A s vs[j] ws[j] (i5 (xs.getD j .fh) (ys.getD j .fh))/\Bc A s vs[j] ws[j] (qp (xs.getD j .fh) (ys.getD j .fh)):=by
 have z1:=readsAll_len r1;have z2:=readsAll_len r2;have e1:vs.size=xs.length:=by simpa using z1
 have e2:ws.size=ys.length:=by simpa using z2
 refine⟨Ek r1 r2 n1 n2 (by lia) j h1 h2,?_⟩;obtain⟨Yn,q1⟩:=kD r1 j (by simpa using h1);obtain⟨Yk,q2⟩:=kD r2 j (by simpa using h2);obtain⟨sh,g1,g2⟩:=hs j (by lia) (by lia);have dp:=mi xs j;have:=Ab n sh (xs.getD j .fh) (ys.getD j .fh) A s _ _ _ _ (by lia) g1 g2 (qH n1 j) (qH n2 j) q1 q2 hu;simpa using this
theorem yh{n:Nat}{sh:o9}{a b:D}{A:du}{s:az}{u v:Value}{as bs:List Addr}(hn:(pd a).depth<=n)(h1:df sh a=true)(h2:df sh b=true)(n1:nr a=true)(n2:nr b=true)(r1:Reads s.heap u (pd a) as)(r2:Reads s.heap v (pd b) bs)
  (hu:A.units+n < cLine):Q3 A s u v (qp a b):=by
 cases sh with
 | int =>
  first | obtain⟨_,rfl⟩:=dQ h1 | obtain⟨_,rfl⟩:=dO h1 | obtain⟨_,rfl⟩:=dP h1
  first | obtain⟨_,rfl⟩:=dQ h2 | obtain⟨_,rfl⟩:=dO h2 | obtain⟨_,rfl⟩:=dP h2
  cases r1; cases r2;intro prog w E Q hq;exact oneLt_int hq
 | tup l =>
  first | obtain⟨_,rfl⟩:=dQ h1 | obtain⟨_,rfl⟩:=dO h1 | obtain⟨_,rfl⟩:=dP h1
  first | obtain⟨_,rfl⟩:=dQ h2 | obtain⟨_,rfl⟩:=dO h2 | obtain⟨_,rfl⟩:=dP h2
  rename_i xs ys;have n1:sV xs=true:=n1;have n2:sV ys=true:=n2;cases r1 with
  | tuple k1 k2 k3 k4 =>
   cases r2 with
   | tuple m1 m2 m3 m4 =>
    rename_i p o vs c p' o' ws c';have hd:(pd (.tup xs)).depth=cA (oE xs)+1:=rfl;obtain⟨n',rfl⟩:∃ n',n=n'+1:=⟨n - 1,by lia⟩;have z1:=readsAll_len k4;have z2:=readsAll_len m4;have e1:vs.size=xs.length:=by simpa using z1
    have e2:ws.size=ys.length:=by simpa using z2
    have base:=FV (A:=A) (s:=s) ⟨_,k1,k2,_,k3⟩ ⟨_,m1,m2,_,m3⟩ (by lia) (Gv (A:=A.in1) (n:=n') k4 m4 n1 n2 (by lia) (by show A.units+1+n' < cLine; lia) fun j j1 j2=>by
     obtain⟨sj,hsj,g1,g2⟩:=tj (l:=l) (ds:=xs) h1 j j1;obtain⟨sj',abb,g1',Uh⟩:=tj (l:=l) (ds:=ys) h2 j j2;rw [g2] at Uh; cases Uh;exact⟨sj,g1,g1'⟩)
    have fin:=qe xs ys (min xs.length ys.length) 0 (cq _) rfl;rw [e1,e2,fin] at base;exact base
 | lst l =>
  first | obtain⟨_,rfl⟩:=dQ h1 | obtain⟨_,rfl⟩:=dO h1 | obtain⟨_,rfl⟩:=dP h1
  first | obtain⟨_,rfl⟩:=dQ h2 | obtain⟨_,rfl⟩:=dO h2 | obtain⟨_,rfl⟩:=dP h2
  rename_i xs ys;have n1:sV xs=true:=n1;have n2:sV ys=true:=n2;cases r1 with
  | list k1 k2 k3 k4 =>
   cases r2 with
   | list m1 m2 m3 m4 =>
    rename_i p o vs c p' Yn o' ws c' Yk;have hd:(pd (.ez xs)).depth=cA (oE xs)+1:=rfl;obtain⟨n',rfl⟩:∃ n',n=n'+1:=⟨n - 1,by lia⟩;have z1:=readsAll_len k4;have z2:=readsAll_len m4;have e1:vs.size=xs.length:=by simpa using z1
    have e2:ws.size=ys.length:=by simpa using z2
    have base:=Jd (A:=A) (s:=s) ⟨_,k1,k2,_,k3⟩ ⟨_,m1,m2,_,m3⟩ (by lia) (Gv (A:=A.in1) (n:=n') k4 m4 n1 n2 (by lia) (by show A.units+1+n' < cLine; lia) fun j j1 j2=>⟨l,tm (s:=l) (ds:=xs) h1 j j1,tm (s:=l) (ds:=ys) h2 j j2⟩);have fin:=qe xs ys (min xs.length ys.length) 0 (cq _) rfl;rw [e1,e2,fin] at base;exact base
theorem DQ{prog:bG}{w:World}{A:du}{s:az}{b fin:Bool}{Q:Bool->az->Prop}{n:Nat}(hu:A.units+n < cLine):∀ (l:List o9) (xs ys:List D) (vs ws:List Value) (as bs:List Addr) (i:Nat),fN l xs=true->fN l ys=true->sV xs=true->sV ys=true ->
  iG s.heap vs (oE xs) as->iG s.heap ws (oE ys) bs->cA (oE xs)<=n->fin=false->Q (oF xs ys) s->KatLex prog w A b fin Q (vs.zip ws) i s:=by
 intro l xs;induction xs generalizing l with
 | nil =>
  intro ys vs ws as bs i h1 h2 n1 n2 r1 r2 hd hf hq;cases r1;cases l with
  | nil =>
   cases ys with
   | nil=>cases r2; subst hf; exact hq
   | cons _ _=>cases h2
  | cons _ _=>cases h1
 | cons x xs ih =>
  intro ys vs ws as bs i h1 h2 n1 n2 r1 r2 hd hf hq;cases l with
  | nil=>cases h1
  | cons sh l =>
  cases ys with
  | nil=>cases h2
  | cons y ys =>
  cases r1 with
  | @cons v vs _ _ _ _ a1 a2 =>
  cases r2 with
  | @cons u ws _ _ _ _ b1 b2 =>
  have h1:(df sh x&&fN l xs)=true:=h1;have h2:(df sh y&&fN l ys)=true:=h2;have n1:(nr x&&sV xs)=true:=n1;have n2:(nr y&&sV ys)=true:=n2;rw [aM] at h1 h2 n1 n2;have XS:(pd x).depth<=n/\cA (oE xs)<=n:=by
   have hd:cA (pd x :: oE xs)<=n:=hd;simp only [cA] at hd;lia
  show KatLex prog w A b fin Q ((v,u) :: vs.zip ws) i s;have eq:=eqAt_reads (pd x) (pd y) A s _ _ _ _ a1 b1 (ly _ n1.1) (ly _ n2.1) (by lia);rw [xO _ _ n1.1 n2.1] at eq;refine kat_cons (eq prog w _ _ ?_);rw [qM] at hq;cases q:i5 x y with
  | true =>
   rw [q,if_pos rfl] at hq;exact kat_yes (ih l ys vs ws _ _ (i+1) h1.2 h2.2 n1.2 n2.2 a2 b2 XS.2 hf hq)
  | false =>
   rw [q,if_neg (by simp)] at hq;refine kat_no ?_;cases c:(b&&i == 0) with
   | true=>exact yh XS.1 h1.1 h2.1 n1.1 n2.1 a1 b1 hu prog w _ Q hq
   | false=>exact kat_one v u (Ab n sh x y A s _ _ _ _ XS.1 h1.1 h2.1 n1.1 n2.1 a1 b1 hu prog w _ _ hq)
end
noncomputable def mw{α:Type}(n:Nat)(P:α->Prop):KasT α->Prop
 | .ret a=>P a
 | .ask i j k=>i < n/\j < n/\∀ b,mw n P (k b)
theorem mw.bind{α β:Type}{n:Nat}{P:α->Prop}{P':β->Prop}{f:α->KasT β}:∀ {t:KasT α},mw n P t->(∀ a,P a->mw n P' (f a))->mw n P' (t.bind f)
 | .ret a,q,h=>h a q
 | .ask i j k,⟨q1,q2,q3⟩,h=>⟨q1,q2,fun b=>mw.bind (q3 b) h⟩
theorem Gs{α:Type}{n:Nat}{lt:Nat->Nat->Bool}{cmp:Nat->Nat->(Bool->az->Prop)->az->Prop}{s:az}{Q:α->az->Prop}(hc:∀ i j,i < n->j < n->∀ C:Bool->az->Prop,C (lt i j) s->cmp i j C s) :
  ∀ (t:KasT α),mw n (fun _=>True) t->Q (iV lt t) s->t.kasWp cmp Q s
 | .ret a,_,q=>q
 | .ask i j k,⟨h1,h2,h3⟩,q=>hc i j h1 h2 _ (Gs hc (k (lt i j)) (h3 _) q)
noncomputable def Bd(n:Nat)(p:Array Nat):Prop:=0 < n/\∀ x∈p,x < n
theorem Bd.at{n:Nat}{p:Array Nat}(h:Bd n p)(k:Nat):p.getD k 0 < n:=by
 by_cases hk:k < p.size
 ·have:p.getD k 0=p[k]:=by simp [KH,hk]
  rw [this]; exact h.2 _ (Array.getElem_mem hk)
 ·have:p.getD k 0=0:=by simp [KH,hk]
  rw [this]; exact h.1
theorem Bd.perm{n:Nat}{p q:Array Nat}(h:Bd n p)(hp:q.Perm p):Bd n q:=⟨h.1,fun x hx=>h.2 x (hp.mem_iff.mp hx)⟩
theorem EA{n:Nat}{p:Array Nat}(h:Bd n p):∀ (f k:Nat),mw n (fun _=>True) (r8 p f k)
 | 0,k=>trivial
 | f+1,k=>⟨h.at _,h.at _,fun b=>by
  show mw n _ (if b=true then xu k else r8 p f (k+1));split
  ·trivial
  ·exact EA h f (k+1)⟩
theorem xc{n:Nat}:∀ (f:Nat) (p:Array Nat) (k q:Nat),Bd n p->mw n (fun r=>Bd n r.1) (mx f p k q)
 | 0,p,k,q,h=>h
 | f+1,p,k,q,h=>⟨h.at _,h.at _,fun b=>by
  show mw n _ (if b=true then (if q > 0 then mx f (g8 p (k - (q+1)) k) (k+1) 0 else mx f p (k+1) 0) else .ask (p.getD (k - 1) 0) (p.getD k 0) fun d=>if d=true then .ret (p,k,q) else mx f p (k+1) (q+1));split
  ·split
   ·exact xc f _ _ _ (h.perm (kC _ _ _))
   ·exact xc f _ _ _ h
  ·refine⟨h.at _,h.at _,fun d=>?_⟩;show mw n _ (if d=true then xu (p,k,q) else mx f p (k+1) (q+1));split
   ·exact h
   ·exact xc f _ _ _ h⟩
theorem Hu{n:Nat}{p:Array Nat}(h:Bd n p)(k m:Nat):mw n (fun r=>Bd n r.2) (N9 k m p) :=
 mw.bind (EA (h.perm (kC _ _ _)) _ _) fun _ _=>h.perm (kC _ _ _)
theorem xb{n:Nat}{p:Array Nat}(h:Bd n p)(k m:Nat):mw n (fun r=>Bd n r.2) (zd k m p) :=
 mw.bind (xc _ _ _ _ h) fun r hr=>by
  split
  ·exact Hu (hr.perm (kC _ _ _)) _ _
  ·exact Hu hr _ _
theorem Nv{n:Nat}{p:Array Nat}(h:Bd n p)(m:Nat):mw n (fun r=>Bd n r.2) (kas_count m p) :=
 mw.bind (EA h _ _) fun k _=>by
  split
  ·exact h
  ·split
   ·refine⟨h.at _,h.at _,fun b=>?_⟩;show mw n _ (if b=true then xu (k,p) else zd k m (g8 p 0 k));split
    ·exact h
    ·exact xb (h.perm (kC _ _ _)) _ _
   ·exact xb h _ _
theorem xU{n:Nat}{p:Array Nat}(h:Bd n p)(k:Nat):∀ (f l r:Nat),mw n (fun _=>True) (kn p k f l r)
 | 0,l,r=>trivial
 | f+1,l,r=>by
  show mw n _ (if l>=r then xu l else .ask (p.getD k 0) (p.getD ((l+r) / 2) 0) fun c=>if c=true then kn p k f l ((l+r) / 2) else kn p k f ((l+r) / 2+1) r);split
  ·trivial
  ·refine⟨h.at _,h.at _,fun b=>?_⟩;show mw n _ (if b=true then kn p k f l ((l+r) / 2) else kn p k f ((l+r) / 2+1) r);split
   ·exact xU h k f _ _
   ·exact xU h k f _ _
theorem LR{n:Nat}:∀ (f:Nat) (p:Array Nat) (k:Nat),Bd n p->mw n (fun _=>True) (kas_bin f p k)
 | 0,p,k,h=>trivial
 | f+1,p,k,h=>mw.bind (xU h k _ _ _) fun l _=>LR f _ _ (h.perm (bubble_perm _ _ _))
theorem QY{n:Nat}(h:0 < n):mw n (fun _=>True) (kas_sort n) :=
 mw.bind (Nv ⟨h,fun x hx=>by simpa using hx⟩ n) fun r hr=>by
  split
  ·exact LR _ _ _ hr
  ·trivial
end K2
end
section
namespace K2
open PySem PySem.Spec PyProof.Rows L2 PySem.W
mutual
theorem x6{h h':Heap}(hk:∀ b o vs n,o.data=.seq vs n->h.get? b=some o->h'.get? b=some o):∀ (d:D) {v:Value} {as:List Addr},nr d=true->Reads h v (pd d) as->Reads h' v (pd d) as
 | .fh,_,_,_,r=>by cases r; exact .none
 | .bl b,_,_,_,r=>by cases r; exact .bool b
 | .int i,_,_,_,r=>by cases r; exact .int i _
 | .str x,_,_,_,r=>by cases r; exact .str x _
 | .tup ds,_,_,n,r=>by
  cases r with
  | tuple h1 h2 h3 h4=>exact .tuple (hk _ _ _ _ h3 h1) h2 h3 (nO hk ds n h4)
 | .ez ds,_,_,n,r=>by
  cases r with
  | list h1 h2 h3 h4=>exact .list (hk _ _ _ _ h3 h1) h2 h3 (nO hk ds n h4)
 | .gZ _,_,_,n,_=>by cases n
 | .ref _,_,_,n,_=>by cases n
 | .exc _,_,_,n,_=>by cases n
theorem nO{h h':Heap}(hk:∀ b o vs n,o.data=.seq vs n->h.get? b=some o->h'.get? b=some o):∀ (ds:List D) {vs:List Value} {as:List Addr},sV ds=true->iG h vs (oE ds) as->iG h' vs (oE ds) as
 | [],_,_,_,r=>by cases r; exact .nil
 | d :: ds,_,_,n,r=>by
  have n:(nr d&&sV ds)=true:=n;rw [aM] at n;cases r with
  | cons r1 r2=>exact .cons (x6 hk d n.1 r1) (nO hk ds n.2 r2)
end
mutual
theorem IL(G:Gp):∀ (sh:o9) (d:D) (n:Nat),df sh d=true->Uj sh<=n->Sn G n d d
 | .int,.int i,n,_,_=>.int i
 | .tup l,.tup ds,n,h,hn=>by
  have hn:Qv l+1<=n:=hn;obtain⟨m,rfl⟩:∃ m,n=m+1:=⟨n - 1,by lia⟩;exact KP G l ds m h (by lia)
 | .lst s,.ez ds,n,h,hn=>by
  have hn:Uj s+1<=n:=hn;obtain⟨m,rfl⟩:∃ m,n=m+1:=⟨n - 1,by lia⟩;exact KQ G s ds m h (by lia)
theorem KP(G:Gp):∀ (l:List o9) (ds:List D) (m:Nat),fN l ds=true->Qv l<=m->Sn G (m+1) (.tup ds) (.tup ds)
 | [],[],m,_,_=>.IH
 | s :: l,d :: ds,m,h,hm=>by
  have h:(df s d&&fN l ds)=true:=h;have hm:max (Uj s) (Qv l)<=m:=hm;rw [aM] at h;exact .sx (IL G s d m h.1 (by lia)) (KP G l ds m h.2 (by lia))
theorem KQ(G:Gp):∀ (s:o9) (ds:List D) (m:Nat),ic s ds=true->Uj s<=m->Sn G (m+1) (.ez ds) (.ez ds)
 | s,[],m,_,_=>.IS
 | s,d :: ds,m,h,hm=>by
  have h:(df s d&&ic s ds)=true:=h;rw [aM] at h;exact .Cc (IL G s d m h.1 hm) (KQ G s ds m h.2 hm)
end
theorem getD_at{α:Type}(xs:List α)(d:α){i:Nat}(h:i < xs.length):xs.getD i d=xs[i]:=by
 rw [a8,ax h]; rfl
theorem sW{α:Type}(xs:List α)(d:α):(c9 xs.length).map (fun i=>xs.getD i d)=xs:=by
 refine List.ext_getElem (by simp) fun i h1 h2=>?_;rw [oN,rO];exact getD_at _ _ h2
theorem Fe{h:Heap}{s1:o9}{l:List o9}:∀ (zs:List D) (vs:List Value),(∀ z∈zs,df (.tup (s1 :: l)) z=true)->(∀ i,i < vs.length->∃ as,Reads h (vs.getD i .none) (pd (zs.getD i .fh)) as)->vs.length=zs.length ->
  ∃ fs,KatTups h vs fs/\fs.length=vs.length/\∀ f∈fs,∃ d as,df s1 d=true/\Reads h f (pd d) as:=by
 intro zs;induction zs with
 | nil =>
  intro vs _ _ h;have:vs=[]:=List.length_eq_zero_iff.mp h;subst this;exact⟨[],trivial,rfl,fun _ h=>by cases h⟩
 | cons z zs ih =>
 intro vs hs hr hl;cases vs with
 | nil=>cases hl
 | cons v vs =>
  obtain⟨fs,h1,h2,h3⟩:=ih vs (fun z hz=>hs z (aK _ hz)) (fun i hi=>by
   obtain⟨as,r⟩:=hr (i+1) (by simpa using hi);exact⟨as,by simpa using r⟩) (by simpa using hl)
  obtain⟨as,r⟩:=hr 0 (by simp);have hz:=hs z (by simp);simp only [List.getD_cons_zero] at r;cases z <;> first | (cases hz; done) | skip
  rename_i ds;cases ds with
  | nil=>cases hz
  | cons d ds =>
   have hz:(df s1 d&&fN l ds)=true:=hz;rw [aM] at hz;cases r with
   | tuple k1 k2 k3 k4 =>
    rename_i p o ws c;have k5:iG h ws.toList (pd d :: oE ds) as:=k4;cases q:ws.toList with
    | nil=>rw [q] at k5; cases k5
    | cons f rest =>
     rw [q] at k5;cases k5 with
     | cons r1 r2 =>
      have hf:ws[0]?=some f:=by
       have:ws.toList[0]?=some f:=by rw [q]; rfl
       simpa using this
      refine⟨f :: fs,.cons k1 k2 k3 hf h1,by simp [h2],fun g hg=>?_⟩;rcases List.mem_cons.mp hg with rfl | hg
      ·exact⟨d,_,hz.1,r1⟩
      ·exact h3 g hg
noncomputable def Ov:o9->Value
 | .int=>.type "int"
 | .tup _=>.type "tuple"
 | .lst _=>.type "list"
theorem Ck{M:Model}{h:Heap}{sh:o9}{d:D}{v:Value}{as:List Addr}(hs:df sh d=true)(r:Reads h v (pd d) as):Looks M h (typeOf v) (Ov sh):=by
 cases sh with
 | int =>
  cases d <;> first | (cases hs; done) | skip
  cases r;exact .now
 | tup l =>
  cases d <;> first | (cases hs; done) | skip
  cases r with
  | tuple k1 k2 k3 k4 =>
   rename_i p o ws c;have:Looks M h (typeOf (.ref p)) o.cls:=(Looks.ld k1).andThen .now;rw [k2] at this; exact this
 | lst l =>
  cases d <;> first | (cases hs; done) | skip
  cases r with
  | list k1 k2 k3 k4 =>
   rename_i p o ws c as;have:Looks M h (typeOf (.ref p)) o.cls:=(Looks.ld k1).andThen .now;rw [k2] at this; exact this
theorem MM{prog:bG}{w:World}{A:du}{s:az}{E:Value->az->Prop}{Q:Bool->az->Prop}{n:Nat}{b:Bool}{l:List o9}{a c:D}{u v:Value}{as bs:List Addr}(hn:(pd a).depth<=n+1)(h1:df (.tup l) a=true)(h2:df (.tup l) c=true)(n1:nr a=true)(n2:nr c=true)
  (r1:Reads s.heap u (pd a) as) (r2:Reads s.heap v (pd c) bs) (hu:A.units+n < cLine) (hq:Q (qp a c) s):wpAny (model prog w) A (keyLt' (tuples' b) u v) Q E s:=by
 first | obtain⟨_,rfl⟩:=dQ h1 | obtain⟨_,rfl⟩:=dO h1 | obtain⟨_,rfl⟩:=dP h1
 first | obtain⟨_,rfl⟩:=dQ h2 | obtain⟨_,rfl⟩:=dO h2 | obtain⟨_,rfl⟩:=dP h2
 rename_i xs ys;cases r1 with
 | tuple k1 k2 k3 k4 =>
  cases r2 with
  | tuple m1 m2 m3 m4 =>
   rename_i p o vs c p' o' ws c';have z1:=readsAll_len k4;have z2:=readsAll_len m4;have e1:vs.size=xs.length:=by simpa using z1
   have e2:ws.size=ys.length:=by simpa using z2
   have el:∀ (l:List o9) (xs ys:List D),fN l xs=true->fN l ys=true->xs.length=ys.length:=by
    intro l;induction l with
    | nil =>
     intro xs ys h1 h2;cases xs with
     | nil=>cases ys with
      | nil=>rfl
      | cons _ _=>cases h2
     | cons _ _=>cases h1
    | cons s l ih =>
     intro xs ys h1 h2;cases xs with
     | nil=>cases h1
     | cons x xs =>
      cases ys with
      | nil=>cases h2
      | cons y ys =>
       have h1:(df s x&&fN l xs)=true:=h1;have h2:(df s y&&fN l ys)=true:=h2;rw [aM] at h1 h2;rw [ai,ai,ih xs ys h1.2 h2.2]
   have hd:(pd (.tup xs)).depth=cA (oE xs)+1:=rfl;refine kat_lt k1 k3 m1 m3 (DQ (n:=n) hu l xs ys _ _ _ _ 0 h1 h2 n1 n2 k4 m4 (by lia) (decide_eq_false (by rw [e1,e2,el l xs ys h1 h2]; lia)) hq)
section
variable {X:Cx}
theorem Cj{x:D}{G:Gp}{zs:List D}(ty:C8 x G)(hi:itemsOf x G=some zs):ma x G=some zs:=by
 cases x <;> first | exact ty.elim | exact hi
theorem nj (hc:X.calm=true) (hu:X.A.units+64 < cLine):rq X (.builtin "sorted") rm:=by
 intro pins s σ H G xs ds us Q I ab rx rd q;unfold rm at q;split at q
 ·rename_i x;obtain⟨sh,zs,ty,hi,nY,cN,h64,q⟩:=q;obtain⟨w1,rfl,Dl⟩:=rd.one;obtain⟨u,rfl,ru⟩:=rx.one;obtain⟨l,vs,bM,rfl,rv,rs,hl,_⟩:=je I ab ru Dl (Cj ty hi);have yD:=rv.length;have vA:=rs.length;have hsz:bu=16777216:=cH;have hz:∀ z∈zs,df sh z=true:=fun z h=>List.all_eq_true.mp nY z h;by_cases oG:bM.length < 2
  ·refine IK hl oG ?_;obtain⟨e,he⟩:=sortedAll_at s.heap bM bM.toArray;have hp:H (s.heap.objs.size+1)=none:=I.cN.fresh (zi _);have es:sD zs=zs:=vT sh hz (.refl _) (by
    match zs,vA,oG with
    | [],_,_=>exact .nil
    | [z],_,_=>exact List.pairwise_singleton _ _
    | _ :: _ :: _,h,f=>exact absurd f (by rw [<-yD,h]; simp))
   rw [es] at q;refine⟨.ref (s.heap.objs.size+1),upd H (s.heap.objs.size+1) (.lst vs),.ref _,_,I.laid (t':=s.toks) (fun b o e=>sortedAll_old e) (zi _) ?_,.Jk ab hp rs,rfl,.ref _,q _ (ab.free hp)⟩;exact⟨by lia,bM,e,rv,he⟩
  ·obtain⟨m,F0⟩:=I.fr;have nz:0 < zs.length:=by lia
   have nL:∀ b o vs n,o.data=.seq vs n->s.heap.get? b=some o->b≠X.env.locals:=fun b o vs n e1 e2 z=>by
    obtain⟨o',es,ep,SU,DY,_⟩:=F0.ns;rw [z,SU] at e2; cases e2; rw [DY] at e1; cases e1
   unfold Ph at cN;rw [aM] at cN;have hdp:Uj sh<=7:=of_decide_eq_true cN.1;have sn:∀ z∈zs,Sn G 7 z z:=fun z h=>IL G sh z 7 (hz z h) hdp;refine kat_sorted F0 Ga hl (by lia) (by lia) fun Dd e1 h' F N xK=>?_;obtain⟨kk,ns⟩:=xJ I F0 F fun p hp=>N p (aK _ hp);have KW:∀ i,i < bM.length->∃ as,Reads h' (bM.getD i .none) (pd (zs.getD i .fh)) as:=fun i hi=>by
    have i1:i < zs.length:=by lia
    have i2:i < vs.length:=by lia
    have g1:zs.getD i .fh=zs[i]:=getD_at _ _ i1;have g2:bM.getD i .none=bM[i]:=getD_at _ _ hi;obtain⟨v,hv,ZW⟩:=rs.get (ax i1);obtain⟨u,DU,ZT⟩:=rv.get hv;rw [ax hi] at DU;cases DU;obtain⟨as,r⟩:=(k8 I ab (sn _ (e8 i1))).1 v _ ZW ZT;rw [g1,g2];exact⟨as,x6 (fun b o vs n e1 e2=>kk b o (nL b o vs n e1 e2) e2) _ (sn _ (e8 i1)).nr r⟩
   have Di:∀ i,i < zs.length->df sh (zs.getD i .fh)=true:=fun i hi=>by rw [getD_at _ _ hi]; exact hz _ (e8 hi)
   have YL:∀ i,i < zs.length->nr (zs.getD i .fh)=true:=fun i hi=>by rw [getD_at _ _ hi]; exact(sn _ (e8 hi)).nr
   have dpz:∀ i,i < zs.length->(pd (zs.getD i .fh)).depth<=7:=fun i hi=>by rw [getD_at _ _ hi]; exact El (sn _ (e8 hi))
   let zz:Nat->D:=fun i=>if i < zs.length then zs.getD i .fh else zs.getD 0 .fh
   have WB:∀ i,df sh (zz i)=true:=fun i=>by
    show df sh (if i < zs.length then zs.getD i .fh else zs.getD 0 .fh)=true;split
    ·exact Di i (by assumption)
    ·exact Di 0 nz
   let lt:Nat->Nat->Bool:=fun i j=>qp (zz i) (zz j)
   have swo:Ny lt:=⟨fun i j h=>Ci sh (WB i) (WB j) h,fun i j k h1 h2=>Aa sh (WB i) (WB j) (WB k) h1 h2⟩;have lte:∀ i j,i < zs.length->j < zs.length->lt i j=qp (zs.getD i .fh) (zs.getD j .fh):=fun i j hi hj=>by
    show qp (if i < zs.length then _ else _) (if j < zs.length then _ else _)=_;rw [if_pos hi,if_pos hj]
   obtain⟨p,ep,Gz,psz,hup⟩:=OQ swo (n:=bM.length) (by lia);have hA2:X.A.in1.in1.units=X.A.units+2:=rfl;have ask:∀ κ:SortKind,(∀ i j,i < bM.length->j < bM.length->∀ C:Bool->az->Prop,C (qp (zs.getD i .fh) (zs.getD j .fh)) { s with heap:=h' }->kas_ask X.prog X.w X.A.in1.in1 κ bM i j C { s with heap:=h' }) ->
     (kas_sort bM.length).kasWp (kas_ask X.prog X.w X.A.in1.in1 κ bM) (fun p WT=>KasFin X.base X.env.locals m Dd e1 (p.toList.map fun i=>bM.getD i gf) (fun s3=>tH X pins σ H G Q (.ref Dd) s3) WT) { s with heap:=h' }:=by
    intro κ hk;refine Gs (lt:=lt) (n:=bM.length) (fun i j i1 i2 C hC=>hk i j i1 i2 C (by rw [<-lte i j (by lia) (by lia)]; exact hC)) _ (QY (by lia)) ?_;rw [ep];refine KasFin.intro (g:=fun o=>(Dd,o) :: ur X.base s.heap X.env.locals) F N (.head (fun q hq z=>absurd (xK q hq) (by rw [z]; exact i6 _))) fun h2 c F2 N2=>?_;obtain⟨k2,ns2⟩:=xJ I F0 F2 fun p hp=>N2 p (aK _ hp);have hD:s.heap.get? Dd=none:=by
     have nD:=N _ bJ;cases qd:s.heap.get? Dd with
     | none=>rfl
     | some o=>exact absurd (xK _ (yk nD.2.1 nD.2.2 qd)) (i6 _)
    have hp:H Dd=none:=Lz I.cN hD;have rvp:Vals (p.toList.map fun i=>vs.getD i .fh) (p.toList.map fun i=>bM.getD i gf):=by
     have:∀ (ps:List Nat),(∀ i∈ps,i < bM.length)->Vals (ps.map fun i=>vs.getD i .fh) (ps.map fun i=>bM.getD i gf):=by
      intro ps;induction ps with
      | nil=>intro _; exact .nil
      | cons i ps ih =>
       intro hh;have hi:=hh i (by simp);refine .cons ?_ (ih fun j hj=>hh j (aK _ hj));have i2:i < vs.length:=by lia
       obtain⟨u,DU,ZT⟩:=rv.get (ax i2);rw [ax hi] at DU;cases DU;show RelV (vs.getD i .fh) (bM.getD i .none);rw [getD_at _ _ i2,getD_at _ _ hi]; exact ZT
     exact this _ fun i hi=>by simpa using Gz.mem_iff.mp hi
    have rsp:bC X.K H (p.toList.map fun i=>vs.getD i .fh) (p.toList.map fun i=>zs.getD i .fh):=by
     have:∀ (ps:List Nat),(∀ i∈ps,i < bM.length)->bC X.K H (ps.map fun i=>vs.getD i .fh) (ps.map fun i=>zs.getD i .fh):=by
      intro ps;induction ps with
      | nil=>intro _; exact .nil
      | cons i ps ih =>
       intro hh;have hi:=hh i (by simp);refine .cons ?_ (ih fun j hj=>hh j (aK _ hj));have i2:i < vs.length:=by lia
       have i1:i < zs.length:=by lia
       obtain⟨v,hv,r⟩:=rs.get (ax i1);rw [ax i2] at hv;cases hv;show cK X.K H (vs.getD i .fh) (zs.getD i .fh);rw [getD_at _ _ i2,getD_at _ _ i1]; exact r
     exact this _ fun i hi=>by simpa using Gz.mem_iff.mp hi
    have es:sD zs=p.toList.map fun i=>zs.getD i .fh:=by
     refine vT sh hz ?_ ?_
     ·have h1:(p.toList.map fun i=>zs.getD i .fh).Perm ((c9 zs.length).map fun i=>zs.getD i .fh):=by
       have:bM.length=zs.length:=by lia
       rw [<-this];exact Gz.map _
      rw [sW] at h1;exact h1
     ·rw [iP,List.pairwise_iff_getElem];intro i j hi hj MX;have g1:gA p i=p.toList[i]:=by
       have:i < p.size:=by simpa using hi
       simp [gA,KH,this]
      have g2:gA p j=p.toList[j]:=by
       have:j < p.size:=by simpa using hj
       simp [gA,KH,this]
      have bi:p.toList[i] < bM.length:=by simpa using Gz.mem_iff.mp (e8 hi)
      have bj:p.toList[j] < bM.length:=by simpa using Gz.mem_iff.mp (e8 hj)
      have:=hup i j (by lia) (by have:j < p.toList.length:=hj; rw [bZ,psz] at this; exact this);rw [g1,g2,lte _ _ (by lia) (by lia)] at this;exact this
    rw [es] at q;have ln:(p.toList.map fun i=>vs.getD i .fh).length<=bu:=by rw [ao,bZ,psz]; lia
    refine⟨.ref Dd,upd H Dd (.lst (p.toList.map fun i=>vs.getD i .fh)),.ref _,_,Inv.T7 (t':=s.toks) I k2 ns2 hD ?_,.Jk ab hp rsp,rfl,.ref _,q _ (ab.free hp)⟩;exact⟨ln,_,c,rvp,(N2 _ bJ).1⟩
   have gen:∀ i j,i < bM.length->j < bM.length->∀ C:Bool->az->Prop,C (qp (zs.getD i .fh) (zs.getD j .fh)) { s with heap:=h' }->wpAny (model X.prog X.w) X.A.in1.in1 (keyLt' oneType' (bM.getD i gf) (bM.getD j gf)) C (fun _ _=>False) { s with heap:=h' }:=by
    intro i j hi hj C hC;obtain⟨as,r1⟩:=KW i hi;obtain⟨bs,r2⟩:=KW j hj;rw [keyLt'_oneType];exact yh (s:={ s with heap:=h' }) (n:=7) (dpz i (by lia)) (Di i (by lia)) (Di j (by lia)) (YL i (by lia)) (YL j (by lia)) r1 r2 (by rw [hA2]; lia) X.prog X.w _ C hC
   have lk:∀ v∈bM,Looks (model X.prog X.w) h' (typeOf v) (Ov sh):=fun v hv=>by
    obtain⟨i,hi,rfl⟩:=kW hv;obtain⟨as,r⟩:=KW i hi;rw [getD_at _ _ hi] at r;exact Ck (Di i (by lia)) r
   cases sh with
   | int=>exact kas_kind (s:={ s with heap:=h' }) (T:=.type "int") (by lia) lk rfl rfl (ask oneType' gen)
   | lst ss=>exact kas_kind (s:={ s with heap:=h' }) (T:=.type "list") (by lia) lk rfl rfl (ask oneType' gen)
   | tup ss =>
    cases ss with
    | nil=>exact absurd cN.2 (by simp)
    | cons s1 ss =>
     obtain⟨fs,t1,t2,t3⟩:=Fe (h:=h') zs bM hz KW (by lia);refine kat_kind (s:={ s with heap:=h' }) (T:=Ov s1) t1 (by lia) (fun f hf=>?_) (by cases s1 <;> rfl) (ask _ fun i j hi hj C hC=>?_)
     ·obtain⟨d,as,h1,h2⟩:=t3 f hf;exact Ck h1 h2
     ·obtain⟨as,r1⟩:=KW i hi;obtain⟨bs,r2⟩:=KW j hj;exact MM (s:={ s with heap:=h' }) (n:=7) (by have:=dpz i (by lia); lia) (Di i (by lia)) (Di j (by lia)) (YL i (by lia)) (YL j (by lia)) r1 r2 (by rw [hA2]; lia) hC
 ·exact q.elim
end
end K2
end
section
namespace L2
open PySem PySem.Spec PyProof.Rows
section
variable {prog:bG} {w:World} {A:du} {E:Value->az->Prop} {s:az}
theorem Js{d:Addr}{od:Obj}{es:Array hU}{c:Nat}{Q:Value->az->Prop}(ns:(d == dS)=false)(EU:s.heap.get? d=some od)(ex:od.ExactDict)(dd:od.data=.dict es c)
  (hQ:Q (.ref s.heap.objs.size) { s with heap:=s.heap.push { cls:=.type "dict_keyiterator",data:=.fields #[.ref d,.int 0 0,.int es.size 0,.int c 0] } }):wpAny (model prog w) A (BX (.ref d)) Q E s:=by
 have ty:s.TypeIs (.ref d) "dict":=⟨od,EU,ex.1⟩;refine ph ty F.slot_dict_iter (dM F.slot_dict_iter ty F.entry_dict_iter ?_ (F.args_dict_iter_1 _));unfold Builtin.«dict.__iter__» Builtin.Dict.dictSlotNone;refine af (af (y9 ty (show wpAny _ _ (pure (fi d)) _ _ s from aw ?_)));show wpAny _ _ (lI d >>= _) _ _ s;unfold lI;rw [if_neg (fun z=>by rw [ns] at z; cases z)];refine af (aw (af (kO EU dd (af (nC EU dd ?_)))));refine af (dw (aw ⟨_,rfl,"dict_keyiterator",_,⟨_,bh _ rfl,rfl⟩,F.slot_dict_keyiterator_next.lookup,?_⟩));simpa [vG] using hQ
theorem ML{it d:Addr}{od:Obj}{es:Array hU}{i c:Nat}{Q:Option Value->az->Prop}(ki:s.heap.IsKeyIter it d i es.size c)(EU:s.heap.get? d=some od)(dd:od.data=.dict es c)(hi:i < es.size)
  (hQ:∀ h',h'.IsKeyIter it d (i+1) es.size c->ip it s.heap h'->Q (some es[i].key) { s with heap:=h' }):wpAny (model prog w) A (kS (.ref it)) Q E s:=by
 obtain⟨o,ho,hc,hf⟩:=id ki;unfold kS;refine af (rJ (fG (name:=oA "__next__") ki.typeIs jX (dM jX ki.typeIs IA ?_ (HW _))));refine af (aw (af (af ?_)))
 first | refine af (jH ki.typeIs (aw ?_)) | refine af (mI ki.typeIs (aw ?_))
 refine af (pO ho hf ?_);have U5:fL "dict_keyiterator" = false:=by decide
 rw [U5];show wpAny _ _ (if (fi d == gf)=true then _ else _) _ _ s;rw [if_neg (fun z=>by cases z)];refine af (aw (af (kO EU dd ?_)));rw [if_neg (by simp)];refine af (aw (af (nC EU dd ?_)));rw [if_neg (by simp)];refine aw ?_;dsimp only;rw [if_neg (show ¬ ((i:Int) < 0) from Int.not_lt.mpr (rW i)),eF,bE hi];dsimp only;refine af ?_
 first | refine af (jH ki.typeIs (aw ?_)) | refine af (mI ki.typeIs (aw ?_))
 refine af (wpAny_isOneOf_keyiter ki.typeIs ?_);show wpAny _ _ (setField (.ref it) 1 (vG ((i:Int)+1)) >>= _) _ _ s;refine af (RE ho hf (by simp) ?_);have ki2:(s.heap.update it (Obj.mapFields (·.setIfInBounds 1 (vG ((i:Int)+1))))).IsKeyIter it d (i+1) es.size c :=
  ⟨_,jV _ ho (Obj.isFreed_of_fields (Obj.data_mapFields hf _)),(Obj.cls_mapFields ..).trans hc,by rw [Obj.data_mapFields hf]; simp [vG]⟩
 refine af (cP (af (wpAny_isOneOf_keyiter (s:={ s with heap:=s.heap.update it (Obj.mapFields (·.setIfInBounds 1 (vG ((i:Int)+1)))) }) ki2.typeIs ?_)));show wpAny _ _ (pure es[i].key) _ _ _;exact aw (aw ⟨_,rfl,aw (hQ _ ki2 (jW ..))⟩)
theorem PJ{it d:Addr}{od:Obj}{es:Array hU}{i c:Nat}{Q:Option Value->az->Prop}(calm:A.handled=none)(ki:s.heap.IsKeyIter it d i es.size c)(EU:s.heap.get? d=some od)(dd:od.data=.dict es c)(hi:es.size<=i)
  (hQ:∀ h',Heap.ExtBut it s.heap h'->Q none { s with heap:=h' }):wpAny (model prog w) A (kS (.ref it)) Q E s:=by
 obtain⟨o,ho,hc,hf⟩:=id ki;unfold kS;refine af (rJ (fG (name:=oA "__next__") ki.typeIs jX (dM jX ki.typeIs IA ?_ (HW _))));refine af (aw (af (af ?_)))
 first | refine af (jH ki.typeIs (aw ?_)) | refine af (mI ki.typeIs (aw ?_))
 refine af (pO ho hf ?_);have U5:fL "dict_keyiterator" = false:=by decide
 rw [U5];show wpAny _ _ (if (fi d == gf)=true then _ else _) _ _ s;rw [if_neg (fun z=>by cases z)];refine af (aw (af (kO EU dd ?_)));rw [if_neg (by simp)];refine af (aw (af (nC EU dd ?_)));rw [if_neg (by simp)];refine aw ?_;dsimp only;rw [if_neg (show ¬ ((i:Int) < 0) from Int.not_lt.mpr (rW i)),eF,mK hi];dsimp only;refine af ?_
 first | refine af (jH ki.typeIs (aw ?_)) | refine af (mI ki.typeIs (aw ?_))
 show wpAny _ _ (setField (.ref it) 0 .none >>= _) _ _ s;refine af (RE ho hf (by simp) ?_);show wpAny _ _ (newExc (.type "StopIteration") [] >>= _) _ _ _;refine af ?_;simp only [newExc,newTuple];refine af (dw (af (m:=BY _ _) (CW (a:=gf) (by first | rfl | (simp only [BY]; rfl)) (dw ?_ (by size_fits)))) (by size_fits));simp only [raiseNew];refine af (wpAny_handled ?_);rw [show A.in1.handled=none from calm];refine af (aw (wpAny_throw ?_));refine af (LX (T:="StopIteration") (b:=true) ⟨_,bh _ rfl,rfl⟩ RG (?_));exact aw (hQ _ (((jW ..).extBut.push _).push _))
end
noncomputable def Itk(a:Addr)(o:Obj)(es:Array hU)(ks:List V):It :=
 ⟨fun i H=>(∃ u,H a=some (.mC o u))/\i < es.size,fun i H v H'=>H'=H/\ks[i]?=some v,fun i H=>(∃ u,H a=some (.mC o u))/\es.size<=i⟩
theorem L5{P:bG}{w:World}{K:aq}{tg:Expr}(a it:Addr)(o:Obj)(es:Array hU)(c:Nat)(ks:List V)(dd:o.data=.dict es c)(hk:∀ i (h:i < es.size),∃ v,ks[i]?=some v/\RelV v es[i].key) :
  Turn P w K tg (Itk a o es ks) [it] it (fun i h=>h.IsKeyIter it a i es.size c) where
 mem:=by simp
 obj:=fun i h st b hb=>by
  have e:b=it:=by simpa using hb
  subst e;obtain⟨o',q,_,d⟩:=st;exact⟨o',q,fun v z=>by rw [d] at z; cases z⟩
 keep:=(by rintro i h h' ⟨o',q,r⟩ k; exact⟨o',k it (by simp) o' q,r⟩)
 item:=by
  intro X hP hw hK hc i pins s σ H E I hf st hg;subst hP hw hK;obtain⟨⟨u,hu⟩,hi⟩:=hg;obtain⟨f0,f1,f2,f3,f4,f5⟩:=hf it (by simp);obtain⟨v,hv,rv⟩:=hk i hi;refine ML st (I.cN a _ hu).1 dd hi fun h' Bq sb=>?_;have I1:Inv X pins σ H { s with heap:=h' }:=I.turned (t':=s.toks) (fun b o hb e=>(sb.2 b hb).trans e) f0 f1 f3 f4 f5;obtain⟨o',e,cl,d'⟩:=id Bq;exact⟨_,rfl,Lw (s:={ s with heap:=h' }) e cl d' (by decide) ⟨v,H,I1,rv,⟨rfl,hv⟩,Bq,fun b hb=>(hf b hb).1⟩⟩
 done:=by
  intro X hP hw hK hc i pins s σ H E I hf st hg;subst hP hw hK;obtain⟨⟨u,hu⟩,hi⟩:=hg;obtain⟨f0,f1,f2,f3,f4,f5⟩:=hf it (by simp);exact PJ (I.ok.hd hc) st (I.cN a _ hu).1 dd hi fun h' eb=>⟨rfl,I.turned (t':=s.toks) (fun b o hb e=>eb b o hb e) f0 f1 f3 f4 f5⟩
 self:=fun A i s Q E st h=>by
  refine ph st.typeIs KC (dM KC st.typeIs F.entry_dict_keyiterator_iter ?_ (F.args_dict_keyiterator_iter_1 _));show wpAny _ _ (ret (.ref it)) _ _ s;exact aw ⟨_,rfl,"dict_keyiterator",_,st.typeIs,F.slot_dict_keyiterator_next.lookup,h⟩
end L2
namespace K2
open PySem PySem.Spec PyProof.Rows L2
section
variable {X:Cx} {tg a:Expr} {ta:gG} {pos p:Pos}
theorem xG{α β:Type}{F:α->β->Prop}:∀ {l:List α} {m:List β},Kz F l m->∀ i (h1:i < l.length) (h2:i < m.length),F l[i] m[i]:=by
 intro l m h;induction h with
 | nil=>intro i h1; exact absurd h1 (cY i)
 | cons h t ih =>
  intro i h1 h2;cases i with
  | zero=>exact h
  | succ i=>exact ih i (Rk h1) (Rk h2)
theorem PM{P:bG}{w:World}{k:Key}{u:Value}(h:(cx P w).is k u=true):RelV (kV k) u:=by
 rcases eT h with ⟨i,t,rfl,rfl⟩ | ⟨x,t,rfl,rfl⟩
 ·exact⟨t,rfl⟩
 ·exact⟨t,rfl⟩
theorem mD.keys{K:aq}{H:Hp}:∀ {kv:List (Key×V)} {kvs:List (D×D)},mD K H kv kvs->kvs.map (·.1)=kv.map fun p=>eZ p.1:=fun h =>
 mD.ind (motive:=fun kv kvs _=>kvs.map (·.1)=kv.map fun p=>eZ p.1) rfl (fun _ _ ih=>congrArg (_ :: ·) ih) h
theorem oJ.keys{K:aq}{H:Hp}:∀ {kv:List (List Key×V)} {kvs:List (D×D)},oJ K H kv kvs->kvs.map (·.1)=kv.map fun p=>D.tup (p.1.map eZ):=fun h =>
 oJ.ind (motive:=fun kv kvs _=>kvs.map (·.1)=kv.map fun p=>D.tup (p.1.map eZ)) rfl (fun _ _ ih=>congrArg (_ :: ·) ih) h
theorem Fw{K:aq}{H:Hp}(k:Key):cK K H (kV k) (eZ k):=by
 cases k with
 | inl i=>exact .int i
 | inr x=>exact .str x
theorem xD{K:aq}{H:Hp}:∀ (ks:List Key),bC K H (ks.map kV) (ks.map eZ)
 | []=>.nil
 | k :: ks=>.cons (Fw k) (xD ks)
theorem iI(ha:gW X a ta):NY X tg a (gC ta):=by
 intro E pins s σ H τ G R hE I h;refine kj ha hE I h fun x H1 d G1 v s1 I1 m1 r1 jG q1=>?_;unfold mZ at q1;have go:∀ (l:Addr) (o:Obj) (u:HO) (kvs:List (D×D)) (es:Array hU) (c:Nat) (ks:List V),(l == dS)=false->H1 l=some (.mC o u)->o.ExactDict->o.data=.dict es c->(∀ i (h:i < es.size),∃ v,ks[i]?=some v/\RelV v es[i].key)->ks.length=es.size ->
   bC X.K H1 ks (kvs.map (·.1))->R (kvs.map (·.1)) (fun _=>True) G1->wpAny (model X.prog X.w) X.A (BX (.ref l)) (Kh X pins σ tg H G R) X.xe s1:=by
  intro l o u kvs es c ks ns hl ex dd hk hlen rs q;refine Js ns (I1.inv.cN l _ hl).1 ex dd ?_;refine⟨s1.heap.objs.size,[s1.heap.objs.size],_,_,H1,G1,kvs.map (·.1),_,rfl,I1.inv.kept (t':=s1.toks) fun b o e=>aE _ e,m1,L5 l _ o es c ks dd hk,⟨_,bh _ rfl,rfl,rfl⟩,fun b hb=>?_,fun i H2 G2 k ab _=>?_,q⟩
  ·have e:b=s1.heap.objs.size:=by simpa using hb
   subst e;exact I1.inv.D6 (aF _) (I1.inv.cN.fresh (aF _))
  ·have vA:=k.mC _ _ _ hl;have B9:=rs.mono k;refine⟨fun d hd=>?_,fun hle=>⟨⟨u,vA⟩,by rw [<-hlen,rs.length]; exact hle⟩⟩;obtain⟨v,hv,r⟩:=B9.get hd;have hi:i < es.size:=by rw [<-hlen]; exact(List.getElem?_eq_some_iff.mp hv).1
   refine⟨⟨⟨u,vA⟩,hi⟩,?_⟩;rintro x H3 ⟨e,y⟩;subst e;rw [hv] at y;cases y;exact⟨r,.refl ab⟩
 cases jG with
 | qC hq rs =>
  rename_i l o kv kvs;cases r1;obtain⟨z,ns,vs,rel,ob,es,ep,ho,ex,dd,hko,hp,nd⟩:=(I1.inv.cN l _ hq).2;have eo:ob=o:=by have:=(I1.inv.cN l _ hq).1; rw [ho] at this; exact bx this
  subst eo;have l1:es.size=vs.length:=by simpa using hp.length
  have l2:kv.length=vs.length:=lE rel;refine go l ob _ kvs es ep (kv.map fun p=>kV p.1) ns hq ex dd (fun i hi=>?_) (by rw [ao]; lia) ?_ q1
  ·have i2:i < vs.length:=by lia
   have i3:i < kv.length:=by lia
   have g1:=(hp.get? (e:=es[i]) (k:=vs[i].1) (v:=vs[i].2) (by rw [ax (by simpa using hi)]; simp) (by rw [ax i2])).1;refine⟨kV kv[i].1,by simp [i3],?_⟩;have ek:kv[i].1=vs[i].1:=(xG rel i i3 i2).1;rw [ek];exact PM g1
  ·rw [rs.keys];have:∀ (l:List (Key×V)),bC X.K H1 (l.map fun p=>kV p.1) (l.map fun p=>eZ p.1):=by
    intro l;induction l with
    | nil=>exact .nil
    | cons p l ih=>exact .cons (Fw p.1) ih
   exact this kv
 | qB hq rs =>
  rename_i l o kv kvs;cases r1;obtain⟨z,ns,xs,rel,ob,es,ep,ho,ex,dd,hl,nd⟩:=(I1.inv.cN l _ hq).2;have eo:ob=o:=by have:=(I1.inv.cN l _ hq).1; rw [ho] at this; exact bx this
  subst eo;have l1:=congrArg dh hl;rw [ao,bZ] at l1;refine go l ob _ kvs es ep (xs.map fun q=>V.ref q.2.1) ns hq ex dd (fun i hi=>?_) (by rw [ao]; lia) ?_ q1
  ·have i2:i < xs.length:=by lia
   refine⟨.ref xs[i].2.1,by simp [i2],?_⟩;have:es[i]=entryOfKey (rX (cx X.prog X.w)) xs[i]:=by
    have:=congrArg (fun l=>l[i]?) hl;simp only [bz,ax i2] at this;simpa [hi] using this
   rw [this];rfl
  ·rw [rs.keys];have:∀ (kv:List (List Key×V)) (xs:List (List Key×Addr×Value)),Kz (fun (p:List Key×V) (q:List Key×Addr×Value)=>p.1=q.1/\H1 q.2.1=some (.tup (p.1.map kV))/\RelV p.2 q.2.2) kv xs->bC X.K H1 (xs.map fun q=>V.ref q.2.1) (kv.map fun p=>D.tup (p.1.map eZ)):=by
    intro kv xs r;induction r with
    | nil=>exact .nil
    | cons h _ ih=>exact .cons (.tup h.2.1 (xD _)) ih
   exact this kv xs rel
 | _=>exact q1.elim
end
end K2
end
section
namespace L2
open PySem PySem.Spec PyProof.Rows
section
variable {X:Cx}
noncomputable def Ri(i j:Int):Prop:=i.natAbs < 2 ^ 4000/\j.natAbs < 2 ^ 4000
theorem Ri.ok{i j:Int}(h:Ri i j):IntMulOk i j:=by
 have h1:=intBits_le h.1;have h2:=intBits_le h.2;unfold IntMulOk;intro z;rw [aM] at z;have z2:((IB i+IB j:Nat):Int) > (bitsLine:Int):=of_decide_eq_true z.2;have hb:8000<=bitsLine:=by decide
 lia
theorem Sr:N1 X (kP .Mult) (rI Ri fun i j=>.int (i * j)):=Z6 fun _ _ _ _ _ _ _ hc q=>mul_int q hc.ok
end
end L2
namespace K2
open PySem PySem.Spec PyProof.Rows L2
section
variable {X:Cx}
theorem wu:rT X (kP .Mult) zN:=by
 intro pins s σ H G x y dx dy v u Q I ab rx ry dX dY q;cases dX with
 | int i =>
  cases dY with
  | int j=>exact iy (Sr pins s σ H _ _ v u (EX X.K H G Q) I rx ry ⟨i,j,rfl,rfl,q.1,_,_,.refl ab,.int _,q.2⟩) fun _ _ z=>.of z
  | _=>exact bY q
 | _=>exact bY q
theorem vi{pins:List (Addr×Obj)}{σ:L2.St}{H:Hp}{s:az}{G:Gp}{x:V}{d:D}{kvs:List (D×D)}(I:Inv X pins σ H s)(ab:oy X.K H G)(rd:cK X.K H x d)(hd:uS d G=some kvs)(h1:wG kvs=true) :
  ∃ a kv vs,x=.ref a/\mD X.K H kv kvs/\kv.length<=bu/\(a == dS)=false/\KV kv vs/\s.heap.DictOf (cx X.prog X.w) a vs:=by
 have empty:∀ (a:Addr) (kv:List (List Key×V)),ig X.prog X.w H s.heap a (.dT kv)->oJ X.K H kv kvs ->
   ∃ a' kv vs,V.ref a=.ref a'/\mD X.K H kv kvs/\kv.length<=bu/\(a' == dS)=false/\KV kv vs/\s.heap.DictOf (cx X.prog X.w) a' vs:=by
  intro a kv ok rs;cases rs with
  | nil =>
   obtain⟨z,hm,xs,rel,o,es,ep,ho,hx,DY,hl,nd⟩:=ok;have hv:xs=[]:=by cases rel; rfl
   subst hv;have he:es=#[]:=by simpa using hl
   subst he;exact⟨a,[],[],rfl,.nil,cq _,hm,.nil,o,#[],ep,ho,hx,DY,(fun _ h=>by simp at h),.nil,dv⟩
  | cons _ _=>simp [wG,dU] at h1
 cases rd with
 | qC hq rs =>
  cases (show some _=some kvs from hd);obtain⟨z,hm,vs,rel,dd⟩:=tw I.cN (.inr ⟨_,hq⟩);exact⟨_,_,vs,rfl,rs,z,hm,rel,dd⟩
 | qB hq rs =>
  cases (show some _=some kvs from hd);exact empty _ _ (I.cN _ _ hq).2 rs
 | ref a =>
  unfold uS at hd;dsimp only at hd;split at hd
  ·rename_i kv' hg;cases hd;rcases ab a _ hg with ⟨kv,hv,rs⟩ | ⟨kv,hv,rs⟩
   ·obtain⟨z,hm,vs,rel,dd⟩:=AM I.cN hv;exact⟨a,kv,vs,rfl,rs,z,hm,rel,dd⟩
   ·exact empty a _ (I.cN _ _ hv) rs
  ·cases hd
 | _=>cases hd
theorem vn:rq X (.type "dict") AY:=by
 intro pins s σ H G xs ds us Q I ab rx rd q;unfold AY at q;split at q
 ·rename_i x;obtain⟨kvs,hd,h1,hl,q⟩:=q;obtain⟨v,rfl,r⟩:=rd.one;obtain⟨a,kv,vs,rfl,rs,z,hm,rel,dd⟩:=vi I ab r hd h1;obtain⟨u,rfl,ru⟩:=rx.one;cases ru;refine kt_call_dict hm dd (by rw [<-rel.length]; exact z) fun h' LF hs=>?_;have hp:H s.heap.objs.size=none:=I.cN.fresh (aF _);refine⟨.ref _,upd H s.heap.objs.size (.dK kv),.ref _,_,I.laid (a:=s.heap.objs.size) (o:=.dK kv) (t':=s.toks) (fun b q hq=>?_) (aF _) (xP z (beq_eq_false_iff_ne.mpr (dW (bc I.big))) rel LF),.new ab hp (.dk bX (rs.mono (.new hp))),rfl,.ref _,q _ (ab.free hp)⟩;exact(hs.2 b (bc (aP hq))).trans (aE _ hq)
 ·exact q.elim
theorem yQ:Q8 X "dict.get" DM:=by
 intro pins s σ H G x d xs ds v us Q I ab rx rd UT KW q;unfold DM at q;split at q
 ·rename_i k d';obtain⟨kvs,hd,h1,hk,q⟩:=q;obtain⟨w,w2,rfl,Dl,UU⟩:=KW.two;obtain⟨u1,u2,rfl,R5,R4⟩:=vals2 UT;obtain⟨a,kv,vs,rfl,rs,z,hm,rel,dd⟩:=vi I ab rd hd h1;cases rx;obtain⟨kk,rfl⟩:=qP hk;have ey:=qD Dl;subst ey;refine zg fg dd.typeIs ux (si _ _ _) (meets_dict_get_default (cx X.prog X.w) a (yn R5) hm u2) ⟨_,dd.mapOf,?_⟩;have ro:=(rel.val kk).getD R4;rcases rs.look kk with ⟨v',d2,e1,e2,r⟩ | ⟨e1,e2⟩
  ·rw [e1] at ro;rw [e2] at q;exact⟨v',H,d2,G,I.tok _,.refl ab,ro,r,q⟩
  ·rw [e1] at ro;rw [e2] at q;exact⟨w2,H,d',G,I.tok _,.refl ab,ro,UU,q⟩
 ·exact q.elim
end
end K2
end
section
namespace L2
open PySem PySem.Spec PyProof.Rows
noncomputable def Iti(a:Addr)(o:Obj)(kv:List (Key×V)):It :=
 ⟨fun i H=>(∃ u,H a=some (.mC o u))/\i < kv.length,fun i H v H'=>∃ T p,v=.ref T/\H T=none/\H'=upd H T (.tup [kV p.1,p.2])/\kv[i]?=some p,fun i H=>(∃ u,H a=some (.mC o u))/\kv.length<=i⟩
theorem zV{α β:Type}{F:α->β->Prop}:∀ {l:List α} {m:List β},Kz F l m->∀ i (h1:i < l.length) (h2:i < m.length),F l[i] m[i]
 | _,_,.cons h _,0,_,_=>h
 | _,_,.cons _ t,i+1,h1,h2=>zV t i (by simpa using h1) (by simpa using h2)
theorem MP{P:bG}{w:World}{k:Key}{u:Value}(h:(cx P w).is k u=true):RelV (kV k) u:=by
 rcases eT h with ⟨i,t,rfl,rfl⟩ | ⟨x,t,rfl,rfl⟩
 ·exact⟨t,rfl⟩
 ·exact⟨t,rfl⟩
theorem mM:entryFor table "dict_itemiterator.__iter__" = some Builtin.«dict_keyiterator.__iter__» :=
 entryFor_alias (id':="dict_keyiterator.__iter__") (by rw [fastTable_eq_tree]; kernel_rfl) (by decide +kernel) (by decide +kernel) (by rw [fastTable_eq_tree]; kernel_rfl)
theorem IG{P:bG}{w:World}{K:aq}{elts:List Expr}{kk:Nat}{pos:Pos}(a it:Addr)(o:Obj)(kv:List (Key×V))(vs:List (Key×Value))(ep:Nat)(rel:KV kv vs)(hD:∀ h:Heap,h.get? a=some o->h.DictAt (cx P w) a vs ep) :
  Turn P w K (.Tuple elts kk pos) (Iti a o kv) [it] it (fun i h=>∃ ok ov,pC h it a i vs.length ep ok ov) where
 mem:=by simp
 obj:=fun i h ⟨ok,ov,st⟩ b hb=>by
  have e:b=it:=by simpa using hb
  subst e;exact⟨_,st,fun v z=>by cases z⟩
 keep:=fun i h h' ⟨ok,ov,st⟩ k=>⟨ok,ov,k it (by simp) _ st⟩
 item:=by
  intro X hP hw hK hc i pins s σ H E I hf st hg;obtain⟨ok,ov,st⟩:=st;subst hP hw hK;obtain⟨⟨u,hu⟩,hi⟩:=hg;have hl:=rel.length;have XI:i < vs.length:=by lia
  have hx:vs[i]?=some (vs[i].1,vs[i].2):=ax XI;have rp:=zV rel i hi XI;have VG:H s.heap.objs.size=none:=I.cN.fresh (aF _);have XH:it≠s.heap.objs.size:=bc (aP st);refine wpAny_pyNext_items_item st (hD _ (I.cN a _ hu).1) hx fun key h' hk ho hT hsz kk=>?_;refine⟨_,rfl,?_⟩;have rk:RelV (kV kv[i].1) key:=by rw [rp.1]; exact MP hk
  have I1:Inv X pins σ (upd H s.heap.objs.size (.tup [kV kv[i].1,kv[i].2])) { s with heap:=h',toks:=s.toks } :=
   I.yK (fp:=[it]) hf (fun b o hb q=>kk b o (fun z=>hb (by simp [z])) q) (aF _)
    ⟨by show 2<=bu; decide,[key,vs[i].2],.cons rk (.cons rp.2 .nil),⟨_,hT,rfl,_,rfl⟩⟩
  refine N6 (s:={ s with heap:=h' }) ho fun h2 Vz xp=>?_;have f1:∀ b∈[it],oI X pins (upd H s.heap.objs.size (.tup [kV kv[i].1,kv[i].2])) b:=fun b hb=>(hf b hb).upd (by rw [List.mem_singleton.mp hb]; exact XH);have I2:Inv X pins σ (upd H s.heap.objs.size (.tup [kV kv[i].1,kv[i].2])) { s with heap:=h2,toks:=s.toks } :=
   Inv.tK (s:={ s with heap:=h',toks:=s.toks }) (t':=s.toks) (fp:=[it]) I1 f1 fun b o hb q=>(xp.2 b (fun z=>hb (by simp [z]))).trans q
  exact⟨.ref s.heap.objs.size,_,I2,rfl,⟨_,kv[i],rfl,VG,rfl,ax hi⟩,⟨_,_,Vz⟩,fun b hb=>(f1 b hb).1⟩
 done:=by
  intro X hP hw hK hc i pins s σ H E I hf st hg;obtain⟨ok,ov,st⟩:=st;subst hP hw hK;obtain⟨⟨u,hu⟩,hi⟩:=hg;have hl:=rel.length;obtain⟨f0,f1,f2,f3,f4,f5⟩:=hf it (by simp);exact wpAny_pyNext_items_end (I.ok.hd hc) st (hD _ (I.cN a _ hu).1) (jU (by lia)) fun h' eb=>⟨rfl,I.turned (t':=s.toks) (fun b o hb e=>eb b o hb e) f0 f1 f3 f4 f5⟩
 self:=fun A i s Q E ⟨ok,ov,st⟩ h=>by
  have ty:s.TypeIs (.ref it) "dict_itemiterator":=⟨_,st,rfl⟩;refine ph ty jA (dM jA ty mM ?_ (E5 _));show wpAny _ _ (ret (.ref it)) _ _ s;exact aw ⟨_,rfl,"dict_itemiterator",_,ty,F.slot_dict_itemiterator_next.lookup,h⟩
end L2
namespace K2
open PySem PySem.Spec PyProof.Rows L2
section
variable {X:Cx}
theorem UW{pins:List (Addr×Obj)}{σ:L2.St}{H:Hp}{s:az}{x:V}{kvs:List (D×D)}(I:Inv X pins σ H s)(rd:cK X.K H x (.gZ kvs))(h1:wG kvs=true) :
  ∃ a ob u kv vs ep,x=.ref a/\H a=some (.mC ob u)/\mD X.K H kv kvs/\(a == dS)=false/\KV kv vs/\∀ h:Heap,h.get? a=some ob->h.DictAt (cx X.prog X.w) a vs ep:=by
 cases rd with
 | qC hq rs =>
  rename_i a o kv;obtain⟨z,hm,vs,rel,ob,es,ep,ho,r⟩:=(I.cN a _ hq).2;have eo:ob=o:=by have:=(I.cN a _ hq).1; rw [ho] at this; exact bx this
  subst eo;exact⟨a,ob,_,kv,vs,ep,rfl,hq,rs,hm,rel,fun h e=>⟨ob,es,e,r⟩⟩
 | qB hq rs =>
  rename_i a o kv;cases rs with
  | nil =>
   obtain⟨z,hm,xs,rel,ob,es,ep,ho,hx,DY,hl,nd⟩:=(I.cN a _ hq).2;have eo:ob=o:=by have:=(I.cN a _ hq).1; rw [ho] at this; exact bx this
   subst eo;have hv:xs=[]:=by cases rel; rfl
   subst hv;have he:es=#[]:=by simpa using hl
   subst he;exact⟨a,ob,_,[],[],ep,rfl,hq,.nil,hm,.nil,fun h e=>⟨ob,#[],e,hx,DY,(fun _ h=>by simp at h),.nil,dv⟩⟩
  | cons _ _=>simp [wG,dU] at h1
theorem mD.item{K:aq}{H:Hp}:∀ {kv:List (Key×V)} {kvs:List (D×D)} {i:Nat} {q:D×D},mD K H kv kvs->kvs[i]?=some q->∃ p,kv[i]?=some p/\q.1=eZ p.1/\cK K H p.2 q.2
 | _,_,_,_,.nil,e=>by simp at e
 | _,_,0,_,.cons r _,e=>by simp at e; subst e; exact⟨_,rfl,rfl,r⟩
 | _,_,i+1,q,.cons _ t,e=>by
  obtain⟨p,h1,h2⟩:=mD.item (i:=i) (q:=q) t (by simpa using e);exact⟨p,by simpa using h1,h2⟩
variable {elts:List Expr} {kk:Nat} {Ff apos lC:Pos} {o:Expr} {to:gG}
theorem Ml{K:aq}{H:Hp}(k:Key):cK K H (kV k) (eZ k):=by
 cases k with
 | inl i=>exact .int i
 | inr x=>exact .str x
theorem lq (ho:gW X o to) (GC:autoParam (xr o "items" X.env (eval o X.env)=eval o X.env) Ar._auto_1) (GA:autoParam ((apos.endLine == lC.line)=true) Ar._auto_1) :
  NY X (.Tuple elts kk Ff) (.Call (.Attribute o "items" apos) [] [] lC) (ib to):=by
 intro E pins s σ H τ G R hE I h;refine wpAny_Call_method0_late GC GA (kj ho hE I h fun x H1 d G1 v s1 I1 m1 r1 jG q1=>?_);cases d with
 | gZ kvs =>
  obtain⟨h1,q1⟩:=q1;obtain⟨t1,t2⟩:=nH pins s1 σ H1 G1 x _ v I1.inv I1.ab r1 jG trivial;obtain⟨a,ob,u,kv,vs,ep,rfl,hu,rs,hm,rel,hD⟩:=UW I1.inv jG h1;cases r1;refine⟨"dict","dict.items",fv,kY,Iv,t1,t2,uX rfl (RH ?_)⟩;have dA:=hD _ (I1.inv.cN a _ hu).1;refine zg kY t1 HK (E3 _) (meets_dict_items (cx X.prog X.w) a hm) ⟨⟨vs,dA.dictOf⟩,?_⟩;have I2:Inv X pins σ H1 { s1 with heap:=s1.heap.push { cls:=.type "dict_items",data:=.fields #[.ref a] } }:=I1.inv.kept (t':=s1.toks) fun b o e=>aE _ e;refine wpAny_pyIter_items (s:={ s1 with heap:=s1.heap.push { cls:=.type "dict_items",data:=.fields #[.ref a] } }) (kvs:=vs) (ep:=ep) ⟨_,bh _ rfl,rfl,rfl⟩ (dA.push _) ?_;refine⟨_,[_],_,_,H1,G1,kvs.map (fun p=>.tup [p.1,p.2]),_,rfl,I2.kept (t':=s1.toks) fun b o e=>aE _ e,m1,IG a _ ob kv vs ep rel hD,⟨.none,.none,bh _ rfl⟩,fun b hb=>?_,fun i H2 G2 k ab _=>?_,q1⟩
  ·have e:=List.mem_singleton.mp hb;subst e;exact I2.D6 (aF _) (I2.cN.fresh (aF _))
  ·have vA:=k.mC _ _ _ hu;have B9:=rs.mono k;have hlen:kv.length=kvs.length:=rs.length;refine⟨fun d hd=>?_,fun hle=>⟨⟨u,vA⟩,by rw [hlen]; simpa using hle⟩⟩;rw [bz] at hd;cases P5:kvs[i]? with
   | none=>rw [P5] at hd; cases hd
   | some q =>
    rw [P5] at hd;obtain⟨p,hp,ek,rp⟩:=B9.item P5;have hi:i < kv.length:=(List.getElem?_eq_some_iff.mp hp).1;refine⟨⟨⟨u,vA⟩,hi⟩,fun x H3 ⟨T,p',ex,hT,e3,hy⟩=>?_⟩;subst ex e3;rw [hp] at hy;cases hy;have ed:D.tup [q.1,q.2]=d:=by simpa using hd
    subst ed;rw [ek];exact⟨.tup bX (.cons (Ml _) (.cons (rp.mono (.new hT)) .nil)),.P8 ab hT⟩
 | _=>exact q1.elim
end
end K2
end
section
namespace K2
open PySem PySem.Spec PyProof.Rows L2
section
variable {X:Cx}
theorem qi{K:aq}{H:Hp}:∀ {kv:List (Key×V)} {l:List (Int×Int)},mD K H kv (aR l)->kv=l.map fun p=>((.inl p.1:Key),V.int p.2)
 | _,[],h=>by cases h; rfl
 | _,p :: l,h=>by
  have h:mD K H _ ((D.int p.1,D.int p.2) :: aR l):=h;generalize e:(D.int p.1,D.int p.2) :: aR l=t at h;cases h with
  | nil=>cases e
  | cons r rs =>
   rename_i k v d r' t';injection e with e1 e2
   injection e1 with e3 e4
   subst e2 e4;cases r;rw [qi rs];cases k with
   | inl i=>cases e3; rfl
   | inr x=>cases e3
theorem qO:∀ {l:List (Int×Int)} {vs:List (Key×Value)},KV (l.map fun p=>((.inl p.1:Key),V.int p.2)) vs->∃ ts:List Tok,ts.length=l.length/\vs=(l.zip ts).map fun q=>((.inl q.1.1:Key),dZ q.1.2 q.2)
 | [],_,.nil=>⟨[],rfl,rfl⟩
 | p :: l,_,.cons h r=>by
  obtain⟨ts,h1,h2⟩:=qO r;rename_i q vs;obtain⟨k,v⟩:=q;obtain⟨e1,t,e2⟩:=h;cases e1;cases e2;exact⟨t :: ts,by simp [h1],by rw [h2]; rfl⟩
theorem C6{l:List (Int×Int)}{ts:List Tok}(h:ts.length=l.length)(k:Int):(cB l k=none/\pz ((l.zip ts).map fun q=>((.inl q.1.1:Key),dZ q.1.2 q.2)) (.inl k)=none)\/∃ v t,cB l k=some v/\pz ((l.zip ts).map fun q=>((.inl q.1.1:Key),dZ q.1.2 q.2)) (.inl k)=some (.int v t):=by
 induction l generalizing ts with
 | nil=>exact .inl ⟨rfl,rfl⟩
 | cons p l ih =>
  cases ts with
  | nil=>cases h
  | cons t ts =>
   have ih:=ih (ts:=ts) (by simpa using h);by_cases e:p.1=k
   ·refine .inr ⟨p.2,t,?_,?_⟩
    ·unfold cB; simp [e]
    ·unfold pz; simp [e]
   ·have e':¬ ((.inl p.1:Key)=.inl k):=fun z=>e (by injection z);have a1:cB (p :: l) k=cB l k:=by unfold cB; simp [e]
    have a2:pz (((p :: l).zip (t :: ts)).map fun q=>((.inl q.1.1:Key),dZ q.1.2 q.2)) (.inl k)=pz ((l.zip ts).map fun q=>((.inl q.1.1:Key),dZ q.1.2 q.2)) (.inl k):=by
     unfold pz; simp [e']
    rw [a1,a2]; exact ih
theorem t8{A:du}{s:az}{m:List (Int×Int)}{us:List Tok}(hm:us.length=m.length):∀ {l:List (Int×Int)} {ts:List Tok},ts.length=l.length ->
  PySem.W.KeqHits A s ((m.zip us).map fun q=>((.inl q.1.1:Key),dZ q.1.2 q.2)) ((l.zip ts).map fun q=>((.inl q.1.1:Key),dZ q.1.2 q.2)) (l.all fun p=>cB m p.1 == some p.2)
 | [],_,_=>.nil
 | p :: l,[],h=>by cases h
 | p :: l,t :: ts,h=>by
  have ih:=t8 (A:=A) (s:=s) hm (l:=l) (ts:=ts) (by simpa using h);rcases C6 hm p.1 with ⟨e1,e2⟩ | ⟨v,t',e1,e2⟩
  ·have:((p :: l).all fun p=>cB m p.1 == some p.2)=false:=by simp [e1]
   rw [this];exact .miss e2
  ·have eq:SeqAt.EqAt A s (dZ p.2 t) (dZ v t') (decide (p.2=v)):=by
    have:=PySem.W.keq_flat (A:=A) (s:=s) (v:=dZ p.2 t) (y:=dZ v t') (d:=.int p.2) (e:=.int v) (.int _ _) (.int _ _);have e2:SeqAt.EqAt A s (dZ p.2 t) (dZ v t') (p.2 == v):=by simpa [Bg] using this
    exact e2
   have:((p :: l).all fun p=>cB m p.1 == some p.2)=(decide (p.2=v)&&l.all fun p=>cB m p.1 == some p.2):=by
    rw [pT,e1];congr 1;by_cases z:p.2=v
    ·simp [z]
    ·have:¬ v=p.2:=fun y=>z y.symm;simp [z,this]
   rw [this];exact .hit e2 eq ih
theorem Sw(hu:X.A.units+64 < cLine):rT X (fx .Eq) (U0 false):=by
 intro pins s σ H G x y dx dy v u Q I ab rx ry dX dY q;obtain⟨l,m,e1,e2,q⟩:=q;obtain⟨a,kv,vs,rfl,rs,z,hm,rel,dd⟩:=vi I ab dX e1 (kd l);obtain⟨b,kw,ws,rfl,B9,z2,Ia,Fx,CK⟩:=vi I ab dY e2 (kd m);cases rx;cases ry;rw [qi rs] at rel;rw [qi B9] at Fx;obtain⟨ts,t1,rfl⟩:=qO rel;obtain⟨us,t2,rfl⟩:=qO Fx;refine PySem.W.keq_eq hm Ia dd CK (by lia) (fun _=>t8 t2 t1) ?_;refine⟨.bl _,H,.bl _,G,I,.refl ab,rfl,.bl _,?_⟩;have:((((l.zip ts).map fun q=>((.inl q.1.1:Key),dZ q.1.2 q.2)).length == ((m.zip us).map fun q=>((.inl q.1.1:Key),dZ q.1.2 q.2)).length)&&l.all fun p=>cB m p.1 == some p.2)=rS l m:=by
  unfold rS; simp [t1,t2]
 rw [this]; exact q
theorem Sv(hu:X.A.units+64 < cLine):rT X (fx .NotEq) (U0 true):=by
 intro pins s σ H G x y dx dy v u Q I ab rx ry dX dY q;obtain⟨l,m,e1,e2,q⟩:=q;obtain⟨a,kv,vs,rfl,rs,z,hm,rel,dd⟩:=vi I ab dX e1 (kd l);obtain⟨b,kw,ws,rfl,B9,z2,Ia,Fx,CK⟩:=vi I ab dY e2 (kd m);cases rx;cases ry;rw [qi rs] at rel;rw [qi B9] at Fx;obtain⟨ts,t1,rfl⟩:=qO rel;obtain⟨us,t2,rfl⟩:=qO Fx;refine PySem.W.keq_ne hm Ia dd CK (by lia) (fun _=>t8 t2 t1) ?_;refine⟨.bl _,H,.bl _,G,I,.refl ab,rfl,.bl _,?_⟩;have:((((l.zip ts).map fun q=>((.inl q.1.1:Key),dZ q.1.2 q.2)).length == ((m.zip us).map fun q=>((.inl q.1.1:Key),dZ q.1.2 q.2)).length)&&l.all fun p=>cB m p.1 == some p.2)=rS l m:=by
  unfold rS; simp [t1,t2]
 rw [this]; exact q
theorem DF(hu:X.A.units+64 < cLine):rT X (fx .Eq) (FH false):=by
 intro pins s σ H G x y dx dy v u Q I ab rx ry dX dY q;rcases q with q | q
 ·exact nW hu pins s σ H G x y dx dy v u Q I ab rx ry dX dY q
 ·exact Sw hu pins s σ H G x y dx dy v u Q I ab rx ry dX dY q
theorem Su(hu:X.A.units+64 < cLine):rT X (fx .NotEq) (FH true):=by
 intro pins s σ H G x y dx dy v u Q I ab rx ry dX dY q;rcases q with q | q
 ·exact Jc hu pins s σ H G x y dx dy v u Q I ab rx ry dX dY q
 ·exact Sv hu pins s σ H G x y dx dy v u Q I ab rx ry dX dY q
variable {k v:Expr} {tk tv:gG} {pos:Pos}
theorem FT(hk:gW X k tk)(hv:gW X v tv):gW X (.Dict [some k] [v] pos) (uT tk tv):=by
 intro E pins s σ H τ G Q hE I h;have hn:=I.inv.cN.fresh (aF s.heap.objs.size);have I1:=I.inv.laid (a:=s.heap.objs.size) (o:=.dK []) (h':=s.heap.push { cls:=.type "dict",data:=.dict #[] }) (t':=s.toks) (fun _ _ q=>aE _ q) (aF _) (AN s.heap I.inv.big);have mh:Mv X.K H G (upd H s.heap.objs.size (.dK [])) G:=.P8 I.ab hn;have I2:I2 X pins σ (upd H s.heap.objs.size (.dK [])) τ G { s with heap:=s.heap.push { cls:=.type "dict",data:=.dict #[] },toks:=s.toks }:=⟨I1,I.st.mono (.new hn),mh.ab⟩;refine wpAny_Dict_walk (knd:=cx X.prog X.w) (by rfl) (by rfl) (by simp) (show 1<=15 by decide) ?_;refine CZ (kj hk hE I2 h fun x H1 dx G1 u s1 I3 m1 r1 jG q1=>?_);refine kj hv hE I3 q1 fun y H2 dy G2 w s2 I4 m2 r2 Bt q2=>?_;obtain⟨hk1,q2⟩:=q2;refine pairTrees_nil_walk ?_;obtain⟨kk,rfl⟩:=qP hk1;have ex:=qD jG;subst ex;have g0:G s.heap.objs.size=none:=I.ab.free hn;obtain⟨p1,p2⟩:=m1.keep _ _ (bX (H:=H) (a:=s.heap.objs.size) (o:=.dK [])) g0;obtain⟨p3,p4⟩:=m2.keep _ _ p1 p2;obtain⟨rs,c,rk⟩:=vm (P:=X.prog) (w:=X.w) (kvs:=[(kk,y)]) (ws:=[(u,w)]) (.cons ⟨r1,r2⟩ .nil);obtain⟨z,hd,ZJ,r0,dd⟩:=AM I4.inv.cN p3;cases r0;refine⟨rs,c,dd,fun h' LF hs=>?_⟩;have he:∃ q,h'.get? s.heap.objs.size=some q:=let ⟨q,_,_,hq,_⟩:=LF; ⟨q,hq⟩
 have em:zZ [] [(kk,y)]=[(kk,y)]:=rfl;have kp:Kp H2 (upd H2 s.heap.objs.size (.dK [(kk,y)])):=.putD p3 (.inl ⟨_,rfl⟩);have I5:=yW (t':=s2.toks+[(u,w)].length) I4.inv (by rw [p3]; exact iO) hs he (xP (kvs:=zZ [] [(kk,y)]) (by rw [em]; exact(show 1<=bu by decide)) hd (rk.merge .nil) LF);rw [em] at I5;have T5:=(mh.trans m1).trans m2;refine⟨.ref s.heap.objs.size,_,.ref s.heap.objs.size,_,I5,?_,rfl,.ref _,q2 _ p4⟩;refine⟨fun a o e n=>?_,fun a n=>?_,fun a g e=>?_⟩
 ·have ha:a≠s.heap.objs.size:=fun z=>by rw [z,hn] at e; cases e
  obtain⟨k1,k2⟩:=T5.keep a o e n;exact⟨by rw [bK ha]; exact k1,by rw [c6 ha]; exact k2⟩
 ·by_cases ha:a=s.heap.objs.size
  ·subst ha; rw [bX]; simp
  ·rw [bK ha]; exact T5.mF a n
 ·by_cases ha:a=s.heap.objs.size
  ·subst ha;rw [aA] at e;cases e;exact .dk bX (.cons ((Bt.mono kp)) .nil)
  ·rw [c6 ha] at e;exact(T5.ab a g e).mono kp (bK ha)
end
section
variable {X:Cx} {pins:List (Addr×Obj)} {σ:L2.St} {H1 H':Hp} {s1 s':az} {p:Addr} {u0:HO} {ob:Obj}
theorem Inv.ZO(I1 : Inv X pins σ H1 s1)(I' : Inv X pins σ H' s')(e1 : H1 p = some u0)(hu : Kb u0 = true)(e' : H' p = some (.mC ob u0)) : Inv X pins σ (upd H' p u0) s' where
  ok := I'.ok
  os := I'.os
  bare := I'.bare
  base := { keep := I'.base.keep, slot := I'.base.slot, there := I'.base.there
            free := fun b o q n hx => by
              have hb : b ≠ p := fun z => by have := I1.base.free b o q n hx; rw [z, e1] at this; cases this
              rw [bK hb]; exact I'.base.free b o q n hx
            xy := fun b xs q => by
              have hb : b ≠ p := fun z => by have := I1.base.xy b xs q; rw [z, e1] at this; cases this; cases hu
              rw [bK hb]; exact I'.base.xy b xs q
            wO := fun b o u q => by
              have hb : b ≠ p := fun z => by have := I1.base.wO b o u q; rw [z, e1] at this; cases this; cases hu
              rw [bK hb]; exact I'.base.wO b o u q
            xA := fun b ps q => by
              have hb : b ≠ p := fun z => by obtain⟨more, e⟩ := I1.base.xA b ps q; rw [z, e1] at e; cases e; cases hu
              obtain⟨more, e⟩ := I'.base.xA b ps q;exact⟨more, by rw [bK hb]; exact e⟩ }
  loc := I'.loc
  cell := I'.cell
  free := by
    have hb : X.env.locals ≠ p := fun z => by have := I'.free; rw [z, e'] at this; cases this
    rw [bK hb]; exact I'.free
  oa := fun x c e => by
    have hb : c ≠ p := fun z => by have := I'.oa x c e; rw [z, e'] at this; cases this
    rw [bK hb]; exact I'.oa x c e
  pin := fun q hq => by
    obtain⟨h1, h2, h3⟩ := I'.pin q hq;have hb : q.1 ≠ p := fun z => by rw [z, e'] at h2; cases h2
    exact⟨h1, by rw [bK hb]; exact h2, h3⟩
  cN := fun a o q => by
    have st : ∀ u, ig X.prog X.w H' s'.heap a u -> ig X.prog X.w (upd H' p u0) s'.heap a u := fun u x =>
      x.mF (fun b v _ r => r) (fun b r => by
        have hb : b ≠ p := fun z => by rw [z, e'] at r; cases r
        rw [bK hb]; exact r) (fun b xs r => by
        have hb : b ≠ p := fun z => by rw [z, e'] at r; cases r
        rw [bK hb]; exact r)
    by_cases ha : a = p
    · subst ha
      rw [bX] at q;cases q;exact st _ (I'.cN a _ e').2
    · rw [bK ha] at q
      exact st _ (I'.cN a _ q)
  len := I'.len
end
section
variable {X:Cx} {e:Expr} {t:EW} {pos p:Pos} {x:Str} {k:Nat} {f:Addr} {fd:aH} {ps:List Str} {sp:kN}
theorem mD.plain{K:aq}{H H2:Hp}:∀ {kv:List (Key×V)} {kvs:List (D×D)},mD K H kv kvs->(kvs.all fun p=>dU p.1&&u7 p.2)=true->mD K H2 kv kvs
 | _,_,.nil,_=>.nil
 | _,_,.cons (d:=d) r rs,h=>by
  rw [pT,aM,aM] at h;refine .cons ?_ (mD.plain rs h.2);have hp:=h.1.2;cases r with
  | fh=>exact .fh
  | bl b=>exact .bl _
  | int i=>exact .int _
  | _=>exact absurd hp (by simp [u7])
theorem Mu(F:fK X.prog X.w X.K X.mg X.base gu k f fd ps (cD X.K sp))(hr:nv k X.A)(hg:Gl X x)(hm:X.mg x=some (.ref f))(hk:kg X.K (.ref f)=true)(hb:Binds X.K fd ps [])
  (ha:Hx X [e] t) (JC:autoParam ((x == ("__debug__" : Str))=false) Ad._auto_1) (he:autoParam (bR [e] X.env=(false,eval e X.env) :: bR [] X.env) Ar._auto_1) (JB:autoParam ((mJ pos (bR [] X.env)).any (·.1)=false) Ar._auto_1) :
  gW X (.Call (.Name x p) [e] [] pos) (J4 sp t):=by
 intro E pins s σ H τ G Q hE I h;refine e7 (wF I.inv hg hm ?_ JC);refine Rj (h₀:=X.base) I.inv.ok.mod.Xp hk (zo ha pos hE I h fun vs H1 ds G1 us s1 I1 m1 r rd q=>⟨I1.inv.HZ,?_⟩) he JB;split at q
 ·rename_i p;obtain⟨kvs,YZ,q⟩:=q;obtain⟨v0,rfl,rv0⟩:=rd.one;cases rv0;have hS:∀ a,a≠p->jK (fun a=>a == p) G1 a=false:=fun a h=>by simp [jK,h]
  have rep:cK X.K (nh s1.heap (jK (fun a=>a == p) G1) H1) (.ref p) (.gZ kvs):=JE I1.inv I1.ab (Fz.dI YZ (by simp) (.same _)) (.ref p);have I1':=Inv.freeze I1.inv (jK (fun a=>a == p) G1);obtain⟨u0,ob,e0,hc0,ef⟩:∃ u0 ob,H1 p=some u0/\Kb u0=true/\nh s1.heap (jK (fun a=>a == p) G1) H1 p=some (.mC ob u0):=by
   rcases I1.ab p _ YZ with ⟨kv,hv,rs⟩ | ⟨kv,hv,rs⟩
   ·obtain⟨ob,ho⟩:=K2.lu (I1.inv.cN p _ hv);exact⟨_,ob,hv,rfl,ub (by simp [jK,YZ]) hv rfl ho⟩
   ·obtain⟨ob,ho⟩:=K2.lu (I1.inv.cN p _ hv);exact⟨_,ob,hv,rfl,ub (by simp [jK,YZ]) hv rfl ho⟩
  have out:∀ a,a≠p->nh s1.heap (jK (fun a=>a == p) G1) H1 a=H1 a:=fun a h=>wQ (hS a h);generalize nh s1.heap (jK (fun a=>a == p) G1) H1=H2 at rep I1' ef out;refine iy (OS F hr hb .nil TZ I1' r (Q:=fun v H'=>∃ d G',Mv X.K H2 (fun _=>none) H' G'/\cK X.K H' v d/\((u7 d=true/\Q d G1)\/∃ q PF,d=.ref q/\G' q=some (.dI PF)/\(PF.all fun p=>dU p.1&&u7 p.2)=true/\gx G1 (.dI PF) Q)) ?_) fun u s2 z=>?_
  ·exact⟨[.gZ kvs],fun _=>none,_,.cons rep .nil,(fun a g e=>by(cases e)),q,(fun d G' v H' q2 m rd=>⟨d,G',m,rd,q2⟩)⟩
  ·obtain⟨v,H',I',rv,d,G',m,rd,post⟩:=z;have YR:∀ a o,H2 a=some o->H' a=some o/\G' a=none:=fun a o e=>m.keep a o e rfl;have ep:=(YR p _ ef).1;have I3:=Inv.ZO I1.inv I' e0 hc0 ep;have same:∀ a o,H1 a=some o->upd H' p u0 a=some o:=fun a o e=>by
    by_cases h:a=p
    ·subst h; rw [bX,<-e0,e]
    ·rw [bK h]; exact(YR a o (by rw [out a h]; exact e)).1
   have kp:Kp H1 (upd H' p u0):=⟨fun a xs e=>same a _ e,fun a o u e=>same a _ e⟩;have NV:oy X.K (upd H' p u0) G1:=fun a g eg=>by
    have ab1:=I1.ab a g eg;cases eh:H1 a with
    | none=>exact absurd eh ab1.tracked
    | some o=>exact ab1.mono kp (by rw [same a o eh,eh])
   have mv:Mv X.K H1 G1 (upd H' p u0) G1:=⟨fun a o e n=>⟨same a o e,n⟩,fun a n=>by
    cases eg:G1 a with
    | none=>exact absurd eg n
    | some g=>exact(NV a g eg).tracked,NV⟩
   rcases post with ⟨hp,q3⟩ | ⟨q0,PF,rfl,gq,nY,q3⟩
   ·have UY:cK X.K (upd H' p u0) v d:=by
     cases rd with
     | fh=>exact .fh
     | bl b=>exact .bl _
     | int i=>exact .int _
     | _=>exact absurd hp (by simp [u7])
    exact tH.trans m1 ⟨v,_,d,G1,I3,mv,rv,UY,q3⟩
   ·cases rd;have MU:H1 q0=none:=by
     cases eh:H1 q0 with
     | none=>rfl
     | some o =>
      by_cases h:q0=p
      ·subst h;have:=(YR q0 _ ef).2;rw [gq] at this; cases this
      ·have:=(YR q0 o (by rw [out q0 h]; exact eh)).2;rw [gq] at this; cases this
    have g1:G1 q0=none:=I1.ab.free MU;have nq:q0≠p:=fun z=>by rw [z,e0] at MU; cases MU
    refine tH.trans m1 ⟨.ref q0,_,.ref q0,_,I3,?_,rv,?_,q3 q0 g1⟩
    ·refine⟨fun a o e n=>⟨same a o e,?_⟩,fun a n=>mv.mF a n,fun a g eg=>?_⟩
     ·have:a≠q0:=fun z=>by rw [z,MU] at e; cases e
      rw [c6 this]; exact n
     ·by_cases h:a=q0
      ·subst h;rw [aA] at eg;cases eg;rcases m.ab a _ gq with ⟨kv,hv,rs⟩ | ⟨kv,hv,rs⟩
       ·exact .dk (by rw [bK nq]; exact hv) (rs.plain nY)
       ·cases rs with
        | nil=>exact .dt (by rw [bK nq]; exact hv) .nil
        | cons _ _=>simp [dU] at nY
      ·rw [c6 h] at eg; exact NV a g eg
    ·exact .ref _
 ·exact q.elim
end
end K2
end
section
namespace K2
open PySem PySem.Spec PyProof.Rows L2 PySem.W
section
variable {X:Cx}
theorem xZ:∀ (ns:List Int) (j:Nat),(∀ n∈ns,-1000<=n/\n<=1000)->-1000 * (ns.length:Int)<=(ns.take j).sum/\(ns.take j).sum<=1000 * (ns.length:Int)
 | [],j,_=>by simp
 | n :: ns,0,_=>by simp only [List.take_zero,Rl,ai]; lia
 | n :: ns,j+1,h=>by
  have h1:=h n (by simp);have:=xZ ns j fun m hm=>h m (aK _ hm);rw [List.take_succ_cons,fQ,ai]; lia
theorem Nq (hc:X.calm=true):rq X (.builtin "sum") VY:=by
 intro pins s σ H G xs ds us Q I ab rx rd q;unfold VY at q;split at q
 ·rename_i x;obtain⟨ns,ty,hi,⟨hn,hb⟩,q⟩:=q;obtain⟨w1,rfl,Dl⟩:=rd.one;obtain⟨u,rfl,ru⟩:=rx.one;obtain⟨l,vs,bM,rfl,rv,rs,hl,_⟩:=je I ab ru Dl (Cj ty hi);have ev:=rs.ints;subst ev;have hlen:bM.length=ns.length:=by rw [<-rv.length,ao]
  obtain⟨o,ho,DZ,n,hd⟩:=id hl;have wM:l≠s.heap.objs.size:=bc (aP ho);refine call_sum_walk (vF hl ?_);refine⟨s.heap.objs.size,_,_,_,_,_,fun i=>ns.getD i 0,rfl,Walks.list (A:=X.A.in1) (show X.A.in1.handled=none from I.ok.hd hc) _ l wM bM.toArray,⟨⟨_,bh _ rfl,rfl,rfl⟩,⟨o,aE _ ho,DZ,n,hd⟩⟩,fun b hb=>?_,fun i v hv=>?_,fun j hj=>?_,fun h' tk t' hk=>?_⟩
  ·rcases (by simpa using hb:b=s.heap.objs.size\/b=l) with rfl | rfl
   ·rw [iw]; exact kT _
   ·rw [iw]; exact nF (aP ho)
  ·have hv':bM[i]?=some v:=by simpa using hv
   have DW:i < bM.length:=(List.getElem?_eq_some_iff.mp hv').1;have NR:i < ns.length:=by lia
   obtain⟨u,DU,ru⟩:=rv.get (i:=i) (x:=.int ns[i]) (by rw [bz,ax NR]; rfl);rw [hv'] at DU;cases DU;obtain⟨t,rfl⟩:=ru;refine⟨t,?_⟩;have e9:ns.getD i 0=ns[i]:=by rw [a8,ax NR]; rfl
   show dZ ns[i] t=dZ (ns.getD i 0) t;rw [e9]
  ·have hj':j < ns.length:=by rw [<-hlen]; simpa using hj
   have e1:ns.getD j 0=ns[j]:=by rw [a8,ax hj']; rfl
   have b1:=hb ns[j] (e8 hj');have b2:=xZ ns (j+1) hb;rw [Bl];dsimp only;rw [e1];unfold InLong;lia
  ·have e:preSum (fun i=>ns.getD i 0) bM.toArray.size=ns.sum:=by
    rw [Bl,aY,hlen,List.take_length]
   rw [e];refine⟨.int _,H,.int _,G,I.kept (t':=tk) fun b o e=>hk b o (by simpa using bc (aP e)) (aE _ e),.refl ab,⟨_,rfl⟩,.int _,q⟩
 ·exact q.elim
end
end K2
end
section
namespace K2
open PySem PySem.Spec PyProof.Rows L2 PySem.W
section
variable {X:Cx}
theorem Nt:rq X (.type "int") cInt:=by
 intro pins s σ H G xs ds us Q I ab rx rd q;unfold cInt at q;split at q
 ·rename_i b;obtain⟨w1,rfl,Dl⟩:=rd.one;obtain⟨u,rfl,ru⟩:=rx.one;cases Dl;cases ru;refine call_int_bool ?_;exact⟨.int _,H,.int _,G,I.tok _,.refl ab,⟨_,rfl⟩,.int _,q⟩
 ·exact q.elim
variable {a:Expr} {ta:gG} {pos p xE p2:Pos}
end
end K2
end
section
namespace K2
open PySem PySem.Spec PyProof.Rows L2
section
variable {K:aq} {h:Heap} {C:Addr} {Yl:List Value} {newId:String}
inductive Wd (h:Heap) (C:Addr) (Yl:List Value) (newId:String):Prop
 | mk (bm N nm qn bs abu sn sub ab col dd k0 k1 k2 k3 k5 mN) (o:h.get? C=some (excClassObj nm qn C N bs bm abu sn sub ab col dd k0 k1 k2 k3 k5 newId)) (n:h.Ns N mN) (i:mN "__init__" = none) (t:OwnTail h Yl bm):Wd h C Yl newId
end
end K2
end
section
namespace K2
open PySem PySem.Spec PyProof.Rows L2
noncomputable def kp1:HO->Bool
 | .tup _=>true
 | .mC _ (.lst _)=>true
 | .mC _ (.dK _)=>true
 | .mC _ (.dT _)=>true
 | .mC _ (.ext _)=>true
 | _=>false
noncomputable def hr(H:Hp):Hp:=fun b=>(H b).bind fun o=>if kp1 o=true then some o else none
end K2
end
section
namespace K2
open PySem PySem.Spec PyProof.Rows L2
noncomputable def subIn(K:aq)(C:Addr)(v:Value):Bool:=match K.lookup C with
 | some ⟨_,_,.cls cd,_⟩=>cd.mro.contains v
 | _=>false
section
variable {X:Cx} {x cn n:Str} {D f:Addr} {fd:aH} {ps:List Str} {k i:Nat} {sp:kN} {bmD:List Value} {newD:String} {cat:List Str} {e:Expr} {es:List Expr} {p np pos ep Vs tp:Pos} {st0:Stmt} {aci:List Stmt} {t:EW} {th:ie}
structure adS(X:Cx):Prop where
 st:X.stack=X.env :: X.outer
 fr:X.env.frame=some X.env.locals
 ex:X.ex=[]
structure Clause(X:Cx)(i:Nat)(n cn:Str)(D:Addr)(cat:List Str):Prop where
 nd:X.N.Nodup
 NT:X.N[i]?=some n
 loc:X.env.scope.names.lookup n=some .local
 gl:Gl X cn
 mg:X.mg cn=some (.ref D)
 cls:∃ bmD newD,PySem.W.excIn X.K D bmD newD=true/\bmD.contains (.type "BaseException")=true
 cat:∀ c,cat.contains c=true->∃ C Yl newId,dG X.K bP c=some (some (.ref C))/\PySem.W.excIn X.K C Yl newId=true/\subIn X.K C (.ref D)=true
end
end K2
end
section
namespace K2
open PySem PySem.Spec PyProof.Rows L2 PySem.W PySem.Calls PySem.Builtin PySem.Builtin.Getset_descriptor
section
variable {prog:bG} {w:World} {A:du} {E:Value->az->Prop} {s:az} {K:aq} {a C:Addr} {ox:Obj}
structure adP(K:aq)(C:Addr):Prop where
 ga:findIn K (.ref C) "__getattribute__" = some (some (.builtin "BaseException.__getattribute__"))
 gn:findIn K (.ref C) "__getattr__" = some none
 NT:findIn K (.ref C) "__class__" = some (some (.builtin "object.__class__"))
 sp:specialIn K (.builtin "object.__class__") "__get__" = some (some (.builtin "getset_descriptor.__get__"))
 tk:takesIn K (.builtin "object.__class__")=some true
 mo:mroIn K C (.type "object")=some true
 mb:mroIn K C (.type "BaseException")=some true
 is:(clsIn K C).isSome=true
end
end K2
end
section
namespace K2
open PySem PySem.Spec PyProof.Rows L2
section
variable {X:Cx} {e:Expr} {te:gG} {pos:Pos}
theorem jD{i:Nat}{x:Str}{pos':Pos}(hN:X.N.Nodup)(hi:X.N[i]?=some x)(he:gW X e te)(hx:autoParam (Loc X.env.scope x) Ao._auto_1)(hs:autoParam (N8 e (some (.Name x pos')) pos.line X.env=pure false) Ar._auto_1)(hf:autoParam (X.fn x=true\/X.env.scope.names.lookup x=some .local) Ao._auto_1) :
  Kg X (.Assign [.Name x pos'] e pos) (bq te (aC i)):=Sf hN hi hx he hs hf
theorem j0{i:Nat}{x:Str}(hN:X.N.Nodup)(hi:X.N[i]?=some x)(hx:autoParam (Loc X.env.scope x) Ao._auto_1)(hf:autoParam (X.fn x=true\/X.env.scope.names.lookup x=some .local) Ao._auto_1):N0 X (.Name x pos) (aC i):=O7 hN hi hx hf
theorem qS{P:bG}{w:World}{K:aq}{mg:Str->Option Value}{base:Heap}{x qual:Str}{st:Stmt}{f:Addr}{fd:aH}{Nn ps:List Str}{k:Nat}{sp:kN}{rd:ie}(F:nB K x qual st f fd)(S:bU Nn ps (a0 st))
  (hr:∀ ds G Q,sp ds G Q (fun _ _=>False)->rd (fun _ _=>False) (ends Q) (bb Nn.length ds) G)
  (hb:∀ (qk:Value) (A:du) (outer:List Env) (s:az) (H:Hp) (E:XK),nv k (A.deeper (EZ qual (a0 st) s.heap.objs.size f qk))->A5 (Hm gu P w K mg base Nn qual (a0 st) f qk A outer s H E).Wh (kJ st) rd)
  (len:autoParam (∀ ds G Q E,sp ds G Q E->ds.length=ps.length) Al._auto_1):fK P w K mg base gu (k+1) f fd ps (cD K sp):=Ly F S len hr hb
theorem qo{N ps:List Str}{sc:Scope}(h1:autoParam (sc.kind=.function) Ar._auto_1)(h2:autoParam (sc.isCoroutine=false) Ar._auto_1)(h3:autoParam (sc.isGenerator=false) Ar._auto_1)(h4:autoParam N.Nodup Ak._auto_1)(h5:autoParam (N.take ps.length=ps) Ar._auto_1)
  (h6:autoParam (∀ x∈ps,sc.names.lookup x=some .local\/sc.names.lookup x=some .cell) Ak._auto_1) (h7:autoParam (∀ y∈sc.names,y.2≠.free) Ak._auto_1):bU N ps sc:=⟨h1,h2,h3,h4,h5,h6,h7⟩
end
end K2
end
section
namespace K2
open PySem PySem.Spec PyProof.Rows L2
section
variable {X:Cx} {a b c:Expr} {ta tb tc:gG} {pos:Pos}
theorem yO {x:Str} {i:Int} {t:Tok} {p:Pos} (hg:Gl X x) (hm:X.mg x=some (.int i t)) (hd:autoParam ((x == ("__debug__" : Str))=false) Ad._auto_1):gW X (.Name x p) (dC (.int i)):=xF (Sh (v:=.int i) hg hm ⟨t,rfl⟩ hd) fun _ _=>.int i
end
end K2
end
section
namespace K2
open PySem PySem.Spec PyProof.Rows L2
theorem rR{α:Type}{us:List α}(h:us.length=1):∃ a,us=[a]:=List.length_eq_one_iff.mp h
theorem Vj{α:Type}{us:List α}{n:Nat}(h:us.length=n+1):∃ a t,us=a :: t/\t.length=n:=by
 cases us with
 | nil=>cases h
 | cons a t=>exact⟨a,t,rfl,Nat.succ.inj h⟩
theorem sX{α:Type}{us:List α}(h:us.length=2):∃ a b,us=[a,b]:=by
 obtain⟨a,t,rfl,h2⟩:=Vj h; obtain⟨b,rfl⟩:=rR h2; exact⟨a,b,rfl⟩
theorem MG{α:Type}{us:List α}(h:us.length=3):∃ a b c,us=[a,b,c]:=by
 obtain⟨a,t,rfl,h2⟩:=Vj h; obtain⟨b,c,rfl⟩:=sX h2; exact⟨a,b,c,rfl⟩
theorem aaR{α:Type}{us:List α}(h:us.length=4):∃ a b c d,us=[a,b,c,d]:=by
 obtain⟨a,t,rfl,h2⟩:=Vj h; obtain⟨b,c,d,rfl⟩:=MG h2; exact⟨a,b,c,d,rfl⟩
end K2
end
section
namespace K2.S
open PySem PySem.Spec PyProof.Rows L2 PySem.SetTable
section
variable {prog:bG} {w:World} {A:du} {E:Value->az->Prop} {s:az}
noncomputable abbrev TK(prog:bG)(w:World):HeapKind prog w (List Key):=rX (cx prog w)
theorem SJ{h h':Heap}{k:List Key}{b:Addr}(x:(TK prog w).is h k b)(e:∀ o,h.get? b=some o->h'.get? b=some o):(TK prog w).is h' k b:=by
 obtain⟨o,items,n,ho,r⟩:=x;exact⟨o,items,n,e o ho,r⟩
theorem PO{h:Heap}{k k':List Key}{b:Addr}(x:(TK prog w).is h k b)(y:(TK prog w).is h k' b):k=k':=(TK prog w).inj x y
noncomputable def Rg(B:Addr->Prop)(prog:bG)(w:World)(h:Heap)(es:En)(ks:List (List Key)):Prop :=
 ks.length=es.size/\∀ (i:Nat) (e:Int×Value),es[i]?=some e->∃ (k:List Key) (b:Addr),ks[i]?=some k/\e.2=.ref b/\(TK prog w).is h k b/\e.1=(TK prog w).hash k/\B b
theorem so{a:Addr}{o:Obj}{es:En}{ep:Nat}{t:iZ}{Q:(En×Nat×iZ)->az->Prop}(ho:s.heap.get? a=some o)(hd:o.data=.set es ep t)(O:TC t es)(h:Q (es,ep,t) s) :
  wpAny (model prog w) A (setState a) Q E s :=
 wpAny_setState_of ho hd (by unfold SetTable.fits HJ; rw [O.sz,O.dm]; have:=O.oG; have:=O.sz; simp; lia) h
theorem Hr(n:Nat){v:Value}(h:BZ v=true):vH n v=pure false:=by
 cases v <;> first | (unfold vH; rfl) | (exact bI (show false=true from h))
theorem Ot{k:List Key}{b:Addr}(hx:(TK prog w).is s.heap k b){Q:Bool->az->Prop}(h:Q false s):wpAny (model prog w) A (vH 8 (.ref b)) Q E s:=by
 have hT:s.TypeIs (.ref b) "tuple":=NG hx;obtain⟨o,items,n,ho,_,hd,hi⟩:=hx;unfold vH;refine af (Kr hT ?_);dsimp only;rw [if_pos (beq_self_eq_true _)];refine af (aw ?_);rw [if_neg (by intro z; cases z)];refine af (jR ho hd ?_);dsimp only;refine af ?_;show wpAny _ _ (forIn items _ _) _ _ s;rw [<-rC];refine qt _ (fun rest r s'=>r.1=none/\s'=s/\∀ v∈rest,BZ v=true) _ ?_ ?_ _ _ ⟨rfl,rfl,hi.byValue⟩
 ·rintro v rest r s' ⟨hr,rfl,nY⟩;rw [Hr _ (nY v bJ)];refine af (aw ?_);rw [if_neg (by intro z; cases z)];exact aw ⟨rfl,rfl,fun u DU=>nY u (aK _ DU)⟩
 ·rintro⟨r1,r2⟩ s' ⟨hr,rfl,_⟩;simp only at hr;subst hr;exact aw h
theorem L3{x:Value}{k:List Key}{b:Addr}(ex:x=.ref b)(hx:(TK prog w).is s.heap k b){l:List Value}(hl:∀ y∈l,∃ k' b',y=.ref b'/\(TK prog w).is s.heap k' b'){Q:Bool->az->Prop}(h:Q false s) :
  wpAny (model prog w) A (Il x l) Q E s:=by
 subst ex;unfold Il;refine af ?_;refine qt _ (fun rest r s'=>r.1=none/\s'=s/\∀ y∈rest,∃ k' b',y=.ref b'/\(TK prog w).is s.heap k' b') _ ?_ ?_ _ _ ⟨rfl,rfl,hl⟩
 ·rintro v rest r s' ⟨hr,rfl,nY⟩;obtain⟨k',b',rfl,hv⟩:=nY v bJ;have go:∀ y∈rest,∃ k' b',y=.ref b'/\(TK prog w).is s'.heap k' b':=fun u DU=>nY u (aK _ DU);dsimp only;by_cases c:(b == b'||BZ (.ref b)&&BZ (.ref b'))=true
  ·rw [if_pos c]; exact aw ⟨rfl,rfl,go⟩
  ·rw [if_neg c];refine af (wpAny_eqIsQuiet_tuple hx ?_);rw [if_neg (by intro z; cases z)];refine af (wpAny_eqIsQuiet_tuple hv ?_);rw [if_neg (by intro z; cases z)];refine af (Ot hx ?_);rw [if_neg (by intro z; cases z)];refine af (Ot hv ?_);rw [if_neg (by intro z; cases z)];exact aw ⟨rfl,rfl,go⟩
 ·rintro⟨r1,r2⟩ s' ⟨hr,rfl,_⟩;simp only at hr;subst hr;exact aw h
theorem B2{a:Addr}{o:Obj}{es:En}{ep:Nat}{t:iZ}{ks:List (List Key)}{k:List Key}{b:Addr}(hu:(TK prog w).room A)(ho:s.heap.get? a=some o)(hd:o.data=.set es ep t)(O:TC t es){B:Addr->Prop}(M:Rg B prog w s.heap es ks)(hx:(TK prog w).is s.heap k b)
  {N:Nat} (h1:¬ Full t.place (eL t.mask N (probeStart t ((TK prog w).hash k))).j) (h2:∀ n,n < N->Full t.place (eL t.mask n (probeStart t ((TK prog w).hash k))).j) {Q:SetFound->az->Prop}
  (yes:k∈ks->Q (.there none) s) (no:k∉ks->Q (.free (eL t.mask N (probeStart t ((TK prog w).hash k))).j false) s) :
  ∀ (fuel n:Nat) (st:Option Probe),N - n < fuel->n<=N->st.getD (probeStart t ((TK prog w).hash k))=eL t.mask n (probeStart t ((TK prog w).hash k)) ->
   (∀ n',n' < n->∀ i,i < t.place.size->t.place.getD i 0=(eL t.mask n' (probeStart t ((TK prog w).hash k))).j->ks[i]?≠some k) ->
   wpAny (model prog w) A (setSearchFrom a (.ref b) ((TK prog w).hash k) true fuel st) Q E s
 | 0,n,st,hf,_,_,_=>absurd hf (cY _)
 | fuel+1,n,st,hf,hn,JA,past=>by
  generalize hh:(TK prog w).hash k=h at *;show wpAny _ _ (setState a >>= _) _ _ s;refine af (so ho hd O ?_);dsimp only;have gw:t.gaveWay=false:=by
   unfold SetTable.gaveWay;rcases O.ms with e | e | e <;> rw [e] <;> rfl
  rw [gw,if_neg (by intro z; cases z),JA];have pb:Pb t.mask (eL t.mask n (probeStart t h)):=Pb.eL n (Pb.start t h);obtain⟨N',hN',hf',_⟩:=AJ O _ pb;obtain⟨n1,met,g,ba,fin⟩:=FO O.up O.dm (S.hk es) h (10 * turns t.mask) _ pb ⟨N',hN',hf'⟩;rw [show eL t.mask n1 (eL t.mask n (probeStart t h))=eL t.mask (n+n1) (probeStart t h) from(jI _ _ _ _).symm,show eL t.mask (n1+1) (eL t.mask n (probeStart t h))=eL t.mask (n+n1+1) (probeStart t h) from(jI _ n (n1+1) _).symm] at fin;generalize hP:t.probe _ h (eL t.mask n (probeStart t h))=P;have eP:P=some met:=hP.symm.trans g;subst eP;dsimp only;have le:n+n1<=N:=by
   apply dD;intro z;obtain⟨i,hi,e,_⟩:=ba (N - n) (by lia);rw [<-jI,show n+(N - n)=N by lia] at e;exact h1 ⟨i,hi,e⟩
  have P5:∀ i,i < t.place.size->ks[i]?=some k->S.hk es i=h:=by
   intro i hi e;have DW:i < es.size:=by rw [<-O.sz]; exact hi
   obtain⟨k',b',q1,_,_,q4⟩:=M.2 i _ (bE DW);rw [e] at q1; cases q1;unfold S.hk;rw [bE DW,<-hh]; exact q4.1
  have TY:∀ n',n' < n+n1->∀ i,i < t.place.size->t.place.getD i 0=(eL t.mask n' (probeStart t h)).j->ks[i]?≠some k:=by
   intro n' Rz i hi e ek;by_cases c:n' < n
   ·exact past n' c i hi e ek
   ·obtain⟨i',DW,e',ne⟩:=ba (n' - n) (by lia);rw [<-jI,show n+(n' - n)=n' by lia] at e';have:=O.up.inj hi DW (e.trans e'.symm);subst this;exact ne (P5 i hi ek)
  rcases fin with ⟨nf,rfl⟩ | ⟨i,hi,pi,ac7,rfl⟩
  ·have eN:n+n1=N:=by
    by_cases c:n+n1 < N
    ·exact absurd (h2 _ c) nf
    ·lia
   rw [eN];dsimp only;refine aw (no fun hk=>?_);obtain⟨i,hi,e⟩:=kW hk;have ek:ks[i]?=some k:=by rw [ax hi,e]
   have DW:i < t.place.size:=by rw [O.sz,<-M.1]; exact hi
   obtain⟨n0,w1,w2⟩:=O.way i DW;rw [P5 i DW ek] at w1 w2;have lt:n0 < N:=by
    apply dD;intro z;by_cases c:n0=N
    ·subst c; exact h1 ⟨i,DW,w1.symm⟩
    ·exact h1 (w2 N (by lia))
   exact TY n0 (by lia) i DW w1.symm ek
  ·have DW:i < es.size:=by rw [<-O.sz]; exact hi
   obtain⟨k',b',q1,q2,q3,q4⟩:=M.2 i _ (bE DW);have nN:n+n1≠N:=fun z=>h1 ⟨i,hi,by rw [<-z]; exact pi⟩;have red:∀ (l:List Value) (m:Sem SetFound),(∀ y∈l,∃ k' b',y=.ref b'/\(TK prog w).is s.heap k' b')->wpAny (model prog w) A m Q E s ->
     wpAny (model prog w) A (if (!t.led)=true then (Il (.ref b) l >>= fun r=>if r=true then ((unsupported "set:the-search-would-show-the-table" : Sem PUnit) >>= fun _=>m) else m) else m) Q E s:=by
    intro l m hl hm;cases t.led with
    | true=>rw [if_neg (by intro z; cases z)]; exact hm
    | false =>
     rw [if_pos (show (!false)=true from rfl)];refine af (L3 rfl hx hl ?_);rw [if_neg (by intro z; cases z)]; exact hm
   refine red _ _ (fun y hy=>?_) ?_
   ·obtain⟨e,he,rfl⟩:=List.mem_map.mp hy;rw [Array.toList_filter] at he;have he:=(List.mem_filter.mp he).1;obtain⟨m,hm,em⟩:=kW he;obtain⟨k2,b2,_,z2,z3,_⟩:=M.2 m e (by rw [<-cU,ax hm,em]);exact⟨k2,b2,z2,z3⟩
   ·rw [bE DW];generalize he0:es[i]=e0 at q2 q4 ⊢;obtain⟨h0,y⟩:=e0;have q2:y=.ref b':=q2;subst q2;dsimp only;refine af (cP ((TK prog w).eqBool hu q3 hx ?_));refine af (so ho hd O ?_);dsimp only;by_cases c:k'=k
    ·rw [decide_eq_true c,if_pos (show (true&&true)=true from rfl)];subst c;exact aw (yes (fy q1))
    ·rw [decide_eq_false c,if_neg (by intro z; cases z)];have sm:t.sameMemory t.moves t.mask=some true:=by unfold SetTable.sameMemory; rw [if_pos (beq_self_eq_true _)]
     rw [sm];dsimp only;rw [if_pos (show true=true from rfl),show t.slot (eL t.mask (n+n1) (probeStart t h)).j=.live i from pi ▸ B7 O.up hi];dsimp only;rw [bE DW,he0];dsimp only;refine af ?_;unfold isSame;dsimp only;rw [if_pos (beq_self_eq_true b')];refine aw (af (aw ?_));rw [if_pos (show true=true from rfl)];dsimp only;rw [if_neg (by intro z; cases z)];have WV:=B2 hu ho hd O M hx (N:=N) (Q:=Q) (by rw [hh]; exact h1) (by rw [hh]; exact h2) yes (by rw [hh]; exact no) fuel (n+n1+1) (some (eL t.mask (n+n1+1) (probeStart t h)));rw [hh] at WV;refine WV (by lia) (by lia) rfl fun n' Rz i2 XI e2 ek=>?_;by_cases c2:n' < n+n1
     ·exact TY n' c2 i2 XI e2 ek
     ·have:n'=n+n1:=by lia
      subst this;have:=O.up.inj XI hi (e2.trans pi.symm);subst this;rw [q1] at ek; cases ek; exact c rfl
end
end K2.S
end
section
namespace K2.S
open PySem PySem.Spec PyProof.Rows L2 PySem.SetTable
section
variable {B:Addr->Prop} {prog:bG} {w:World} {A:du} {E:Value->az->Prop} {s:az}
theorem Rg.keep{h h':Heap}{es:En}{ks:List (List Key)}(M:Rg B prog w h es ks)(e:∀ b o,B b->h.get? b=some o->(∃ items n,o.data=.seq items n)->h'.get? b=some o):Rg B prog w h' es ks:=by
 refine⟨M.1,fun i x hx=>?_⟩;obtain⟨k,b,q1,q2,q3,q4⟩:=M.2 i x hx;refine⟨k,b,q1,q2,?_,q4⟩;obtain⟨o,items,n,ho,hc,hd,r⟩:=q3;exact⟨o,items,n,e b o q4.2 ho ⟨items,n,hd⟩,hc,hd,r⟩
theorem Rg.perm{h:Heap}{es Ig:En}{ks:List (List Key)}(M:Rg B prog w h es ks)(p:Rn Ig.toList es.toList):∃ NP,Rg B prog w h Ig NP/\NP.Perm ks:=by
 classical
 let Kf:Int×Value->List Key:=fun e=>if z:∃ k,∃ b,e.2=.ref b/\(TK prog w).is h k b then zj z else []
 have at_:∀ e∈es.toList,∃ b,e.2=.ref b/\(TK prog w).is h (Kf e) b/\e.1=(TK prog w).hash (Kf e)/\B b:=by
  intro e he;obtain⟨i,hi,ei⟩:=kW he;obtain⟨k,b,q1,q2,q3,q4⟩:=M.2 i e (by rw [<-cU,ax hi,ei]);have z:∃ k,∃ b,e.2=.ref b/\(TK prog w).is h k b:=⟨k,b,q2,q3⟩;have ek:Kf e=zj z:=dif_pos z;obtain⟨b2,e2,i2⟩:=uD z;rw [q2] at e2;cases e2;have:=PO q3 i2;rw [ek,<-this];exact⟨b,q2,q3,q4⟩
 have eks:ks=es.toList.map Kf:=by
  refine List.ext_getElem? fun i=>?_;rw [bz];by_cases hi:i < es.size
  ·obtain⟨k,b,q1,q2,q3,q4⟩:=M.2 i _ (bE hi);rw [q1,cU,bE hi];obtain⟨b2,z1,z2,_⟩:=at_ es[i] (Array.getElem_mem_toList hi);rw [q2] at z1; cases z1;rw [PO q3 z2]; rfl
  ·rw [jU (by rw [M.1]; lia),cU,mK (by lia)]; rfl
 refine⟨Ig.toList.map Kf,⟨by rw [ao,bZ],fun i e he=>?_⟩,by rw [eks]; exact p.map _⟩;have hm:e∈Ig.toList:=fy (by rw [cU]; exact he);obtain⟨b,z1,z2,z3⟩:=at_ e (p.mem_iff.mp hm);exact⟨Kf e,b,by rw [bz,cU,he]; rfl,z1,z2,z3⟩
theorem Rg.ins{h:Heap}{es:En}{ks:List (List Key)}(M:Rg B prog w h es ks){k:List Key}{b:Addr}(hx:(TK prog w).is h k b)(hB:B b){p:Nat}(hp:p<=es.size) :
  Rg B prog w h (insertAt es p ((TK prog w).hash k,.ref b)) (ks.take p++k :: ks.drop p):=by
 have lk:(ks.take p).length=p:=by rw [eB,M.1]; lia
 refine⟨by rw [ar,ai,lk,cI,iL _ _ _ hp,M.1]; lia,fun i e he=>?_⟩;rw [wK _ _ _ hp] at he;by_cases c:i < p
 ·rw [if_pos c] at he;obtain⟨k',b',q⟩:=M.2 i e he;exact⟨k',b',by rw [bS (by lia),tJ c]; exact q.1,q.2⟩
 ·rw [if_neg c] at he;by_cases d:i=p
  ·rw [if_pos d] at he;cases he;exact⟨k,b,by rw [bH (by lia),lk,d,EN]; rfl,rfl,hx,rfl,hB⟩
  ·rw [if_neg d] at he;obtain⟨k',b',q⟩:=M.2 (i - 1) e he;exact⟨k',b',by rw [bH (by lia),lk,show i - p=(i - p - 1)+1 by lia,ae,List.getElem?_drop,show p+(i - p - 1)=i - 1 by lia]; exact q.1,q.2⟩
noncomputable def Ko(k:List Key):Prop:=∀ x∈k,∃ i,x=j5 i
noncomputable def Q0(B:Addr->Prop)(prog:bG)(w:World)(h:Heap)(a:Addr)(led:Bool)(ks:List (List Key)):Prop :=
 ∃ o es ep t,h.get? a=some o/\o.ExactSet/\o.data=.set es ep t/\TC t es/\t.tooFull=false/\t.led=led/\((∀ k∈ks,Ko k)->t.plain=true)/\Rg B prog w h es ks
theorem int_at{k:List Key}{vs:List Value}(hi:ItemsAre (cx prog w) k vs)(c:Ko k){v:Value}(hv:v∈vs):∃ t:Int×Tok,v=.int t.1 t.2:=by
 induction hi with
 | nil=>cases hv
 | cons h _ ih =>
  rcases List.mem_cons.mp hv with e | hv
  ·subst e;obtain⟨i,rfl⟩:=c _ bJ;rcases eT (k:=.inl i) h with ⟨j,t,e,rfl⟩ | ⟨_,_,e,_⟩
   ·exact⟨(j,t),rfl⟩
   ·cases e
  ·exact ih (fun x hx=>c x (aK _ hx)) hv
theorem UA{k:List Key}{b:Addr}(hx:(TK prog w).is s.heap k b){Q:Bool->az->Prop}(h:∀ r,(Ko k->r=true)->Q r s):wpAny (model prog w) A (Oa 8 (.ref b)) Q E s:=by
 have hT:s.TypeIs (.ref b) "tuple":=NG hx;obtain⟨o,items,n,ho,_,hd,hi⟩:=hx;unfold Oa;refine af (wpAny_specialOf hT F.slot_tuple_hash.lookup ?_);show wpAny _ _ (seqItems? (.ref b) >>= _) _ _ s;refine af (jR ho hd ?_);refine af ?_;show wpAny _ _ (forIn items _ _) _ _ s;rw [<-rC];have hb:∀ v∈items.toList,∃ r,Oa 7 v=pure r/\(Ko k->r=true):=by
  intro v hv0;by_cases c:Ko k
  ·obtain⟨t,e⟩:=int_at hi c hv0;subst e;exact⟨true,rfl,fun _=>rfl⟩
  ·have hv:=hi.byValue v hv0;cases v <;> first | exact⟨_,rfl,fun z=>absurd z c⟩ | (exact bI (show false=true from hv))
 refine qt _ (fun rest r s'=>r.1=none/\s'=s/\∀ v∈rest,∃ r,Oa 7 v=pure r/\(Ko k->r=true)) _ ?_ ?_ _ _ ⟨rfl,rfl,hb⟩
 ·rintro v rest r s' ⟨hr,rfl,nY⟩;obtain⟨x,hv,hx1⟩:=nY v bJ;rw [hv];refine af (aw ?_);cases x with
  | true =>
   rw [if_neg (by intro z; cases z)];exact aw ⟨rfl,rfl,fun u DU=>nY u (aK _ DU)⟩
  | false =>
   rw [if_pos (show (!false)=true from rfl)];exact aw (aw (h _ hx1))
 ·rintro⟨r1,r2⟩ s' ⟨hr,rfl,_⟩;simp only at hr;subst hr;exact aw (h _ fun _=>rfl)
theorem OG{m n:Nat}(hm:Mk m)(h1:¬ n * 5>=m * 3)(h2:(n+1) * 5>=m * 3)(h3:n < 76):Mk (sizeAbove (grown (n+1)) - 1)/\n+1<=sizeAbove (grown (n+1)) - 1/\¬ (n+1) * 5>=(sizeAbove (grown (n+1)) - 1) * 3/\sizeAbove (grown (n+1))<=128:=by
 rcases hm with rfl | rfl | rfl
 ·have:n=4:=by lia
  subst this;exact⟨.inr (.inl (by decide)),by decide,by decide,by decide⟩
 ·have:n=18:=by lia
  subst this;exact⟨.inr (.inr (by decide)),by decide,by decide,by decide⟩
 ·lia
end
end K2.S
end
section
namespace K2.S
open PySem PySem.Spec PyProof.Rows L2 PySem.SetTable
section
variable {B:Addr->Prop} {prog:bG} {w:World} {A:du} {E:Value->az->Prop} {s:az}
theorem OR{m i:Nat}(h:i < m+1):i+(runEnd m i - i)<=m:=by
 unfold runEnd; split <;> lia
theorem WM{m:Nat}{p:Probe}(h:p.j+p.more<=m):(Fg m p).j+(Fg m p).more<=m:=by
 unfold Fg;by_cases c:p.more > 0
 ·rw [if_pos c]; dsimp only; lia
 ·rw [if_neg c]; exact OR (uB _ (lF m))
theorem OI{m:Nat}:∀ (n:Nat) {p:Probe},p.j+p.more<=m->(eL m n p).j+(eL m n p).more<=m
 | 0,_,h=>h
 | n+1,_,h=>OI n (WM h)
theorem K0{h:Heap}{a:Addr}{o:Obj}{es:En}{ep:Nat}{t:iZ}(ho:h.get? a=some o)(hd:o.data=.set es ep t)(Ig:En)(t':iZ) :
  (h.update a (uA Ig t')).get? a=some { o with data:=.set Ig (ep+1) t' }:=by
 have:=jV (uA Ig t') ho (by rw [putSet_of Ig t' hd]; rfl);rw [putSet_of Ig t' hd] at this; exact this
theorem FJ{h:Heap}{a:Addr}{o:Obj}{es:En}{ep:Nat}{t:iZ}(ho:h.get? a=some o)(hd:o.data=.set es ep t)(f:Obj->Obj):∀ b o',h.get? b=some o'->(∃ items n,o'.data=.seq items n)->(h.update a f).get? b=some o':=by
 rintro b o' e ⟨items,n,q⟩;have nb:a≠b:=fun z=>by subst z; rw [ho] at e; cases e; rw [hd] at q; cases q
 exact(dc _ _ nb).trans e
theorem D5(t:iZ)(dm:t.dummies=#[]):t.tooFull=decide (t.place.size * 5>=t.mask * 3):=by
 unfold SetTable.tooFull HJ; rw [dm]; rfl
theorem UB{a:Addr}{led:Bool}{ks:List (List Key)}{k:List Key}{b:Addr}(hu:(TK prog w).room A)(hS:Q0 B prog w s.heap a led ks)(hx:(TK prog w).is s.heap k b)(hB:B b)(oG:ks.length < 76){Q:Bool->az->Prop}
  (h:∀ h' NP r,(k∈ks->NP=ks)->(k∉ks->NP.Perm (k :: ks))->ip a s.heap h'->Q0 B prog w h' a led NP->Q r { s with heap:=h' }) :
  wpAny (model prog w) A (setAddHashed a (.ref b) ((TK prog w).hash k)) Q E s:=by
 obtain⟨o,es,ep,t,ho,hex,hd,O,nf,hl,hpn,M⟩:=hS;have hsz:es.size < 76:=by rw [<-M.1]; exact oG
 obtain⟨N,hN,h1,h2⟩:=AJ O _ (Pb.start t ((TK prog w).hash k));have hN':N < 100000:=by
  have:t.mask<=127:=by rcases O.ms with e | e | e <;> lia
  unfold turns at hN; lia
 unfold setAddHashed setAddHashedIn;refine cP (af (so ho hd O ?_));dsimp only;rw [show byScan (.ref b) es=false from rfl,if_neg (by intro z; cases z)];unfold setSearch;refine af (B2 hu ho hd O M hx h1 h2 (fun hk=>?_) (fun hk=>?_) 100000 0 none (by lia) (cq _) rfl (fun n' z=>absurd z (cY _)))
 ·dsimp only;refine aw ?_;have e:s={ s with heap:=s.heap }:=by cases s; rfl
  rw [e];exact h s.heap ks false (fun _=>rfl) (fun z=>absurd hk z) (Heap.SameBut.refl a s.heap) ⟨o,es,ep,t,ho,hex,hd,O,nf,hl,hpn,M⟩
 ·dsimp only;refine af (so ho hd O ?_);dsimp only;rw [Mn t O.dm];dsimp only;obtain⟨j,ej⟩:∃ j,(eL t.mask N (probeStart t ((TK prog w).hash k))).j=j:=⟨_,rfl⟩;rw [ej];have hj:j<=t.mask:=by
   rw [<-ej];exact a9 (gB _ _) (OI N (OR (uB _ (lF t.mask))))
  have nf':¬ t.place.size * 5>=t.mask * 3:=by rw [D5 t O.dm] at nf; exact of_decide_eq_false nf
  have room:t.place.size+1<=t.mask:=by rcases O.ms with e | e | e <;> lia
  have QX:below t.place j<=es.size:=by rw [<-O.sz]; exact(vo O.up j).1
  have rest:∀ t':iZ,t'.mask=t.mask->t'.dummies=t.dummies->t'.place=insertAt t.place (below t.place j) j->t'.led=t.led->((∀ x∈k :: ks,Ko x)->t'.plain=true) ->
    wpAny (model prog w) A (do
     storeSet a (insertAt es (below t.place j) ((TK prog w).hash k,.ref b)) t'
     if (!false&&t'.tooFull)=true then do
      setRelay a (grown (es.size+1))
      pure true
     else pure true) Q E s:=by
   intro t' e1 e2 e3 e4 e5;have O':TC t' (insertAt es (below t.place j) ((TK prog w).hash k,.ref b)):=by
    have:=O.add (x:=.ref b) h1 h2 (by rw [ej]; exact hj) room e1 e2 (by rw [ej]; exact e3);rw [ej] at this; exact this
   have M':=M.ins hx hB QX;have UI:t'.place.size=es.size+1:=by rw [O'.sz,iL _ _ _ QX]
   have pk:(ks.take (below t.place j)++k :: ks.drop (below t.place j)).Perm (k :: ks):=by
    refine List.perm_middle.trans ?_;rw [xj]
   refine af (wpAny_storeSet_of ho hd ?_ (by rw [iL _ _ _ QX,cH]; lia));have g1:=K0 ho hd (insertAt es (below t.place j) ((TK prog w).hash k,.ref b)) t';have M1:=M'.keep (h':=s.heap.update a (uA (insertAt es (below t.place j) ((TK prog w).hash k,.ref b)) t')) (fun c o _=>FJ ho hd _ c o);have sb1:=jW s.heap a (uA (insertAt es (below t.place j) ((TK prog w).hash k,.ref b)) t');cases tf:t'.tooFull with
   | false =>
    rw [if_neg (by intro z; cases z)];exact aw (h _ _ true (fun z=>absurd z hk) (fun _=>pk) sb1 ⟨_,_,_,_,g1,hex,rfl,O',tf,e4.trans hl,fun z=>e5 fun x hx=>z x (pk.mem_iff.mpr hx),M1⟩)
   | true =>
    rw [if_pos (show (!false&&true)=true from rfl)];rw [D5 t' O'.dm,UI,e1] at tf;obtain⟨m1,m2,m3,m4⟩:=OG O.ms (n:=es.size) (by rw [<-O.sz]; exact nf') (of_decide_eq_true tf) hsz;refine af ?_;unfold setRelay;refine af (so (s:={ s with heap:=s.heap.update a (uA (insertAt es (below t.place j) ((TK prog w).hash k,.ref b)) t') }) g1 rfl O' ?_);dsimp only;rw [if_neg (by rw [cH]; lia)];obtain⟨t2,order,el,l1,l2,l3,l4,l5,O2⟩:=SF m1 (insertAt es (below t.place j) ((TK prog w).hash k,.ref b)) (by rw [iL _ _ _ QX]; exact m2) t'.finger (t'.movedTo (sizeAbove (grown (es.size+1)) - 1)) t'.led t'.plain;have er:t'.relaid ((insertAt es (below t.place j) ((TK prog w).hash k,fi b)).map (·.1)) (grown (es.size+1))=some (t2,order):=el;rw [er];refine af (CW (a:=(order.filterMap ((insertAt es (below t.place j) ((TK prog w).hash k,fi b))[·]?),t2)) ?_ ?_)
    ·show (if (_ != _)=true then _ else _)=_;rw [if_neg (by rw [l4,bne_self_eq_false]; intro z; cases z)]
    obtain⟨ks2,M2,pm⟩:=M1.perm l5;refine wpAny_storeSet_of g1 rfl ?_ (by rw [l4,iL _ _ _ QX,cH]; lia);have g2:=K0 g1 rfl (order.filterMap ((insertAt es (below t.place j) ((TK prog w).hash k,fi b))[·]?)) t2;have M3:=M2.keep (h':=(s.heap.update a (uA (insertAt es (below t.place j) ((TK prog w).hash k,.ref b)) t')).update a (uA (order.filterMap ((insertAt es (below t.place j) ((TK prog w).hash k,fi b))[·]?)) t2)) (fun c o _=>FJ g1 rfl _ c o);refine aw (h _ ks2 true (fun z=>absurd z hk) (fun _=>pm.trans pk) (sb1.trans (jW _ a _)) ⟨_,_,_,_,g2,hex,rfl,O2,?_,by rw [l2,e4]; exact hl,fun z=>l3.trans (e5 fun x hx=>z x ((pm.trans pk).mem_iff.mpr hx)),M3⟩);rw [D5 t2 O2.dm,O2.sz,l4,iL _ _ _ QX,l1];exact decide_eq_false m3
  cases hp:t.plain with
  | true =>
   rw [if_pos (show true=true from rfl)];refine af (UA hx fun r hr=>?_);cases r with
   | true=>exact rest _ rfl rfl rfl rfl fun _=>rfl
   | false=>exact rest _ rfl rfl rfl rfl fun z=>hr (z k bJ)
  | false =>
   rw [if_neg (by intro z; cases z)];exact af (aw (rest _ rfl rfl rfl rfl fun z=>by have:=hpn fun x hx=>z x (aK _ hx); rw [hp] at this; exact this))
end
end K2.S
end
section
namespace K2.S
open PySem PySem.Spec PyProof.Rows L2 PySem.SetTable
section
variable {B:Addr->Prop} {prog:bG} {w:World} {A:du} {E:Value->az->Prop} {s:az}
noncomputable def V0 (w:World):Bool:=w.params.followText "set-order"
noncomputable def zw (w:World):Obj:={ cls:=.type "set",dict:=none,data:=.set #[] 0 (.fresh 0 0 (!V0 w)) }
theorem R0{h:Heap}{a:Addr}(e:h.get? a=some (zw w)):Q0 B prog w h a (!V0 w) []:=by
 refine⟨_,#[],0,.fresh 0 0 (!V0 w),e,⟨rfl,rfl,rfl⟩,rfl,⟨.inl rfl,rfl,rfl,fun a b _ z=>absurd z (cY _),fun k z=>absurd z (cY _),cq _,fun k z=>absurd z (cY _)⟩,rfl,rfl,(fun _=>rfl),rfl,fun i e he=>?_⟩;cases he
theorem WN (x:Value) {Q:Value->az->Prop} (h:Q (.ref s.heap.objs.size) { s with heap:=s.heap.push (zw w) }):sd (model prog w) A (.call (.builtin "set.__new__") ⟨[.type "set",x],[]⟩) (wants Q E) s:=by
 refine codeAny_of_tree (show wpAny _ A.in1 (do checkBuiltinCall "set.__new__" ⟨[.type "set",x],[]⟩; again (.builtin "set.__new__" ⟨[.type "set",x],[]⟩)) _ _ s from ?_);refine af (CW (F.newCall_set_1 x) (aw ⟨iF F.plain_set_new _,fH F.entry_set_new ?_⟩));rw [dH F.plain_set_new _];unfold Builtin.«set.__new__» Builtin.Frozenset.newClass;have MT:=sub_set_self;obtain⟨hp,g,d,tk,os⟩:=s;dsimp only at h ⊢
 wp_walk
 refine wpAny_askSetting (aw ?_);dsimp only;simp only [newObj];refine af (wpAny_alloc (aw (aw h)))
variable {R:Result->az->Prop} {I:Addr} {fp wr:List Addr} {G:Array GenState->Array GenState->Prop} {n:Nat} {P:Nat->Value->Prop} {St:Nat->az->Prop}
noncomputable def JD(acc:List (List Key))(k:List Key):Bool:=acc.any fun x=>decide (x=k)
theorem GF{acc:List (List Key)}{k:List Key}:JD acc k=true↔k∈acc:=by
 unfold JD;rw [List.any_eq_true];exact⟨fun ⟨x,hx,e⟩=>of_decide_eq_true e ▸ hx,fun h=>⟨k,h,decide_eq_true rfl⟩⟩
noncomputable def sA(acc:List (List Key))(k:List Key):List (List Key):=if JD acc k=true then acc else acc++[k]
noncomputable def ded(l:List (List Key)):List (List Key):=l.foldl sA []
theorem Mc(acc:List (List Key))(k:List Key):(sA acc k).length<=acc.length+1:=by
 unfold sA; split
 ·lia
 ·rw [ar,cW]; exact aF _
theorem Q0.keeps{h h':Heap}{a:Addr}{b:Bool}{ks:List (List Key)}(x:Q0 B prog w h a b ks)(k:∀ c o,(c=a\/B c)->h.get? c=some o->h'.get? c=some o):Q0 B prog w h' a b ks:=by
 obtain⟨o,es,ep,t,e,r1,r2,r3,r4,r5,r6,M⟩:=x;exact⟨o,es,ep,t,k a o (.inl rfl) e,r1,r2,r3,r4,r5,r6,M.keep fun c o z e _=>k c o (.inr z) e⟩
theorem UK{b:Bool}(W:WalksS prog w A.in1 I fp wr G n P St)(S:Addr)(Wt:S∉fp)(T:Heap->Prop)(key:Nat->List Key)(oG:n<=76)(hu:(TK prog w).room A.in1)
  (hT:∀ h,T h->∀ i v,P i v->∃ c,v=.ref c/\(TK prog w).is h (key i) c/\B c) (hTk:∀ h h',T h->(∀ c o,c∉S :: wr->h.get? c=some o->h'.get? c=some o)->T h')
  (hW:∀ c,B c->c∉wr) :
  ∀ (k i:Nat) (s:az) (acc ks:List (List Key)),n - i=k->i<=n->acc.length<=i->ks.Perm acc->St i s->T s.heap->Q0 B prog w s.heap S b ks ->
   (∀ s' NP,Moved (S :: wr) G s s'->NP.Perm (((List.range' i k).map key).foldl sA acc)->T s'.heap->Q0 B prog w s'.heap S b NP->R (.ok (.ret .none)) s') ->
   sd (model prog w) A (.builtin "set.update.loop" ⟨[.ref S,.ref I],[]⟩) R s:=by
 have Y1:S∉wr:=fun h=>Wt (W.sub _ h);have MT:∀ c∈wr,c∈S :: wr:=fun c hc=>aK _ hc;intro k;induction k with
 | zero =>
  intro i s acc ks hk hi ha hp JA ht hS hR;have NR:i=n:=by lia
  subst NR;refine fH RP ?_;rw [dH vK _];show wpAny _ A.in1 (kS (.ref I) >>= _) _ _ s;refine af (W.done s _ _ JA fun s' hm=>(show wpAny _ A.in1 (ret gf) _ _ s' from aw (hR s' ks (hm.mono MT) hp (hTk _ _ ht fun c o hc e=>hm.heap c o (fun z=>hc (MT c z)) e) (hS.keeps fun c o z e=>hm.heap c o (fun q=>?_) e))));rcases z with rfl | z
  ·exact Y1 q
  ·exact hW c z q
 | succ k ih =>
  intro i s acc ks hk hi ha hp JA ht hS hR;have xK:i < n:=by lia
  refine fH RP ?_;rw [dH vK _];show wpAny _ A.in1 (kS (.ref I) >>= _) _ _ s;refine af (W.item i s _ _ xK JA fun v s' hP aba hm=>?_);have SR:T s'.heap:=hTk _ _ ht fun c o hc e=>hm.heap c o (fun z=>hc (MT c z)) e;obtain⟨c,rfl,hx,hB⟩:=hT _ SR i v hP;have XX:Q0 B prog w s'.heap S b ks:=hS.keeps fun c o z e=>hm.heap c o (fun q=>by
   rcases z with rfl | z
   ·exact Y1 q
   ·exact hW c z q) e
  show wpAny _ A.in1 (Io [fi c] (setAdd S (.ref c)) >>= _) _ _ s';refine af (cP ?_);unfold setAdd;refine cP (af ((TK prog w).pyHash hu hx ?_));refine UB (s:={ s' with toks:=s'.toks+(TK prog w).draws (key i) }) hu XX hx hB (by rw [hp.length_eq]; lia) fun h' NP r NR XC Xv hS2=>?_;have RX:T h':=hTk _ _ SR fun c o hc e=>by rw [Xv.2 c (fun z:c=S=>hc (by rw [z]; exact bJ))]; exact e
  have XA:NP.Perm (sA acc (key i)):=by
   unfold sA;by_cases z:JD acc (key i)=true
   ·rw [if_pos z,NR (hp.mem_iff.mpr (GF.mp z))]; exact hp
   ·rw [if_neg z];exact(XC fun q=>z (GF.mpr (hp.mem_iff.mp q))).trans ((hp.cons _).trans (List.perm_append_singleton _ _).symm)
  refine aw ⟨iF vK _,ih (i+1) _ (sA acc (key i)) NP (by lia) xK (a9 (Mc _ _) (by lia)) XA (W.frame _ s' _ _ aba (gB _ _) fun c hc o e=>?_) RX hS2 fun s2 ks2 Ia Rx ht2 SX=>?_⟩
  ·rw [Xv.2 c (fun z:c=S=>Wt (by rw [<-z]; exact hc))]; exact e
  ·refine hR s2 ks2 (Moved.trans W.gtrans ((hm.mono MT).then_heap (gB _ _) fun c o hc e=>?_) Ia) Rx ht2 SX;rw [Xv.2 c (fun z:c=S=>hc (by rw [z]; exact bJ))]; exact e
end
end K2.S
end
section
namespace K2.S
open PySem PySem.Spec PyProof.Rows L2 PySem.SetTable
section
variable {prog:bG} {w:World} {A:du} {E:Value->az->Prop} {s:az}
set_option maxRecDepth 100000 in
theorem UL{l:Addr}{items:Array Value}{Q:Value->az->Prop}(hh:A.handled=none)(hu:A.units+64 < cLine)(hl:s.heap.IsList l items)(key:Nat->List Key)(oG:items.size<=76)(aa8:∀ (i:Nat) (v:Value),items[i]?=some v->∃ c,v=.ref c/\(TK prog w).is s.heap (key i) c)
  (h:∀ (h':Heap) (tk:Nat) (ks:List (List Key)),Q0 (fun c=>c < s.heap.objs.size/\fi c∈items.toList) prog w h' s.heap.objs.size (!V0 w) ks->ks.Perm (ded ((c9 items.size).map key))->(∀ c o,c < s.heap.objs.size->s.heap.get? c=some o->h'.get? c=some o)->Q (.ref s.heap.objs.size) { s with heap:=h',toks:=tk }) :
  wpAny (model prog w) A (call (.type "set") [.ref l]) Q E s:=by
 obtain⟨c,tl,afc⟩:=F.called_set.mro;have ac1:=F.called_set.made;have MT:=F.called_set.sub;refine wpAny_call (codeAny_of_tree (show wpAny _ _ (callAny (.type "set") _) _ _ _ from ?_));refine aw ⟨Code.quiet_builtin _ (by decide +kernel),fH F.entry_type_call ?_⟩;rw [Around.under_plain (weight_type_call_type "set" [.ref l] []) rfl];have h1:=F.called_set.notType;have h2:=F.called_set.canCreate;have hct:=F.typeCall_set_1 (.ref l)
 repeat (any_goals (first | assumption | wp_step))
 refine zf (WN (.ref l) (E:=E) (Q:=fun obj fM=>obj=.ref s.heap.objs.size/\fM={ s with heap:=s.heap.push (zw w) }) ⟨rfl,rfl⟩) fun r s1 hr=>?_;cases r with
 | error e=>exact hr
 | ok fl =>
  cases fl with
  | ret obj =>
   obtain⟨rfl,rfl⟩:=hr;have hS:(s.heap.push (zw w)).get? s.heap.objs.size=some (zw w):=bh _ rfl;have hT:Ku { s with heap:=s.heap.push (zw w) } (.ref s.heap.objs.size) "set":=⟨_,hS,rfl⟩;have hli:=F.called_set.init.lookup;have hbi:=F.called_set.init.bind (.ref s.heap.objs.size)
   repeat (any_goals (first | assumption | wp_step))
   refine zf (codeAny_call_builtin (R:=wants (fun r kQ=>r=.none/\∃ h' tk ks,kQ={ s with heap:=h',toks:=tk }/\Q0 (fun c=>c < s.heap.objs.size/\fi c∈items.toList) prog w h' s.heap.objs.size (!V0 w) ks/\ks.Perm (ded ((c9 items.size).map key)) /\
     (∀ c o,c < s.heap.objs.size->s.heap.get? c=some o->h'.get? c=some o)) E) F.called_set.init.plain F.entry_set_init (check_set_init_1 hT ?_)) fun ZS kQ PZ=>?_
   ·obtain⟨⟨aey,W9,acx,U6⟩,hol,DZ,nl,hdl⟩:=hl;simp only at DZ hdl;subst DZ hdl;have abd:(s.heap.push (zw w)).get? l=some { cls:=.type "list",dict:=W9,data:=.seq items nl,slots:=U6 }:=aE _ hol;have ae2:=F.sub_list_set;have ae3:=F.sub_list_frozenset;have wM:(Value.type "list" == Value.type "dict")=false:=by decide
    have yD:(s.heap.push (zw w)).IsList l items:=⟨_,abd,rfl,nl,rfl⟩;unfold zw at *;unfold Builtin.«set.__init__» noKeywords Builtin.Frozenset.updateFrom;generalize hPI:BX=PI
    wp_walk
    subst hPI;refine vF yD (af (wpAny_runValue ?_));have hlS:l < s.heap.objs.size:=aP hol;have hh3:A.in1.in1.in1.handled=none:=by simp [hh]
    have hsz:(s.heap.push (zw w)).objs.size=s.heap.objs.size+1:=iw _ _;unfold zw at hsz;have hIn:∀ c,c < s.heap.objs.size->c∉[(s.heap.push { cls:=.type "set",dict:=none,data:=.set #[] 0 (.fresh 0 0 (!V0 w)) }).objs.size]:=fun c hc=>by
     rw [hsz]; simp only [bN]; lia
    refine UK (B:=(fun c=>c < s.heap.objs.size/\fi c∈items.toList)) (b:=!V0 w) ((Walks.list hh3 _ l (by rw [hsz]; exact bc (nF hlS)) items).toS) s.heap.objs.size (by rw [hsz]; simp only [bQ,bL,or_false,not_or]; exact⟨bc (kT _),lH hlS⟩)
     (fun h=>∀ c o,c < s.heap.objs.size->s.heap.get? c=some o->h.get? c=some o) key oG (by show A.in1.in1.in1.units < cLine; show A.units+1+1+1 < cLine; lia) (fun h ht i v hP=>?h1) (fun h h' ht k c o hc e=>k c o ?h2 (ht c o hc e)) (fun c hc=>hIn c hc.1) (items.size - 0) 0 _ [] [] (by lia) (cq _) (aF _) (List.Perm.refl _) ⟨⟨_,bh _ rfl,rfl,rfl⟩,yD.push _⟩
     (fun c o hc e=>aE _ (aE _ e)) ?hS0 ?hR
    case h1 =>
     obtain⟨c,e1,e2⟩:=aa8 i v hP;obtain⟨o,_,_,eo,_⟩:=id e2;exact⟨c,e1,SJ e2 fun o e=>ht c o (aP e) e,aP eo,by rw [<-e1]; exact Array.mem_toList_iff.mpr (Array.mem_of_getElem? hP)⟩
    case h2 =>
     intro z;rcases List.mem_cons.mp z with z | z
     ·exact absurd z (bc hc)
     ·exact hIn c hc z
    case hS0=>exact R0 (aE _ hS)
    case hR =>
     intro s' ks hm hq ht XX;obtain⟨h',g',d',RX,Z5⟩:=s';cases (show g'=s.gens from hm.gens);cases (show d'=s.drawn from hm.drawn);cases (show Z5=s.os from hm.os);refine aw (show wpAny _ _ (ret gf) _ _ _ from aw ⟨rfl,h',RX,ks,rfl,XX,?_,ht⟩);rw [Nat.sub_zero,<-List.range_eq_range'] at hq; exact hq
   ·cases ZS with
    | error e=>exact PZ
    | ok X5 =>
     cases X5 with
     | ret r =>
      obtain⟨rfl,h',tk,ks,rfl,XX,hq,P6⟩:=PZ
      repeat (any_goals (first | assumption | wp_step))
      exact h _ _ ks XX hq P6
     | _=>exact PZ.elim
  | _=>exact hr.elim
end
end K2.S
end
section
namespace K2
open PySem PySem.Spec PyProof.Rows L2 PySem.W
section
variable {X:Cx} {a:Expr} {ta:EW} {pos p xE p2:Pos}
theorem Tn:eE "set" = some (.type "set"):=by first | rfl | decide +kernel
noncomputable def tk(k:List Key):D:=.tup (k.map eZ)
theorem OB:∀ {zs:List D},zs.all mH=true->∃ kl:List (List Key),zs=kl.map tk
 | [],_=>⟨[],rfl⟩
 | d :: r,h=>by
  rw [pT,aM] at h;obtain⟨k,rfl⟩:=DO h.1;obtain⟨ks,rfl⟩:=OB h.2;exact⟨k :: ks,rfl⟩
theorem V3(acc:List (List Key))(k:List Key):(acc.map tk).any (i5 · (tk k))=S.JD acc k:=by
 unfold S.JD;rw [List.any_map];congr 1;funext x;exact tu x k
theorem QA:∀ (l acc:List (List Key)),(l.map tk).foldl (fun acc d=>if acc.any (i5 · d)=true then acc else acc++[d]) (acc.map tk)=(l.foldl S.sA acc).map tk
 | [],_=>rfl
 | k :: l,acc=>by
  rw [av,bF,bF,V3];have:(if S.JD acc k=true then acc.map tk else acc.map tk++[tk k])=(S.sA acc k).map tk:=by
   unfold S.sA;split
   ·rfl
   ·rw [aT]; rfl
  rw [this];exact QA l _
theorem SE{x:D}{G:Gp}{zs:List D}(h:C8 x G)(hi:itemsOf x G=some zs):ma x G=some zs:=by
 unfold C8 at h;unfold itemsOf at hi;unfold ma;split at h <;> first | exact h.elim | (simp_all; done) | exact hi
theorem IZ (hc:X.calm=true) (hu:X.A.units+64 < cLine) (hg:Gl X "len") (hm:X.mg "len" = none) (SV:Gl X "set") (Ia:X.mg "set" = none) (ha:Hx X [a] ta) (hs:autoParam (bR [a] X.env=(false,eval a X.env) :: bR [] X.env) Ar._auto_1)
  (xp:autoParam (bR [.Call (.Name "set" p2) [a] [] xE] X.env=(false,eval (.Call (.Name "set" p2) [a] [] xE) X.env) :: bR [] X.env) Ar._auto_1) (JB:autoParam ((mJ pos (bR [] X.env)).any (·.1)=false) Ar._auto_1) (abc:autoParam ((mJ xE (bR [] X.env)).any (·.1)=false) Ar._auto_1) :
  gW X (.Call (.Name "len" p) [.Call (.Name "set" p2) [a] [] xE] [] pos) (qW Et ta):=by
 intro E pins s σ H τ G Q hE I h;refine e7 (mG I.inv hg hm AZ (lD ?_ xp JB));rw [xp];show wpAny _ _ (Ik ((false,eval (.Call (.Name "set" p2) [a] [] xE) X.env) :: mJ pos (bR [] X.env))) _ _ s;refine jv (e7 (mG I.inv SV Ia Tn (c8 (zo ha xE hE I h fun vs H1 ds G1 us s1 I1 m1 r1 jG q1=>?_) hs abc)));unfold Et at q1;split at q1
 ·rename_i x;obtain⟨zs,SQ,hit,⟨hlen,nY⟩,q⟩:=q1;obtain⟨w1,rfl,Dl⟩:=jG.one;obtain⟨u,rfl,ru⟩:=r1.one;obtain⟨l,vs,bM,rfl,rv,rs,hL,hz⟩:=je I1.inv I1.ab ru Dl (SE SQ hit);obtain⟨kl,rfl⟩:=OB nY;have li:bM.length=kl.length:=by rw [<-rv.length,rs.length,ao]
  have at_:∀ (i:Nat) (v:Value),bM.toArray[i]?=some v->∃ c,v=.ref c/\(S.TK X.prog X.w).is s1.heap (kl.getD i []) c:=fun i v hv=>by
   have hv:bM[i]?=some v:=by rw [jT] at hv; exact hv
   have hi:i < kl.length:=by have:=(List.getElem?_eq_some_iff.mp hv).1; lia
   have hd:(kl.map tk)[i]?=some (tk (kl.getD i [])):=by rw [bz,a8,ax hi]; rfl
   obtain⟨vv,h1,h2⟩:=rs.get hd;obtain⟨uu,h3,h4⟩:=rv.get h1;rw [hv] at h3;cases h3;obtain⟨c,rfl,hb⟩:=zG h2;cases h4;exact⟨c,rfl,pF I1.inv.cN hb⟩
  refine S.UL (I1.inv.ok.hd hc) hu hL (fun i=>kl.getD i []) (by rw [aY,li]; rw [ao] at hlen; exact hlen) at_ fun h' RX ks S' hp kp=>?_;refine mS ?_;obtain⟨o,es,ep,t,ho,hex,hd,O,_,_,_,M⟩:=S';have en:es.size=(S8 (kl.map tk)).length:=by
   rw [<-M.1,hp.length_eq,aY,li,sW];show (kl.foldl S.sA []).length=_;have:=QA kl [];show _=((kl.map tk).foldl _ ([]:List D)).length;rw [aQ] at this;rw [this,ao]
  have XQ:t.fits es.size=true:=by unfold SetTable.fits HJ; rw [O.sz,O.dm]; have:=O.oG; have:=O.sz; simp; lia
  have oG:es.size<=127:=by have:=O.oG; rw [O.sz] at this; rcases O.ms with e | e | e <;> lia
  refine call_len_set ho hex hd XQ (by lia) ?_;rw [en];exact⟨.int _,H1,.int _,G1,I1.inv.kept fun b o e=>kp b o (aP e) e,m1,⟨_,rfl⟩,.int _,q⟩
 ·exact q1.elim
end
end K2
end
section
namespace K2
open PySem PySem.Spec PyProof.Rows L2
section
variable {X:Cx}
theorem Pr (hu:X.A.units+64 < cLine):Q8 X "dict.get" Lg:=by
 intro pins s σ H G x d xs ds v us Q I ab rx rd UT KW q;unfold Lg at q;split at q
 ·rename_i a k d';obtain⟨kvs,hg,hk,q⟩:=q;cases rd;obtain⟨w,w2,rfl,Dl,UU⟩:=KW.two;obtain⟨u1,u2,rfl,R5,R4⟩:=vals2 UT;cases rx;obtain⟨H',o,I',m,g,e1,e2⟩:=AO I ab hg hk Dl;refine VQ (d:=w2) (by lia) I' g R5 R4 fun w' s' I2 rr=>?_;cases hl:look kvs k with
  | some d2 =>
   obtain⟨v',ho,rr'⟩:=e2 d2 hl;subst ho;rw [hl] at q;exact⟨v',H',d2,G,I2,m,rr,rr',q⟩
  | none =>
   rw [hl] at e1 q;have ho:o=none:=by cases o with
    | none=>rfl
    | some _=>cases e1
   subst ho;exact⟨w2,H',d',G,I2,m,rr,UU.mono (m.kp ab),q⟩
 ·exact q.elim
end
end K2
end
section
namespace L2
open PySem PySem.Spec PyProof.Rows
section
variable {prog:bG} {w:World} {A:du} {E:Value->az->Prop} {s:az}
theorem Jw{it d:Addr}{od:Obj}{es:Array hU}{i ep:Nat}{ok ov:Value}{Q:Option Value->az->Prop}(hit:pC s.heap it d i es.size ep ok ov)(EU:s.heap.get? d=some od)(dd:od.data=.dict es ep)(hi:i < es.size)
  (hQ:∀ h',IsItemIterOut h' it d (i+1) es.size ep es[i].key es[i].val s.heap.objs.size->h'.get? s.heap.objs.size=some { cls:=.type "tuple",data:=.seq #[es[i].key,es[i].val] }->(∀ b o,b≠it->s.heap.get? b=some o->h'.get? b=some o)->Q (some (.ref s.heap.objs.size)) { s with heap:=h' }) :
  wpAny (model prog w) A (kS (.ref it)) Q E s:=by
 obtain⟨hp,g,dr,tk,os⟩:=s;have ty:Ku ⟨hp,g,dr,tk,os⟩ (.ref it) "dict_itemiterator":=⟨_,hit,rfl⟩;unfold kS;refine af (rJ (fG (name:=oA "__next__") ty jz (dM jz ty HV ?_ (E4 _))));refine af (aw (af (af ?_)))
 first | refine af (jr ty (aw (af (pO hit rfl ?_)))) | refine af (lU ty (aw (af (pO hit rfl ?_))))
 have Pf:fL "dict_itemiterator" = true:=by decide
 rw [Pf];show wpAny _ _ (if (fi d == gf)=true then _ else _) _ _ _;rw [if_neg (fun z=>by cases z)];refine af (aw (af (kO EU dd ?_)));rw [if_neg (by simp)];refine af (aw (af (nC EU dd ?_)));rw [if_neg (by simp)];refine aw ?_;dsimp only;rw [if_neg (show ¬ ((i:Int) < 0) from Int.not_lt.mpr (rW i)),eF,bE hi];dsimp only;refine af ?_
 first | refine af (jr ty (aw (af (oM ty ?_)))) | refine af (lU ty (aw (af (oM ty ?_))))
 show wpAny _ _ (setField (.ref it) 3 (vG ((i:Int)+1)) >>= _) _ _ ⟨hp,g,dr,tk,os⟩;refine af (j9 hit (by simp) fun h1 e1 s1=>?_);have s1:ip it hp h1:=s1;have e1:pC h1 it d (i+1) es.size ep ok ov:=by
  have e:((i+1:Nat):Int)=(i:Int)+1:=by lia
  unfold pC; rw [e]; simpa [vG] using e1
 have ty1:Ku ⟨h1,g,dr,tk,os⟩ (.ref it) "dict_itemiterator":=⟨_,e1,rfl⟩;refine af (cP (af (oM ty1 (af (oM ty1 ?_)))));show wpAny _ _ (sk (.ref it) 6 es[i].key es[i].val) _ _ ⟨h1,g,dr,tk,os⟩;unfold sk;refine af (RF ?_);have z1:h1.objs.size=hp.objs.size:=s1.1;have lt:it < hp.objs.size:=aP hit;have e2:pC (h1.push { cls:=.type "tuple",data:=.seq #[es[i].key,es[i].val] }) it d (i+1) es.size ep ok ov:=aE _ e1;have t2:(h1.push { cls:=.type "tuple",data:=.seq #[es[i].key,es[i].val] }).get? hp.objs.size=some { cls:=.type "tuple",data:=.seq #[es[i].key,es[i].val] }:=by rw [<-z1]; exact bh _ rfl
 have k2:∀ b o,b≠it->hp.get? b=some o->(h1.push { cls:=.type "tuple",data:=.seq #[es[i].key,es[i].val] }).get? b=some o:=fun b o hb e=>aE _ (s1.extBut b o hb e);generalize h1.push { cls:=.type "tuple",data:=.seq #[es[i].key,es[i].val] } = h2 at e2 t2 k2;show wpAny _ _ (jg (.ref it) >>= _) _ _ ⟨h2,g,dr,tk,os⟩;rw [z1];refine af (show wpAny _ _ (jg (.ref it)) _ _ _ from ?_);unfold jg;refine af (g7 e2 rfl (x:=.none) rfl (aw ?_));rw [if_pos rfl];refine af (g7 e2 rfl (x:=ok) rfl (af (g7 e2 rfl (x:=ov) rfl (af (j9 e2 (by simp) fun h3 e3 s3=>?_)))));have s3:ip it h2 h3:=s3;have e3:pC h3 it d (i+1) es.size ep es[i].key ov:=e3;refine af (j9 e3 (by simp) fun h4 e4 s4=>?_);have s4:ip it h3 h4:=s4;have e4:pC h4 it d (i+1) es.size ep es[i].key es[i].val:=e4;refine af (j9 e4 (by simp) fun h5 e5 s5=>?_);have s5:ip it h4 h5:=s5;have e5:IsItemIterOut h5 it d (i+1) es.size ep es[i].key es[i].val hp.objs.size:=e5;refine af (j9 e5 (by simp) fun h6 e6 s6=>?_);have s6:ip it h5 h6:=s6;have all:∀ b o,b≠it->h2.get? b=some o->h6.get? b=some o:=fun b o hb e=>s6.extBut b o hb (s5.extBut b o hb (s4.extBut b o hb (s3.extBut b o hb e)));exact af (CY (aw (aw ⟨_,rfl,aw (hQ h6 e6 (all _ _ (lH lt) t2) fun b o hb e=>all b o hb (k2 b o hb e))⟩)))
end
end L2
namespace L2
open PySem PySem.Spec PyProof.Rows
section
variable {prog:bG} {w:World} {A:du} {E:Value->az->Prop} {s:az}
theorem MQ{it d:Addr}{od:Obj}{es:Array hU}{i ep:Nat}{ok ov:Value}{Q:Option Value->az->Prop}(calm:A.handled=none)(hit:pC s.heap it d i es.size ep ok ov)(EU:s.heap.get? d=some od)(dd:od.data=.dict es ep)(hi:es.size<=i)
  (hQ:∀ h',Heap.ExtBut it s.heap h'->Q none { s with heap:=h' }):wpAny (model prog w) A (kS (.ref it)) Q E s:=by
 have ty:s.TypeIs (.ref it) "dict_itemiterator":=⟨_,hit,rfl⟩;unfold kS;refine af (rJ (fG (name:=oA "__next__") ty jz (dM jz ty HV ?_ (E4 _))));refine af (aw (af (af ?_)))
 first | refine af (jr ty (aw (af (pO hit rfl ?_)))) | refine af (lU ty (aw (af (pO hit rfl ?_))))
 have Pf:fL "dict_itemiterator" = true:=by decide
 rw [Pf];show wpAny _ _ (if (fi d == gf)=true then _ else _) _ _ s;rw [if_neg (fun z=>by cases z)];refine af (aw (af (kO EU dd ?_)));rw [if_neg (by simp)];refine af (aw (af (nC EU dd ?_)));rw [if_neg (by simp)];refine aw ?_;dsimp only;rw [if_neg (show ¬ ((i:Int) < 0) from Int.not_lt.mpr (rW i)),eF,mK hi];dsimp only;refine af ?_
 first | refine af (jr ty (aw (?_))) | refine af (lU ty (aw (?_)))
 show wpAny _ _ (setField (.ref it) 2 .none >>= _) _ _ s;refine af (RE hit rfl (by simp) (show wpAny _ _ (newExc (.type "StopIteration") [] >>= _) _ _ _ from af ?_));simp only [newExc,newTuple];refine af (dw (af (m:=BY _ _) (CW (a:=gf) (by first | rfl | (simp only [BY]; rfl)) (dw ?_ (by size_fits)))) (by size_fits));simp only [raiseNew];refine af (wpAny_handled ?_);rw [show A.in1.handled=none from calm];refine af (aw (wpAny_throw ?_));refine af (LX (T:="StopIteration") (b:=true) ⟨_,bh _ rfl,rfl⟩ RG (?_));exact aw (hQ _ (((jW ..).extBut.push _).push _))
end
end L2
namespace L2
open PySem PySem.Spec PyProof.Rows
section
variable {prog:bG} {w:World} {A:du} {E:Value->az->Prop} {s:az}
theorem DL (d:Addr) (ns:(d == dS)=false):MeetsIn prog w (Builtin.«dict.items» ⟨[.ref d],[]⟩) (fun _ R s=>s.TypeIs (.ref d) "dict"/\R (.ok (.ret (.ref s.heap.objs.size))) { s with heap:=s.heap.push { cls:=.type "dict_items",data:=.fields #[.ref d] } }):=by
 refine .of_wp ?_;rintro A R s ⟨ty,h⟩;unfold Builtin.«dict.items» Builtin.Dict.noArgs;refine af (af (y9 ty (show wpAny _ _ (pure d) _ _ s from aw ?_)));show wpAny _ _ (lI d >>= _) _ _ s;unfold lI;rw [if_neg (fun z=>by rw [ns] at z; cases z)];exact af (aw (af (dw (aw ⟨_,rfl,h⟩))))
theorem Gu{v d:Addr}{od:Obj}{es:Array hU}{ep:Nat}{Q:Value->az->Prop}(hv:s.heap.IsItemsView v d)(EU:s.heap.get? d=some od)(dd:od.data=.dict es ep)
  (hQ:Q (.ref s.heap.objs.size) { s with heap:=s.heap.push { cls:=.type "dict_itemiterator",data:=.fields #[.none,.bool false,.ref d,.int 0 0,.int es.size 0,.int ep 0,.none,.none] } }) :
  wpAny (model prog w) A (BX (.ref v)) Q E s:=by
 obtain⟨ov,hov,hcv,hdv⟩:=id hv;refine ph hv.typeIs F.slot_dict_items_iter (dM F.slot_dict_items_iter hv.typeIs F.entry_dict_items_iter ?_ (F.args_dict_items_iter_1 _));unfold Builtin.«dict_items.__iter__» Builtin.Dict_items.dictOf;refine af (aw (af (af (g7 hov hdv (x:=.ref d) rfl (aw (af ?_))))));unfold Builtin.Dict_items.newIterator;refine af (kO EU dd (af (nC EU dd ?_)));have Pf:fL "dict_itemiterator" = true:=by decide
 rw [Pf];dsimp only;rw [if_pos (show true=true from rfl)];refine dw (aw ⟨_,rfl,"dict_itemiterator",_,⟨_,bh _ rfl,rfl⟩,F.slot_dict_itemiterator_next.lookup,?_⟩) ?_
 ·simpa [vG,rz] using hQ
 ·simp only [sizeOk,rz,aY,ar,ai,aB,cH]; lia
end
noncomputable def ab9(a:Addr)(o:Obj)(es:Array hU)(ps:List (V×V)):It :=
 ⟨fun i H=>(∃ u,H a=some (.mC o u))/\i < es.size,fun i H v H'=>∃ T p,v=.ref T/\H T=none/\H'=upd H T (.tup [p.1,p.2])/\ps[i]?=some p,fun i H=>(∃ u,H a=some (.mC o u))/\es.size<=i⟩
theorem Fd{P:bG}{w:World}{K:aq}{elts:List Expr}{kk:Nat}{pos:Pos}(a it:Addr)(o:Obj)(es:Array hU)(ep:Nat)(ps:List (V×V))(dd:o.data=.dict es ep)(hk:∀ i (h:i < es.size),∃ p,ps[i]?=some p/\RelV p.1 es[i].key/\RelV p.2 es[i].val) :
  Turn P w K (.Tuple elts kk pos) (ab9 a o es ps) [it] it (fun i h=>∃ ok ov,pC h it a i es.size ep ok ov) where
 mem:=by simp
 obj:=by
  rintro i h ⟨ok,ov,st⟩ b hb;have e:b=it:=by simpa using hb
  subst e;exact⟨_,st,fun v z=>by cases z⟩
 keep:=by rintro i h h' ⟨ok,ov,st⟩ k; exact⟨ok,ov,k it (by simp) _ st⟩
 item:=by
  intro X hP hw hK hc i pins s σ H E I hf st hg;obtain⟨ok,ov,st⟩:=st;subst hP hw hK;obtain⟨⟨u,hu⟩,hi⟩:=hg;obtain⟨p,hp,r1,r2⟩:=hk i hi;have VG:H s.heap.objs.size=none:=I.cN.fresh (aF _);have XH:it≠s.heap.objs.size:=bc (aP st);refine Jw st (I.cN a _ hu).1 dd hi fun h' ho hT kk=>?_;refine⟨_,rfl,?_⟩;have I1:Inv X pins σ (upd H s.heap.objs.size (.tup [p.1,p.2])) { s with heap:=h',toks:=s.toks } :=
   I.yK (fp:=[it]) hf (fun b o hb q=>kk b o (fun z=>hb (by simp [z])) q) (aF _)
    ⟨by show 2<=bu; decide,[es[i].key,es[i].val],.cons r1 (.cons r2 .nil),⟨_,hT,rfl,_,rfl⟩⟩
  refine N6 (s:={ s with heap:=h' }) ho fun h2 Vz xp=>?_;have f1:∀ b∈[it],oI X pins (upd H s.heap.objs.size (.tup [p.1,p.2])) b:=fun b hb=>(hf b hb).upd (by rw [List.mem_singleton.mp hb]; exact XH);have I2:Inv X pins σ (upd H s.heap.objs.size (.tup [p.1,p.2])) { s with heap:=h2,toks:=s.toks } :=
   Inv.tK (s:={ s with heap:=h',toks:=s.toks }) (t':=s.toks) (fp:=[it]) I1 f1 fun b o hb q=>(xp.2 b (fun z=>hb (by simp [z]))).trans q
  exact⟨.ref s.heap.objs.size,_,I2,rfl,⟨_,p,rfl,VG,rfl,hp⟩,⟨_,_,Vz⟩,fun b hb=>(f1 b hb).1⟩
 done:=by
  intro X hP hw hK hc i pins s σ H E I hf st hg;obtain⟨ok,ov,st⟩:=st;subst hP hw hK;obtain⟨⟨u,hu⟩,hi⟩:=hg;obtain⟨f0,f1,f2,f3,f4,f5⟩:=hf it (by simp);exact MQ (I.ok.hd hc) st (I.cN a _ hu).1 dd hi fun h' eb=>⟨rfl,I.turned (t':=s.toks) (fun b o hb e=>eb b o hb e) f0 f1 f3 f4 f5⟩
 self:=by
  rintro A i s Q E ⟨ok,ov,st⟩ h;have ty:s.TypeIs (.ref it) "dict_itemiterator":=⟨_,st,rfl⟩;refine ph ty jA (dM jA ty mM ?_ (E5 _));show wpAny _ _ (ret (.ref it)) _ _ s;exact aw ⟨_,rfl,"dict_itemiterator",_,ty,F.slot_dict_itemiterator_next.lookup,h⟩
end L2
end
section
namespace K2
open PySem PySem.Spec PyProof.Rows L2
section
variable {X:Cx} {elts:List Expr} {kk:Nat} {Ff apos lC:Pos} {o:Expr} {to:gG}
theorem oJ.item{K:aq}{H:Hp}{kv:List (List Key×V)}{kvs:List (D×D)}(h:oJ K H kv kvs):∀ {i:Nat} {q:D×D},kvs[i]?=some q->∃ p,kv[i]?=some p/\q.1=.tup (p.1.map eZ)/\cK K H p.2 q.2:=by
 induction h using oJ.ind with
 | nil=>intro i q e; simp at e
 | @cons k v d r t rd rs ih =>
  intro i q e;cases i with
  | zero=>simp at e; subst e; exact⟨_,rfl,rfl,rd⟩
  | succ i =>
   obtain⟨p,h1,h2⟩:=ih (i:=i) (q:=q) (by simpa using e);exact⟨p,by simpa using h1,h2⟩
theorem oJ.len{K:aq}{H:Hp}{kv:List (List Key×V)}{kvs:List (D×D)}(h:oJ K H kv kvs):kv.length=kvs.length:=by
 have:=congrArg dh h.keys;simpa using this.symm
theorem IY (ho:gW X o to) (GC:autoParam (xr o "items" X.env (eval o X.env)=eval o X.env) Ar._auto_1) (GA:autoParam ((apos.endLine == lC.line)=true) Ar._auto_1) :
  NY X (.Tuple elts kk Ff) (.Call (.Attribute o "items" apos) [] [] lC) (DS to):=by
 intro E pins s σ H τ G R hE I h;refine wpAny_Call_method0_late GC GA (kj ho hE I h fun x H1 d G1 v s1 I1 m1 r1 jG q1=>?_);cases d with
 | gZ kvs =>
  obtain⟨h1,q1⟩:=q1;obtain⟨t1,t2⟩:=nH pins s1 σ H1 G1 x _ v I1.inv I1.ab r1 jG trivial;have main:∃ (a:Addr) (ob:Obj) (u:HO) (es:Array hU) (ep:Nat) (ps:List (V×V)),x=.ref a/\(a == dS)=false/\H1 a=some (.mC ob u)/\ob.data=.dict es ep/\(∀ i (h:i < es.size),∃ p,ps[i]?=some p/\RelV p.1 es[i].key/\RelV p.2 es[i].val)/\kvs.length=es.size /\
    (∀ (i:Nat) (q:D×D),kvs[i]?=some q->∃ p,ps[i]?=some p/\cK X.K H1 p.1 q.1/\cK X.K H1 p.2 q.2):=by
   cases jG with
   | qC hq rs =>
    rename_i a o kv;cases rs with
    | nil =>
     obtain⟨z,ns,vs,rel,ob,es,ep,ho,ex,dd,hko,hp,nd⟩:=(I1.inv.cN a _ hq).2;have eo:ob=o:=by have:=(I1.inv.cN a _ hq).1; rw [ho] at this; exact bx this
     subst eo;have l1:es.size=vs.length:=by simpa using hp.length
     have l2:([]:List (Key×V)).length=vs.length:=lE rel;have l3:es.size=0:=by rw [l1,<-l2]; rfl
     exact⟨a,ob,_,es,ep,[],rfl,ns,hq,dd,fun i h=>by lia,by rw [l3]; rfl,fun i q e=>by simp at e⟩
    | @cons j _ _ _ _ _ _=>cases j <;> simp [eZ,mH] at h1
   | qB hq rs =>
    rename_i a o kv;obtain⟨z,ns,xs,rel,ob,es,ep,ho,ex,dd,hl,nd⟩:=(I1.inv.cN a _ hq).2;have eo:ob=o:=by have:=(I1.inv.cN a _ hq).1; rw [ho] at this; exact bx this
    subst eo;have l1:=congrArg dh hl;rw [ao,bZ] at l1;have l2:kv.length=xs.length:=lE rel;have l3:=rs.len;refine⟨a,ob,_,es,ep,(kv.zip xs).map fun z=>(V.ref z.2.2.1,z.1.2),rfl,ns,hq,dd,fun i hi=>?_,by lia,fun i q e=>?_⟩
    ·have i2:i < xs.length:=by lia
     have i3:i < kv.length:=by lia
     have ee:es[i]=entryOfKey (rX (cx X.prog X.w)) xs[i]:=by
      have:=congrArg (fun l=>l[i]?) hl;simp only [bz,ax i2] at this;simpa [hi] using this
     refine⟨(V.ref xs[i].2.1,kv[i].2),by rw [bz,ax (by rw [jS]; lia),uW]; rfl,?_⟩;rw [ee];exact⟨rfl,(xG rel i i3 i2).2.2⟩
    ·obtain⟨p,hp,ek,rp⟩:=rs.item e;have i3:i < kv.length:=(List.getElem?_eq_some_iff.mp hp).1;have i2:i < xs.length:=by lia
     have pr:=xG rel i i3 i2;rw [ax i3] at hp;cases hp;refine⟨(V.ref xs[i].2.1,kv[i].2),by rw [bz,ax (by rw [jS]; lia),uW]; rfl,?_,rp⟩;rw [ek];exact .tup pr.2.1 (xD _)
  obtain⟨a,ob,u,es,ep,ps,rfl,hm,hu,dd,hk,hlen,ZU⟩:=main;cases r1;refine⟨"dict","dict.items",fv,kY,Iv,t1,t2,uX rfl (RH ?_)⟩;refine zg kY t1 HK (E3 _) (DL a hm) ⟨t1,?_⟩;have I2:Inv X pins σ H1 { s1 with heap:=s1.heap.push { cls:=.type "dict_items",data:=.fields #[.ref a] } }:=I1.inv.kept (t':=s1.toks) fun b o e=>aE _ e;refine Gu (s:={ s1 with heap:=s1.heap.push { cls:=.type "dict_items",data:=.fields #[.ref a] } }) ⟨_,bh _ rfl,rfl,rfl⟩ (aE _ (I1.inv.cN a _ hu).1) dd ?_;refine⟨_,[_],_,_,H1,G1,kvs.map (fun p=>.tup [p.1,p.2]),_,rfl,I2.kept (t':=s1.toks) fun b o e=>aE _ e,m1,Fd a _ ob es ep ps dd hk,⟨.none,.none,bh _ rfl⟩,fun b hb=>?_,fun i H2 G2 k ab _=>?_,q1⟩
  ·have e:=List.mem_singleton.mp hb;subst e;exact I2.D6 (aF _) (I2.cN.fresh (aF _))
  ·have vA:=k.mC _ _ _ hu;refine⟨fun d hd=>?_,fun hle=>⟨⟨u,vA⟩,by rw [<-hlen]; simpa using hle⟩⟩;rw [bz] at hd;cases P5:kvs[i]? with
   | none=>rw [P5] at hd; cases hd
   | some q =>
    rw [P5] at hd;obtain⟨p,hp,rk,rp⟩:=ZU i q P5;have hi:i < es.size:=by rw [<-hlen]; exact(List.getElem?_eq_some_iff.mp P5).1
    refine⟨⟨⟨u,vA⟩,hi⟩,?_⟩;rintro x H3 ⟨T,p',ex,hT,e3,hy⟩;subst ex e3;rw [hp] at hy;cases hy;have ed:D.tup [q.1,q.2]=d:=by simpa using hd
    subst ed;exact⟨.tup bX (.cons ((rk.mono k).mono (.new hT)) (.cons ((rp.mono k).mono (.new hT)) .nil)),.P8 ab hT⟩
 | _=>exact q1.elim
end
end K2
end
section
namespace K2
open PySem PySem.Spec PyProof.Rows L2
section
variable {X:Cx} {k v k2 v2:Expr} {tk tv tk2 tv2:gG} {pos:Pos}
theorem FR(hk:gW X k tk)(hv:gW X v tv)(hk2:gW X k2 tk2)(YW:gW X v2 tv2):gW X (.Dict [some k,some k2] [v,v2] pos) (Hl tk tv tk2 tv2):=by
 intro E pins s σ H τ G Q hE I h;have hn:=I.inv.cN.fresh (aF s.heap.objs.size);have I1:=I.inv.laid (a:=s.heap.objs.size) (o:=.dK []) (h':=s.heap.push { cls:=.type "dict",data:=.dict #[] }) (t':=s.toks) (fun _ _ q=>aE _ q) (aF _) (AN s.heap I.inv.big);have mh:Mv X.K H G (upd H s.heap.objs.size (.dK [])) G:=.P8 I.ab hn;have I2:I2 X pins σ (upd H s.heap.objs.size (.dK [])) τ G { s with heap:=s.heap.push { cls:=.type "dict",data:=.dict #[] },toks:=s.toks }:=⟨I1,I.st.mono (.new hn),mh.ab⟩;refine wpAny_Dict_walk (knd:=cx X.prog X.w) (by rfl) (by rfl) (by simp) (show 2<=15 by decide) ?_;refine CZ (kj hk hE I2 h fun x H1 dx G1 u s1 I3 m1 r1 jG q1=>?_);refine kj hv hE I3 q1 fun y H2 dy G2 w s2 I4 m2 r2 Bt q2=>?_;refine CZ (kj hk2 hE I4 q2 fun x2 H3 dx2 G3 u2 s3 I5 m3 r3 UY q3=>?_);refine kj YW hE I5 q3 fun y2 H4 dy2 G4 w2 s4 I6 m4 r4 rd4 q4=>?_;obtain⟨⟨hk1,hk3,ne⟩,q4⟩:=q4;refine pairTrees_nil_walk ?_;obtain⟨kk,rfl⟩:=qP hk1;obtain⟨Vk,rfl⟩:=qP hk3;have ex:=qD jG;subst ex;have ex2:=qD UY;subst ex2;have nek:kk≠Vk:=fun z=>by rw [ud] at ne; exact absurd z (of_decide_eq_false ne)
 have g0:G s.heap.objs.size=none:=I.ab.free hn;obtain⟨p1,p2⟩:=m1.keep _ _ (bX (H:=H) (a:=s.heap.objs.size) (o:=.dK [])) g0;obtain⟨p3,p4⟩:=m2.keep _ _ p1 p2;obtain⟨p5,p6⟩:=m3.keep _ _ p3 p4;obtain⟨p7,p8⟩:=m4.keep _ _ p5 p6;have ZX:=(Bt.mono (m3.kp I4.ab)).mono (m4.kp I5.ab);obtain⟨rs,c,rk⟩:=vm (P:=X.prog) (w:=X.w) (kvs:=[(kk,y),(Vk,y2)]) (ws:=[(u,w),(u2,w2)]) (.cons ⟨r1,r2⟩ (.cons ⟨r3,r4⟩ .nil));obtain⟨z,hd,ZJ,r0,dd⟩:=AM I6.inv.cN p7;cases r0;refine⟨rs,c,dd,fun h' LF hs=>?_⟩;have he:∃ q,h'.get? s.heap.objs.size=some q:=by obtain⟨q,_,_,hq,_⟩:=LF; exact⟨q,hq⟩
 have em:zZ [] [(kk,y),(Vk,y2)]=[(kk,y),(Vk,y2)]:=by
  show putK (putK [] kk y) Vk y2=_;unfold putK;simp [nek]
 have kp:Kp H4 (upd H4 s.heap.objs.size (.dK [(kk,y),(Vk,y2)])):=.putD p7 (.inl ⟨_,rfl⟩);have I7:=yW (t':=s4.toks+[(u,w),(u2,w2)].length) I6.inv (by rw [p7]; exact iO) hs he (xP (kvs:=zZ [] [(kk,y),(Vk,y2)]) (by rw [em]; exact(show 2<=bu by decide)) hd (rk.merge .nil) LF);rw [em] at I7;have m14:=(((mh.trans m1).trans m2).trans m3).trans m4;refine⟨.ref s.heap.objs.size,_,.ref s.heap.objs.size,_,I7,?_,rfl,.ref _,q4 _ p8⟩;refine⟨fun a o e n=>?_,fun a n=>?_,fun a g e=>?_⟩
 ·have ha:a≠s.heap.objs.size:=fun z=>by rw [z,hn] at e; cases e
  obtain⟨k1,k2⟩:=m14.keep a o e n;exact⟨by rw [bK ha]; exact k1,by rw [c6 ha]; exact k2⟩
 ·by_cases ha:a=s.heap.objs.size
  ·subst ha; rw [bX]; simp
  ·rw [bK ha]; exact m14.mF a n
 ·by_cases ha:a=s.heap.objs.size
  ·subst ha;rw [aA] at e;cases e;exact .dk bX (.cons (ZX.mono kp) (.cons (rd4.mono kp) .nil))
  ·rw [c6 ha] at e;exact(m14.ab a g e).mono kp (bK ha)
end
end K2
end
section
namespace K2
open PySem PySem.Spec PyProof.Rows L2
noncomputable def eOk(e:hU)(p:Int×Int):Bool:=e.hash == hashInt p.1&&yz p.1 e.key&&yz p.2 e.val
noncomputable def S4:List hU->List (Int×Int)->Bool
 | [],[]=>true
 | e :: es,p :: ps=>eOk e p&&S4 es ps
 | _,_=>false
noncomputable def AP(K:aq)(a:Addr)(kv:List (Int×Int)):Bool:=match K.lookup a with
 | some o=>o.cls == .type "dict" && o.dict == none&&o.slots.toList == []&&(match o.data with | .dict es _=>S4 es.toList kv | _=>false)
 | none=>false
noncomputable def MK(kv:List (Int×Int)):List (Key×V):=kv.map fun p=>(.inl p.1,.int p.2)
theorem isInt_shape{i:Int}{v:Value}(h:yz i v=true):∃ t,v=.int i t:=by
 rcases eT (k:=.inl i) h with ⟨j,t,e,rfl⟩ | ⟨_,_,e,_⟩
 ·cases e; exact⟨t,rfl⟩
 ·cases e
section
variable {P:bG} {w:World}
theorem AK:∀ (es:List hU) (kv:List (Int×Int)),S4 es kv=true->∃ vs,KV (MK kv) vs/\Pairs (cx P w) es vs/\vs.map (·.1)=kv.map (fun p=>(j5 p.1:Key))/\∀ e∈es,∃ k,(cx P w).is k e.key=true/\e.hash=(cx P w).hash k
 | [],[],_=>⟨[],.nil,.nil,rfl,fun e h=>by cases h⟩
 | [],_ :: _,h=>bI (show false=true from h)
 | _ :: _,[],h=>bI (show false=true from h)
 | e :: es,p :: ps,h=>by
  have h:(eOk e p&&S4 es ps)=true:=h;rw [aM] at h;obtain⟨vs,h1,h2,h3,h4⟩:=AK es ps h.2;have he:=h.1;unfold eOk at he;rw [aM,aM] at he;obtain⟨t,ev⟩:=isInt_shape he.2;refine⟨(.inl p.1,e.val) :: vs,.cons ⟨rfl,t,ev⟩ h1,.cons he.1.2 rfl h2,by rw [av,av,h3],fun x hx=>?_⟩;rcases List.mem_cons.mp hx with rfl | hx
  ·exact⟨.inl p.1,he.1.2,beq_iff_eq.mp he.1.1⟩
  ·exact h4 x hx
theorem Qz{K:aq}{a:Addr}{kv:List (Int×Int)}{h:Heap}(Y:K.In h)(e:AP K a kv=true)(nd:(kv.map (·.1)).Nodup):∃ vs,KV (MK kv) vs/\h.DictOf (cx P w) a vs:=by
 unfold AP at e;cases hl:K.lookup a with
 | none=>rw [hl] at e; exact bI (show false=true from e)
 | some o =>
  rw [hl] at e;dsimp only at e;rw [aM,aM,aM] at e;obtain⟨⟨⟨e1,e2⟩,e3⟩,e4⟩:=e;obtain⟨c,dd,dt,⟨sl⟩⟩:=o;have f1:c=.type "dict":=beq_iff_eq.mp e1;have f2:dd=none:=beq_iff_eq.mp e2;have f3:sl=[]:=beq_iff_eq.mp e3;clear e1 e2 e3;subst f1;subst f2;subst f3;cases dt with
  | dict es ep =>
   obtain⟨vs,h1,h2,h3,h4⟩:=AK (P:=P) (w:=w) es.toList kv e4;refine⟨vs,h1,_,es,ep,Y _ _ hl,⟨rfl,rfl,rfl⟩,rfl,?_,h2,?_⟩
   ·intro e he;obtain⟨k,q1,q2⟩:=h4 e (Array.mem_toList_iff.mpr he);exact⟨k,q1,q2⟩
   ·rw [h3];have:kv.map (fun p=>(j5 p.1:Key))=(kv.map (·.1)).map j5:=by rw [bA]; rfl
    rw [this,kh,iP];exact(List.nodup_iff_pairwise_ne.mp nd).imp fun wM e=>wM (Oe e)
  | _=>exact bI (show false=true from e4)
end
end K2
namespace K2
open PySem PySem.Spec PyProof.Rows L2
section
variable {X:Cx} {x:Str} {a:Addr} {kv:List (Int×Int)} {p px pos:Pos}
theorem Qw{K:aq}{H:Hp}:∀ kv:List (Int×Int),mD K H (MK kv) (aR kv)
 | []=>.nil
 | p :: kv=>.cons (k:=.inl p.1) (.int p.2) (Qw kv)
theorem Ms (hg:Gl X "dict") (hm:X.mg "dict" = none) (SV:Gl X x) (Ia:X.mg x=some (.ref a)) (ns:(a == dS)=false) (hD:AP X.K a kv=true) (nd:(kv.map (·.1)).Nodup) (hz:kv.length<=1000) (JC:autoParam ((x == ("__debug__" : Str))=false) Ad._auto_1)
  (hs:autoParam (bR [.Name x px] X.env=[(false,eval (.Name x px) X.env)]) Ar._auto_1):gW X (.Call (.Name "dict" p) [.Name x px] [] pos) (QI kv):=by
 intro E pins s σ H τ G Q hE I h;refine e7 (mG I.inv hg hm uo ?_);refine c8 ?_ hs rfl;rw [hs];show wpAny _ _ (Ik ((false,eval (.Name x px) X.env) :: mJ pos (bR [] X.env))) _ _ s;refine jv ?_;refine wF I.inv SV Ia ?_ JC;refine mS ?_;obtain⟨vs,rel,dd⟩:=Qz (P:=X.prog) (w:=X.w) I.inv.HZ hD nd;have hl:vs.length=kv.length:=by rw [<-rel.length]; unfold MK; rw [ao]
 have sz:bu=16777216:=cH;refine kt_call_dict ns dd (by lia) fun h' LF hs=>?_;have hp:H s.heap.objs.size=none:=I.inv.cN.fresh (aF _);have zz:(MK kv).length<=bu:=by unfold MK; rw [ao]; lia
 refine⟨.ref _,upd H s.heap.objs.size (.dK (MK kv)),.ref _,_,I.inv.laid (a:=s.heap.objs.size) (o:=.dK (MK kv)) (t':=s.toks) (fun b q hq=>?_) (aF _) (xP zz (beq_eq_false_iff_ne.mpr (dW (bc I.inv.big))) rel LF),.new I.ab hp (.dk bX (Qw kv)),rfl,.ref _,h _ (I.ab.free hp)⟩;exact(hs.2 b (bc (aP hq))).trans (aE _ hq)
end
end K2
end
section
namespace K2.Z
open PySem PySem.Spec PyProof.Rows
section
variable {prog:bG} {w:World} {A:du} {E:Value->az->Prop} {s:az}
theorem Bn{M:Model}{a:Addr}{Q:Option Obj->az->Prop}(h:Q (s.heap.get? a) s):wpAny M A (loadIfAlive a) Q E s:=fun _ _ _=>h
noncomputable abbrev EM(h:Heap)(z TI TO T:Addr)(b:Bool):Prop :=
 h.get? z=some { cls:=.type "zip",dict:=none,data:=.fields #[vG T,.bool b,.bool false,.ref TI,.ref TO],slots:=#[] }
theorem Lb{z TI TO T:Addr}{b:Bool}{o:Obj}{Q:Bool->az->Prop}(hz:EM s.heap z TI TO T b)(hT:s.heap.get? T=some o)
  (hQ:∀ h',EM h' z TI TO T true->ip z s.heap h'->Q false { s with heap:=h' }):wpAny (model prog w) A (fR (.ref z)) Q E s:=by
 unfold fR;refine af (g7 hz rfl (x:=vG T) rfl ?_);show wpAny _ _ (loadIfAlive (Int.toNat (T:Int)) >>= _) _ _ _;refine af (Bn ?_);rw [eF,hT];show wpAny _ _ (field (.ref z) 1 >>= _) _ _ _;refine af (g7 hz rfl (x:=.bool b) rfl ?_);cases b with
 | true =>
  show wpAny _ _ (pure false) _ _ _;exact aw (hQ s.heap hz ⟨rfl,fun _ _=>rfl⟩)
 | false =>
  show wpAny _ _ (setField (.ref z) 1 (.bool true) >>= _) _ _ _;exact af (j9 hz (by simp) fun h1 YT hs1=>aw (hQ h1 YT hs1))
theorem Xf{z TI TO T i1 i2 l1 l2:Addr}{b:Bool}{o:Obj}{k1 k2:Nat}{xs ys:Array Value}{x y:Value}{Q:Value->az->Prop}(D:pP z TI TO i1 i2 l1 l2)
  (hz:EM s.heap z TI TO T b) (hT:s.heap.get? T=some o) (VH:xX s.heap TI (.ref i1) (.ref i2))
  (h1:s.heap.IsListIter i1 l1 k1) (h2:s.heap.IsListIter i2 l2 k2) (yD:s.heap.IsList l1 xs) (vA:s.heap.IsList l2 ys) (hx:xs[k1]?=some x) (hy:ys[k2]?=some y)
  (hQ:∀ h',EM h' z TI TO T true->h'.IsListIter i1 l1 (k1+1)->h'.IsListIter i2 l2 (k2+1)->xX h' s.heap.objs.size x y ->
   (∀ c o,c≠z->c≠i1->c≠i2->s.heap.get? c=some o->h'.get? c=some o)->Q (.ref s.heap.objs.size) { s with heap:=h' }) :
  wpAny (model prog w) A (Builtin.«zip.__next__» ⟨[.ref z],[]⟩) (fun fin s'=>∃ v,fin=.done (.ret v)/\Q v s') E s:=by
 show wpAny _ _ (field (.ref z) 2 >>= _) _ _ _;refine af (g7 hz rfl (x:=.bool false) rfl ?_);show wpAny _ _ (field (.ref z) 3 >>= _) _ _ _;refine af (g7 hz rfl (x:=.ref TI) rfl ?_);refine af (jR VH rfl ?_);show wpAny _ _ (fR (.ref z) >>= _) _ _ _;refine af (Lb hz hT fun pH Ua nX=>?_);simp only [aJ,if_false];refine af ?_;rw [<-rC];simp only [HU,List.forIn_nil];refine af (af (cP ?_));show wpAny _ _ (i4 (.ref i1) >>= _) _ _ _;refine af (yx (h1.extBut nX.extBut D.i1z) (yD.extBut nX.extBut D.l1z) hx fun Au Ug sZ=>aw (aw ?_));refine af (af (cP ?_));show wpAny _ _ (i4 (.ref i2) >>= _) _ _ _;refine af (yx ((h2.extBut nX.extBut D.i2z).extBut sZ.extBut D.i12.symm)
  ((vA.extBut nX.extBut D.l2z).extBut sZ.extBut D.l2i1) hy fun Gy X0 Cs=>aw (aw (aw ?_)))
 show wpAny _ _ (newTuple [x,y] >>= _) _ _ _;refine af (RF (aw ⟨_,rfl,?_⟩));have hsz:Gy.objs.size=s.heap.objs.size:=by rw [Cs.1,sZ.1,nX.1]
 show Q (.ref Gy.objs.size) _;have up:∀ c o,Gy.get? c=some o->(Gy.push { cls:=.type "tuple",data:=.seq #[x,y] }).get? c=some o:=fun c o e=>aE _ e;rw [hsz];refine hQ _ (up _ _ (Cs.extBut _ _ D.i2z.symm (sZ.extBut _ _ D.i1z.symm Ua))) ((Ug.extBut Cs.extBut D.i12).at fun o e=>up _ o e) (X0.at fun o e=>up _ o e) ?_ fun c o c1 c2 c3 e=>up c o (Cs.extBut _ _ c3 (sZ.extBut _ _ c2 (nX.extBut _ _ c1 e)));rw [<-hsz];exact bh _ rfl
theorem abO{z TI TO T i1 i2 l1 l2:Addr}{b:Bool}{o:Obj}{k1 k2:Nat}{xs ys:Array Value}{Q:Fin->az->Prop}(hh:A.handled=none)(D:pP z TI TO i1 i2 l1 l2)
  (hz:EM s.heap z TI TO T b) (hT:s.heap.get? T=some o) (VH:xX s.heap TI (.ref i1) (.ref i2))
  (h1:s.heap.IsListIter i1 l1 k1) (h2:s.heap.IsListIter i2 l2 k2) (yD:s.heap.IsList l1 xs) (vA:s.heap.IsList l2 ys) (Vy:xs[k1]?=none\/ys[k2]?=none)
  (hE:∀ h' e,(∀ c o,c≠z->c≠i1->c≠i2->s.heap.get? c=some o->h'.get? c=some o)->(∃ o,h'.get? e=some o/\o.cls=.type "StopIteration")->E (.ref e) { s with heap:=h' }) :
  wpAny (model prog w) A (Builtin.«zip.__next__» ⟨[.ref z],[]⟩) Q E s:=by
 show wpAny _ _ (field (.ref z) 2 >>= _) _ _ _;refine af (g7 hz rfl (x:=.bool false) rfl ?_);show wpAny _ _ (field (.ref z) 3 >>= _) _ _ _;refine af (g7 hz rfl (x:=.ref TI) rfl ?_);refine af (jR VH rfl ?_);show wpAny _ _ (fR (.ref z) >>= _) _ _ _;refine af (Lb hz hT fun pH Ua nX=>?_);simp only [aJ,if_false];refine af ?_;rw [<-rC];simp only [HU,List.forIn_nil];refine af (af (cP ?_));show wpAny _ _ (i4 (.ref i1) >>= _) _ _ _;cases hx:xs[k1]? with
 | none =>
  exact af (wpAny_nextOf_list_end hh (h1.extBut nX.extBut D.i1z) (yD.extBut nX.extBut D.l1z) hx fun Au e sZ he=>hE Au e (fun c o c1 c3 _ x=>sZ _ _ c3 (nX.extBut _ _ c1 x)) he)
 | some x =>
  have hy:ys[k2]?=none:=by rcases Vy with h | h; rw [hx] at h; cases h; exact h
  refine af (yx (h1.extBut nX.extBut D.i1z) (yD.extBut nX.extBut D.l1z) hx fun Au Ug sZ=>aw (aw ?_));refine af (af (cP ?_));show wpAny _ _ (i4 (.ref i2) >>= _) _ _ _;exact af (wpAny_nextOf_list_end hh ((h2.extBut nX.extBut D.i2z).extBut sZ.extBut D.i12.symm)
   ((vA.extBut nX.extBut D.l2z).extBut sZ.extBut D.l2i1) hy fun Gy e Cs he=>hE Gy e (fun c o c1 c3 c4 x=>Cs _ _ c4 (sZ.extBut _ _ c3 (nX.extBut _ _ c1 x))) he)
theorem Ji{z TI TO T i1 i2 l1 l2:Addr}{b:Bool}{o:Obj}{k1 k2:Nat}{xs ys:Array Value}{x y:Value}{Q:Option Value->az->Prop}(D:pP z TI TO i1 i2 l1 l2)
  (hz:EM s.heap z TI TO T b) (hT:s.heap.get? T=some o) (VH:xX s.heap TI (.ref i1) (.ref i2))
  (h1:s.heap.IsListIter i1 l1 k1) (h2:s.heap.IsListIter i2 l2 k2) (yD:s.heap.IsList l1 xs) (vA:s.heap.IsList l2 ys) (hx:xs[k1]?=some x) (hy:ys[k2]?=some y)
  (hQ:∀ h',EM h' z TI TO T true->h'.IsListIter i1 l1 (k1+1)->h'.IsListIter i2 l2 (k2+1)->xX h' s.heap.objs.size x y ->
   (∀ c o,c≠z->c≠i1->c≠i2->s.heap.get? c=some o->h'.get? c=some o)->Q (some (.ref s.heap.objs.size)) { s with heap:=h' }) :
  wpAny (model prog w) A (kS (.ref z)) Q E s:=by
 have SQ:s.TypeIs (.ref z) "zip":=⟨_,hz,rfl⟩;unfold kS;exact af (rJ (fG (name:=oA "__next__") SQ yA
  (dM yA SQ F.entry_zip_next
   (Xf D hz hT VH h1 h2 yD vA hx hy fun h' a1 a2 a3 a4 a5=>aw (hQ h' a1 a2 a3 a4 a5)) (F.args_zip_next_1 _))))
theorem MC{z TI TO T i1 i2 l1 l2:Addr}{b:Bool}{o:Obj}{k1 k2:Nat}{xs ys:Array Value}{Q:Option Value->az->Prop}(hh:A.handled=none)(D:pP z TI TO i1 i2 l1 l2)
  (hz:EM s.heap z TI TO T b) (hT:s.heap.get? T=some o) (VH:xX s.heap TI (.ref i1) (.ref i2))
  (h1:s.heap.IsListIter i1 l1 k1) (h2:s.heap.IsListIter i2 l2 k2) (yD:s.heap.IsList l1 xs) (vA:s.heap.IsList l2 ys) (Vy:xs[k1]?=none\/ys[k2]?=none)
  (hQ:∀ h',(∀ c o,c≠z->c≠i1->c≠i2->s.heap.get? c=some o->h'.get? c=some o)->Q none { s with heap:=h' }):wpAny (model prog w) A (kS (.ref z)) Q E s:=by
 have SQ:s.TypeIs (.ref z) "zip":=⟨_,hz,rfl⟩;unfold kS;refine af (rJ (fG (name:=oA "__next__") SQ yA
  (dM yA SQ F.entry_zip_next (abO hh D hz hT VH h1 h2 yD vA Vy fun h' e hk he=>?_) (F.args_zip_next_1 _))))
 obtain⟨o,ho,hc⟩:=he;refine af (LX (T:="StopIteration") (b:=true) ⟨o,ho,hc⟩ RG ?_);exact aw (hQ _ hk)
end
end K2.Z
end
section
namespace K2.Z
open PySem PySem.Spec PyProof.Rows
theorem xx:typeLookup (.type "zip") "__getattr__" = pure none:=by rw [typeLookup_type,builtinLookup_eq_fast]; kernel_rfl
theorem Bm:typeLookup (.type "zip") "keys" = pure none:=by rw [typeLookup_type,builtinLookup_eq_fast]; kernel_rfl
theorem qU:entryFor table "zip.__getattribute__" = some Builtin.«object.__getattribute__» :=
 entryFor_alias (id':="object.__getattribute__") (by kernel_rfl) (by decide +kernel) (by decide +kernel) (by kernel_rfl)
theorem z0(a:Addr)(xs:Array Value)(u:Tok) :
  Meets (Builtin.«object.__getattribute__» ⟨[.ref a,.str "keys" u],[]⟩) (fun A R s=>s.heap.get? a=some { cls:=.type "zip",dict:=none,data:=.fields xs,slots:=#[] }/\raisesAttr (.ref a) "keys" A R s) :=
 Meets.of_wp fun prog w A R s hs=>by
  obtain⟨hp,g,d,tk,os⟩:=s;obtain⟨hx,hs⟩:=hs;have hT:(⟨hp,g,d,tk,os⟩:az).TypeIs (.ref a) "zip":=⟨_,hx,rfl⟩;have ac0:=Bm;have acY:(["__module__","__name__","__qualname__","__doc__","__annotations__"]:List Str).contains "keys" = false:=by decide +kernel
  unfold Builtin.«object.__getattribute__»
  repeat (any_goals (first | assumption | wp_step))
  exact wpAny_raiseAttrError hs.1 hs.2 (attrMsg_fits (by decide +kernel) (by size_fits))
set_option maxRecDepth 8000 in
theorem FY{prog:bG}{w:World}{A:du}{E:Value->az->Prop}{s:az}{a:Addr}{xs:Array Value}{Q:Option Value->az->Prop}
  (hx:s.heap.get? a=some { cls:=.type "zip",dict:=none,data:=.fields xs,slots:=#[] }) (hA:A.handled=none)
  (h:∀ h' tk,(∀ b ob,s.heap.get? b=some ob->h'.get? b=some ob)->Q none { s with heap:=h',toks:=tk }) :
  wpAny (model prog w) A (getAttr? (.ref a) "keys") Q E s:=by
 obtain⟨hp,g,d,tk,os⟩:=s;have hT:∀ RX,(⟨hp,g,d,RX,os⟩:az).TypeIs (.ref a) "zip":=fun _=>⟨_,hx,rfl⟩;have f1:=sub_AttributeError;have f3:=F.slot_zip_getattribute.lookup;have f4:=F.slot_zip_getattribute.bind (.ref a);have f5:=xx;unfold getAttr? getAttrBy? getAttrBy
 repeat (any_goals (first | assumption | exact hT _ | ((with_reducible show wpAny _ _ (call (Value.builtin "zip.__getattribute__") _ _) _ _ _); refine Iq F.slot_zip_getattribute (hT _) qU (F.args_zip_getattribute_2 _ _) (z0 a xs _) ⟨hx,hA,fun h' RX e hx'=>?_⟩) | wp_step))
 obtain⟨t',u',he⟩:=hx'.there;show wpAny _ _ (getattributeRaised _ _ _ _ _ _ _) _ _ _;unfold getattributeRaised
 repeat (any_goals (first | assumption | wp_step))
 exact h _ _ hx'.keeps
end K2.Z
end
section
namespace K2.Z
open PySem PySem.Spec PyProof.Rows
theorem CI:entryFor table "dict.update.loop" = some Builtin.«dict.update.loop»:=entryFor_of_tree (by kernel_rfl)
theorem tS:plainId "dict.update.loop" = true:=by decide +kernel
section
variable {prog:bG} {w:World} {K:Type} [DecidableEq K] {knd:KeyKind prog w K} {A:du} {E:Value->az->Prop}
structure Zs(d z TI TO i1 i2 l1 l2:Addr)(xs ys:Array Value)(i:Nat)(h:Heap):Prop where
 hI:xX h TI (.ref i1) (.ref i2)
 h1:h.IsListIter i1 l1 i
 h2:h.IsListIter i2 l2 i
 yD:h.IsList l1 xs
 vA:h.IsList l2 ys
 hz:(IsZip h z TI TO .none/\∃ a b,xX h TO a b)\/∃ T b o,EM h z TI TO T b/\h.get? T=some o/\T≠d/\T≠z/\T≠i1/\T≠i2
theorem Zs.keep{d z TI TO i1 i2 l1 l2:Addr}{xs ys:Array Value}{i:Nat}{h h':Heap}(x:Zs d z TI TO i1 i2 l1 l2 xs ys i h)(D:d∉[z,TI,TO,i1,i2,l1,l2])(k:∀ c o,c≠d->h.get? c=some o->h'.get? c=some o):Zs d z TI TO i1 i2 l1 l2 xs ys i h':=by
 simp only [bQ,bL,or_false,not_or] at D;obtain⟨d1,d2,d3,d4,d5,d6,d7⟩:=D;refine⟨k _ _ (dW d2) x.hI,x.h1.at fun o=>k _ o (dW d4),x.h2.at fun o=>k _ o (dW d5),x.yD.at fun o=>k _ o (dW d6),x.vA.at fun o=>k _ o (dW d7),?_⟩;rcases x.hz with ⟨e,a,b,f⟩ | ⟨T,b,o,e,f,g⟩
 ·exact .inl ⟨k _ _ (dW d1) e,a,b,k _ _ (dW d3) f⟩
 ·exact .inr ⟨T,b,o,k _ _ (dW d1) e,k _ _ g.1 f,g⟩
variable {d z TI TO i1 i2 l1 l2:Addr} {xs ys:Array Value}
theorem RR(D:pP z TI TO i1 i2 l1 l2)(Dd:d∉[z,TI,TO,i1,i2,l1,l2]){s:az}{i:Nat}{x y:Value}{Q:Option Value->az->Prop}(hd:∃ o,s.heap.get? d=some o)(hz:Zs d z TI TO i1 i2 l1 l2 xs ys i s.heap)(hx:xs[i]?=some x)(hy:ys[i]?=some y)
  (hQ:∀ h' T,Zs d z TI TO i1 i2 l1 l2 xs ys (i+1) h'->xX h' T x y->(∀ c o,c∉[z,TO,i1,i2]->s.heap.get? c=some o->h'.get? c=some o)->Q (some (.ref T)) { s with heap:=h' }):wpAny (model prog w) A (kS (.ref z)) Q E s:=by
 have nz:s.heap.objs.size≠z:=by rcases hz.hz with ⟨e,_⟩ | ⟨T,b,o,e,_⟩ <;> exact lH (aP e)
 have n1:s.heap.objs.size≠i1:=by obtain⟨o,e,_⟩:=hz.h1; exact lH (aP e)
 have n2:s.heap.objs.size≠i2:=by obtain⟨o,e,_⟩:=hz.h2; exact lH (aP e)
 have nd:s.heap.objs.size≠d:=by obtain⟨o,e⟩:=hd; exact lH (aP e)
 rcases hz.hz with ⟨e,a,b,f⟩ | ⟨T,b,o,e,f,g⟩
 ·refine wpAny_pyNext_zip_item D e hz.hI f hz.h1 hz.h2 hz.yD hz.vA hx hy fun h' a1 a2 a3 a4 a5 _ a7=>hQ h' _ ⟨a7 _ _ D.TIz D.TITO D.TIi1 D.TIi2 hz.hI,a3,a4,hz.yD.at fun o e=>a7 _ o D.l1z D.l1TO D.l1i1 D.l1i2 e,hz.vA.at fun o e=>a7 _ o D.l2z D.l2TO D.l2i1 D.l2i2 e,.inr ⟨_,false,_,a1,a5,nd,nz,n1,n2⟩⟩ a5 fun c o hc e=>?_;simp only [bQ,bL,or_false,not_or] at hc;exact a7 c o hc.1 hc.2.1 hc.2.2.1 hc.2.2.2 e
 ·refine Ji D e f hz.hI hz.h1 hz.h2 hz.yD hz.vA hx hy fun h' a1 a3 a4 a5 a7=>hQ h' _ ⟨a7 _ _ D.TIz D.TIi1 D.TIi2 hz.hI,a3,a4,hz.yD.at fun o e=>a7 _ o D.l1z D.l1i1 D.l1i2 e,hz.vA.at fun o e=>a7 _ o D.l2z D.l2i1 D.l2i2 e,.inr ⟨T,true,o,a1,a7 _ _ g.2.1 g.2.2.1 g.2.2.2 f,g⟩⟩ a5 fun c o hc e=>?_;simp only [bQ,bL,or_false,not_or] at hc;exact a7 c o hc.1 hc.2.2.1 hc.2.2.2 e
theorem Uu(hh:A.handled=none)(D:pP z TI TO i1 i2 l1 l2){s:az}{i:Nat}{Q:Option Value->az->Prop}(hz:Zs d z TI TO i1 i2 l1 l2 xs ys i s.heap)(he:xs[i]?=none\/ys[i]?=none)
  (hQ:∀ h',(∀ c o,c∉[z,TO,i1,i2]->s.heap.get? c=some o->h'.get? c=some o)->Q none { s with heap:=h' }):wpAny (model prog w) A (kS (.ref z)) Q E s:=by
 rcases hz.hz with ⟨e,a,b,f⟩ | ⟨T,b,o,e,f,g⟩
 ·refine wpAny_pyNext_zip_end hh D e hz.hI f hz.h1 hz.h2 hz.yD hz.vA he fun h' a7=>hQ h' fun c o hc e=>?_;simp only [bQ,bL,or_false,not_or] at hc;exact a7 c o hc.1 hc.2.1 hc.2.2.1 hc.2.2.2 e
 ·refine MC hh D e f hz.hI hz.h1 hz.h2 hz.yD hz.vA he fun h' a7=>hQ h' fun c o hc e=>?_;simp only [bQ,bL,or_false,not_or] at hc;exact a7 c o hc.1 hc.2.2.1 hc.2.2.2 e
noncomputable def Se(kvs:List (K×Value))(P:List (K×Value)):List (K×Value):=P.foldl (fun l p=>Kt l p.1 p.2) kvs
theorem II(kvs:List (K×Value))(k:K)(v:Value):(Kt kvs k v).length<=kvs.length+1:=by
 unfold Kt; split
 ·rw [ao]; exact zi _
 ·rw [ar]; exact aF _
theorem DictOf.there{h:Heap}{a:Addr}{kvs:List (K×Value)}(x:h.DictOf knd a kvs):∃ o,h.get? a=some o:=by obtain⟨o,_,_,e,_⟩:=x; exact⟨o,e⟩
theorem DictOf.kept{h h':Heap}{a:Addr}{kvs:List (K×Value)}(x:h.DictOf knd a kvs)(k:∀ o,h.get? a=some o->h'.get? a=some o):h'.DictOf knd a kvs:=by
 obtain⟨o,es,ep,e,r⟩:=x;exact⟨o,es,ep,k _ e,r⟩
theorem Qu(hh:A.in1.handled=none)(D:pP z TI TO i1 i2 l1 l2)(Dd:d∉[z,TI,TO,i1,i2,l1,l2]){R:Result->az->Prop}:∀ (P:List (K×Value)) (i:Nat) (s:az) (kvs:List (K×Value)),
  (∀ j p,P[j]?=some p->∃ x,xs[i+j]?=some x/\knd.is p.1 x=true/\ys[i+j]?=some p.2)->(xs[i+P.length]?=none\/ys[i+P.length]?=none)->kvs.length+P.length<=bu ->
  Zs d z TI TO i1 i2 l1 l2 xs ys i s.heap->s.heap.DictOf knd d kvs ->
  (∀ h' tk,h'.DictOf knd d (Se kvs P)->(∀ c o,c∉[d,z,TO,i1,i2]->s.heap.get? c=some o->h'.get? c=some o)->R (.ok (.ret .none)) { s with heap:=h',toks:=tk }) ->
  sd (model prog w) A (.builtin "dict.update.loop" ⟨[.ref d,.ref z,vG i,.none],[]⟩) R s
 | [],i,s,kvs,hP,hE,hz,st,hd,hR=>by
  refine fH CI ?_;rw [dH tS _];show wpAny _ A.in1 (kS (.ref z) >>= _) _ _ s;have Rh:=Dd;simp only [bQ,bL,or_false,not_or] at Rh;refine af (Uu hh D st hE fun h' k=>?_);show wpAny _ A.in1 (Builtin.Dict.addKeywords d [] >>= _) _ _ _;refine af (aw (aw (hR h' s.toks (DictOf.kept hd fun o e=>k _ _ (by simp only [bQ,bL,or_false,not_or]; exact⟨Rh.1,Rh.2.2.1,Rh.2.2.2.1,Rh.2.2.2.2.1⟩) e) fun c o hc e=>k c o (fun q=>hc (aK _ q)) e)))
 | p :: P,i,s,kvs,hP,hE,hz,st,hd,hR=>by
  obtain⟨x,hx,hk,hy⟩:=hP 0 p rfl;have Rh:=Dd;simp only [bQ,bL,or_false,not_or] at Rh;refine fH CI ?_;rw [dH tS _];show wpAny _ A.in1 (kS (.ref z) >>= _) _ _ s;refine af (RR D Dd (DictOf.there hd) st hx hy fun h' T Bq hT k=>?_);show wpAny _ A.in1 (Io [.ref T] _ >>= _) _ _ _;have DY:h'.DictOf knd d kvs:=DictOf.kept hd fun o e=>k _ _ (by simp only [bQ,bL,or_false,not_or]; exact⟨Rh.1,Rh.2.2.1,Rh.2.2.2.1,Rh.2.2.2.2.1⟩) e;refine af (cP (af (uU ?_)));unfold Builtin.Dict.pairItems;refine af (Kr (T:="tuple") ⟨_,hT,rfl⟩ ?_);rw [if_pos (by decide)];refine af (jR hT rfl (aw ?_));show wpAny _ A.in1 (Io [x,p.2] (dictSet d x p.2)) _ _ _;refine cP (wpAny_dictSet_pairs (s:={ s with heap:=h' }) hk DY (fun h2 hd2 xp=>?_) (by rw [ai] at hz; lia));refine aw ⟨iF tS _,?_⟩;show sd (model prog w) A (.builtin "dict.update.loop" ⟨[.ref d,.ref z,vG (i+1:Nat),.none],[]⟩) R _;refine Qu hh D Dd P (i+1) _ (Kt kvs p.1 p.2) (fun j q hj=>?_) ?_ ?_ (Bq.keep Dd fun c o hc e=>(xp.2 c hc).trans e) hd2 fun h3 tk hd3 k3=>?_
  ·have:=hP (j+1) q hj;rw [show i+1+j=i+(j+1) by lia]; exact this
  ·rw [show i+1+P.length=i+(p :: P).length by rw [ai]; lia]; exact hE
  ·have:=II kvs p.1 p.2;rw [ai] at hz; lia
  ·refine hR h3 tk hd3 fun c o hc e=>k3 c o hc ?_;have xq:=hc;simp only [bQ,not_or] at xq;exact(xp.2 c xq.1).trans (k c o (fun q=>hc (aK _ q)) e)
end
end K2.Z
end
section
namespace K2.Z
open PySem PySem.Spec PyProof.Rows
section
variable {prog:bG} {w:World} {K:Type} [DecidableEq K] {knd:KeyKind prog w K} {A:du} {E:Value->az->Prop} {s:az}
theorem BP{z TI TO i1 i2 l1 l2:Addr}{xs ys:Array Value}{P:List (K×Value)}{Q:Value->az->Prop}(hh:A.handled=none)(D:pP z TI TO i1 i2 l1 l2)
  (hz:IsZip s.heap z TI TO .none) (hI:xX s.heap TI (.ref i1) (.ref i2)) (hO:xX s.heap TO .none .none) (h1:s.heap.IsListIter i1 l1 0) (h2:s.heap.IsListIter i2 l2 0) (yD:s.heap.IsList l1 xs) (vA:s.heap.IsList l2 ys)
  (hP:∀ (j:Nat) (p:K×Value),P[j]?=some p->∃ x,xs[j]?=some x/\knd.is p.1 x=true/\ys[j]?=some p.2) (hE:xs[P.length]?=none\/ys[P.length]?=none) (hsz:P.length<=bu)
  (h:∀ h' tk,h'.DictOf knd s.heap.objs.size (Se [] P)->(∀ c o,c∉[z,TO,i1,i2]->s.heap.get? c=some o->h'.get? c=some o)->Q (.ref s.heap.objs.size) { s with heap:=h',toks:=tk }) :
  wpAny (model prog w) A (call (.type "dict") [.ref z]) Q E s:=by
 refine callType_codes (Q₁:=fun obj fM=>obj=.ref s.heap.objs.size/\fM={ s with heap:=s.heap.push { cls:=.type "dict",data:=.dict #[] } }) F.kt_called_dict (F.kt_typeCall_dict_1 _) F.entry_dict_init (kt_code_dict_new _ ⟨rfl,rfl⟩) ?_;rintro obj fM ⟨rfl,rfl⟩;have Bw:(s.heap.push { cls:=.type "dict",data:=.dict #[] }).DictOf knd s.heap.objs.size []:=Ol s.heap;refine⟨Bw.typeIs,F.args_dict_init_2 _ _,?_⟩;have up:∀ c o,s.heap.get? c=some o->(s.heap.push { cls:=.type "dict",data:=.dict #[] }).get? c=some o:=fun c o e=>aE _ e;unfold Builtin.«dict.__init__»;refine af ?_;unfold Builtin.Dict.selfAndRest;refine af (y9 Bw.typeIs ?_);show wpAny _ _ (pure (s.heap.objs.size,[fi z])) _ _ _;refine aw ?_;show wpAny _ _ (B1 "dict.__init__" s.heap.objs.size (.ref z) [] .none) _ _ _;unfold B1;refine af (Kr (T:="zip") ⟨_,up _ _ hz,rfl⟩ ?_);rw [if_pos (by decide)];refine af (FY (up _ _ hz) (by simp [hh]) fun pH tk k1=>?_);show wpAny _ _ (rule _ >>= _) _ _ _;refine af (wpAny_rule ?_);have ku:∀ c o,s.heap.get? c=some o->pH.get? c=some o:=fun c o e=>k1 _ _ (up _ _ e);refine af (LW (s:=⟨pH,s.gens,s.drawn,tk,s.os⟩) (ku _ _ hz) ?_);refine aw ⟨iF tS _,?_⟩;have lt:∀ c,(∃ o,s.heap.get? c=some o)->s.heap.objs.size≠c:=fun c ⟨o,e⟩=>lH (aP e);have Dd:s.heap.objs.size∉[z,TI,TO,i1,i2,l1,l2]:=by
  simp only [bQ,bL,or_false,not_or];refine⟨lt _ ⟨_,hz⟩,lt _ ⟨_,hI⟩,lt _ ⟨_,hO⟩,lt _ ?_,lt _ ?_,lt _ ?_,lt _ ?_⟩
  ·obtain⟨o,e,_⟩:=h1; exact⟨o,e⟩
  ·obtain⟨o,e,_⟩:=h2; exact⟨o,e⟩
  ·obtain⟨o,e,_⟩:=yD; exact⟨o,e⟩
  ·obtain⟨o,e,_⟩:=vA; exact⟨o,e⟩
 refine Qu (i:=0) (knd:=knd) (by simp [hh]) D Dd P _ [] (fun j p hj=>by rw [oB]; exact hP j p hj) (by rw [oB]; exact hE) (by rw [aB,oB]; exact hsz) (xs:=xs) (ys:=ys)
  ⟨ku _ _ hI,h1.at fun o=>ku _ o,h2.at fun o=>ku _ o,yD.at fun o=>ku _ o,vA.at fun o=>ku _ o,.inl ⟨ku _ _ hz,_,_,ku _ _ hO⟩⟩ (DictOf.kept Bw fun o e=>k1 _ _ e) fun h' RX DY k'=>⟨rfl,h h' RX DY fun c o hc e=>k' c o (fun q=>?_) (ku _ _ e)⟩
 rcases List.mem_cons.mp q with q | q
 ·exact lt c ⟨o,e⟩ q.symm
 ·exact hc q
end
end K2.Z
end
section
namespace K2
open PySem PySem.Spec PyProof.Rows L2
theorem PG:∀ (ks vs:List Int) (bM:List Value),Vals (vs.map V.int) bM->KV (MK (ks.zip vs)) ((ks.zip bM).map fun p=>((j5 p.1:Key),p.2))
 | [],_,_,_=>.nil
 | _ :: _,[],_,.nil=>.nil
 | k :: ks,v :: vs,_,.cons h r=>.cons ⟨rfl,h⟩ (PG ks vs _ r)
theorem K3:∀ (P acc:List (Key×Value)),((acc++P).map (·.1)).Nodup->Z.Se acc P=acc++P
 | [],acc,_=>by rw [cX]; rfl
 | p :: P,acc,h=>by
  have e:Kt acc p.1 p.2=acc++[p]:=by
   unfold Kt;rw [if_neg];intro z;obtain⟨q,hq,e⟩:=List.any_eq_true.mp z;have e:q.1=p.1:=of_decide_eq_true e;rw [aT,cE] at h;exact h.2.2 _ (bg hq) _ (by rw [av]; exact bJ) e
  show Z.Se (Kt acc p.1 p.2) P=_;rw [e,K3 P (acc++[p]) (by rw [cf]; exact h),cf];rfl
theorem Uv{n l1 l2:Nat}(h1:l1 < n)(h2:l2 < n):pP (n+4) (n+2) (n+3) n (n+1) l1 l2:=by
 constructor <;> (intro z; replace z:@Eq Nat _ _:=z; lia)
section
variable {X:Cx} {a b:Expr} {ta tb:gG} {pos p xE p2:Pos}
theorem FQ (hc:X.calm=true) (hg:Gl X "dict") (hm:X.mg "dict" = none) (SV:Gl X "zip") (Ia:X.mg "zip" = none) (ha:gW X a ta) (hb:gW X b tb) (hs:autoParam (bR [a,b] X.env=[(false,eval a X.env),(false,eval b X.env)]) Ar._auto_1) (xp:autoParam (bR [b] X.env=[(false,eval b X.env)]) Ar._auto_1)
  (Xw:autoParam (bR [.Call (.Name "zip" p2) [a,b] [] xE] X.env=[(false,eval (.Call (.Name "zip" p2) [a,b] [] xE) X.env)]) Ar._auto_1) :
  gW X (.Call (.Name "dict" p) [.Call (.Name "zip" p2) [a,b] [] xE] [] pos) (QH ta tb):=by
 intro E pins s σ H τ G Q hE I h;have hA:Hx X [a,b] (ay ta (ay tb aX)):=ak ha (ak hb aI xp) (by rw [hs,xp]);refine e7 (mG I.inv hg hm uo ?_);refine c8 ?_ Xw rfl;rw [Xw];show wpAny _ _ (Ik ((false,eval (.Call (.Name "zip" p2) [a,b] [] xE) X.env) :: mJ pos (bR [] X.env))) _ _ s;refine jv (e7 (mG I.inv SV Ia QU (c8 (zo hA xE hE I (R:=W6 fun x y G2=>∃ ks vs:List Int,ma x G2=some (ks.map D.int)/\ma y G2=some (vs.map D.int)/\(ks.Nodup/\ks.length=vs.length/\ks.length<=1000)/\gx G2 (.dI (aR (ks.zip vs))) Q) h fun vs H1 ds G1 us s1 I1 m1 r1 jG q1=>?_) (by rw [hs,xp]) (by rw [xp]; rfl))))
 match ds,q1 with
 | [x,y],q1 =>
  obtain⟨ks,ws,e1,e2,⟨nd,hl,X1⟩,q⟩:=q1;obtain⟨w1,w2,rfl,Dl,UU⟩:=jG.two;obtain⟨u1,u2,rfl,R5,R4⟩:=vals2 r1;obtain⟨l1,v1,Jv,rfl,R1,YE,hL1,YT⟩:=je I1.inv I1.ab R5 Dl e1;obtain⟨l2,v2,mY,rfl,HY,B9,hL2,Wm⟩:=je I1.inv I1.ab R4 UU e2;have ev1:=YE.ints;have ev2:=B9.ints;subst ev1 ev2;have YO:Jv.length=ks.length:=by rw [<-R1.length,ao]
  have Gn:mY.length=ks.length:=by rw [<-HY.length,ao,hl]
  have lt1:l1 < s1.heap.objs.size:=by obtain⟨o,e,_⟩:=hL1; exact aP e
  have lt2:l2 < s1.heap.objs.size:=by obtain⟨o,e,_⟩:=hL2; exact aP e
  refine call_zip_2 hL1 hL2 fun h' z1 z2 z3 z4 z5 z6 z7=>?_;refine mS ?_;have Dz:pP (s1.heap.objs.size+4) (s1.heap.objs.size+2) (s1.heap.objs.size+3) s1.heap.objs.size (s1.heap.objs.size+1) l1 l2:=Uv lt1 lt2;have sz:bu=16777216:=cH;have lP:((ks.zip mY).map fun p=>((j5 p.1:Key),p.2)).length=ks.length:=by rw [ao,jS,Gn,Nat.min_self]
  refine Z.BP (s:={ s1 with heap:=h' }) (knd:=cx X.prog X.w) (P:=(ks.zip mY).map fun p=>((j5 p.1:Key),p.2)) (I1.inv.ok.hd hc) Dz z1 z2 z3 z4 z5 (hL1.at fun o=>z7 _ o) (hL2.at fun o=>z7 _ o) (fun j p hj=>?_) (.inl ?_) (by rw [lP,sz]; lia) fun h2 tk dd k2=>?_
  ·have Wr:j < ks.length:=by rw [<-lP]; exact(List.getElem?_eq_some_iff.mp hj).1
   rw [bz,ax (by rw [jS,Gn,Nat.min_self]; exact Wr),uW] at hj;have ep:p=(j5 ks[j],mY[j]):=(bx hj).symm;subst ep;obtain⟨u,hu,ru⟩:=R1.get (i:=j) (show (ks.map V.int)[j]?=some (V.int ks[j]) by rw [bz,ax Wr]; rfl);refine⟨u,by rw [jT]; exact hu,?_,by rw [jT,ax]⟩;obtain⟨t,e⟩:=(show ∃ t,u=dZ ks[j] t from ru);subst e;exact yj _ _ _ t
  ·rw [lP,jT,jU (by lia)]
  ·have dd:h2.DictOf (cx X.prog X.w) (s1.heap.objs.size+5) ((ks.zip mY).map fun p=>((j5 p.1:Key),p.2)):=by
    rw [<-z6];have e:=K3 ((ks.zip mY).map fun p=>((j5 p.1:Key),p.2)) [] (by
     rw [aO,bA];have:(((·.1):Key×Value->Key)∘fun p:Int×Value=>((j5 p.1:Key),p.2))=j5∘(·.1):=rfl;rw [this,<-bA,List.map_fst_zip (by lia),kh,iP];exact(List.nodup_iff_pairwise_ne.mp nd).imp fun wM e=>wM (Oe e))
    rw [e] at dd;exact dd
   have hp:H1 (s1.heap.objs.size+5)=none:=I1.inv.cN.fresh (gB _ _);have kz:(MK (ks.zip ws)).length<=bu:=by unfold MK; rw [ao,jS,sz]; lia
   show tH _ _ _ _ _ _ (.ref h'.objs.size) _;rw [z6];refine tH.trans m1 ⟨.ref _,upd H1 (s1.heap.objs.size+5) (.dK (MK (ks.zip ws))),.ref _,_,I1.inv.laid (a:=s1.heap.objs.size+5) (o:=.dK (MK (ks.zip ws))) (t':=tk) (fun b q hq=>k2 b q (fun z=>?_) (z7 _ _ hq)) (gB _ _) (xP kz (beq_eq_false_iff_ne.mpr fun z=>?_) (PG ks ws mY HY) dd),.new I1.ab hp (.dk bX (Qw (ks.zip ws))),rfl,.ref _,q _ (I1.ab.free hp)⟩
   ·have lb:b < s1.heap.objs.size:=aP hq;simp only [bQ,bL,or_false] at z;rcases z with z | z | z | z
    ·exact absurd z (bc (vt 4 lb))
    ·exact absurd z (bc (vt 3 lb))
    ·exact absurd z (bc lb)
    ·exact absurd z (bc (vt 1 lb))
   ·exact absurd z.symm (bc (vt 5 I1.inv.big))
 | [],q1=>exact q1.elim
 | [_],q1=>exact q1.elim
 | _ :: _ :: _ :: _,q1=>exact q1.elim
end
section
variable {X:Cx} {x:Str} {a:Addr} {kv:List (Int×Int)} {b:Expr} {tb:gG} {px pos:Pos}
theorem Sk (hu:X.A.units+64 < cLine) (SV:Gl X x) (Ia:X.mg x=some (.ref a)) (ns:(a == dS)=false) (hD:AP X.K a kv=true) (nd:(kv.map (·.1)).Nodup) (hb:gW X b tb) (hmk:E1 .Eq b=false) (JC:autoParam ((x == ("__debug__" : Str))=false) Ad._auto_1):gW X (.Compare (.Name x px) [.Eq] [b] pos) (VR kv tb):=by
 intro E pins s σ H τ G Q hE I h;refine wpAny_Compare1 (wF I.inv SV Ia ?_ JC) hmk;refine kj hb hE I h fun y H1 dy G1 u s1 I1 m1 r1 jG q1=>?_;obtain⟨m,e2,q⟩:=q1;obtain⟨vs,rel,dd⟩:=Qz (P:=X.prog) (w:=X.w) I1.inv.HZ hD nd;obtain⟨c,kw,ws,rfl,B9,z2,hm3,Fx,CK⟩:=vi I1.inv I1.ab jG e2 (kd m);cases r1;rw [qi B9] at Fx;obtain⟨ts,t1,rfl⟩:=qO rel;obtain⟨us,t2,rfl⟩:=qO Fx;refine PySem.W.keq_eq ns hm3 dd CK (by lia) (fun _=>t8 t2 t1) ?_;refine⟨.bl _,H1,.bl _,G1,I1.inv,m1,rfl,.bl _,?_⟩;have:((((kv.zip ts).map fun q=>((.inl q.1.1:Key),dZ q.1.2 q.2)).length == ((m.zip us).map fun q=>((.inl q.1.1:Key),dZ q.1.2 q.2)).length)&&kv.all fun p=>cB m p.1 == some p.2)=rS kv m:=by
  unfold rS; simp [t1,t2]
 rw [this]; exact q
end
end K2
end
section
namespace K2
open PySem PySem.W PySem.Spec PyProof.Rows PySem.Calls
theorem MH{p q:bG}{loose:List Str}{Xt:az->Bool}{α:Type}{Yf:az->α}{Ya:World->α}{N:Nat}(e:opening p=plainProg p.main.scope.names)(hN:Nat.ble 600 N=true)(f:∀ s,fenceModules? p s=some s)
  (h:∀ (w:World) (os:OsState),(topFrom treeTable p w N ⟨Oc w.params,L1 [],Ir,Ob,os⟩).map (fun s=>(openSeen q loose (ze p.main.body) Xt true s,Yf s))=some (openGood q loose,Ya w)):LeftO p q loose Xt Yf Ya N:=fun w=>by
 obtain⟨⟨h',gs,d,k,os⟩,e1,e2⟩:=Option.map_eq_some_iff.mp (boot_open e hN f w);obtain⟨rfl,rfl,rfl,rfl⟩:h'=Oc w.params/\gs=L1 []/\d=Ir/\k=Ob:=by simpa using e2
 unfold openEnds;rw [e1];exact h w os
noncomputable abbrev KJ(l:OpenLaw)(q:bG):Bool:=chainsOk q&&opensWell l.row.prog&&(frees l.row.toRowW&&l.row.within.isEmpty)
noncomputable abbrev Uz(l:OpenLaw)(q:bG)(s:az):Bool:=xlAt q [] s&&recOk l.row.records s
theorem MZ{l:OpenLaw}{q:bG}{loose:List Str}{K:Params->Frag}{as:List Addr}{d:DefRec}{N:Nat}(ok:l.wellSaid=true)(e:opening l.row.prog=plainProg l.row.prog.main.scope.names)(hN:Nat.ble 600 N=true)(f:∀ s,fenceModules? l.row.prog s=some s)(hK:∀ P,as=(K P).map (·.1))
  (h:∀ (w:World) (os:OsState),(topFrom treeTable l.row.prog w N ⟨Oc w.params,L1 [],Ir,Ob,os⟩).map (fun s=>(openSeen q loose (ze l.row.prog.main.body) (Uz l q) true s,as.map s.heap.get?))=some (openGood q loose,(K w.params).map fun p=>some p.2))
  (hd:defOf q l.row.name=some (d,[])) (hp:l.row.prog.theDef l.row.name=some (d.params,d.body,d.scope)) (hk:kwWritten? d.params.kwonlyargs d.params.kw_defaults=some []) (hr:(!l.row.writes||l.row.records.isEmpty)=true) (ht:KJ l q=true) (hb:l.row.prog.bare) (hw:l.row.toRowW.promised)
  (c:WalkO q loose (XL q []) (InK K) l.row.toRowW d [] fun f vs=>Kv f vs):l.Holds :=
 holds_law ok fun k1=>holds_open (MH (Yf:=Hook.obs (kHook K as hK)) (Ya:=Hook.val (kHook K as hK)) e hN f h) (Hook.of (kHook K as hK)) (Hook.keeps (kHook K as hK)) (fun s x=>xl_of s (Bool.and_eq_true_iff.mp x).1) XL.keeps hd hp hk (fun s x=>recFacts_of (Bool.and_eq_true_iff.mp x).2) hr k1 ht hb hw c
structure At(K:Frag)(x:Str)(st:Stmt)(f:Addr)(fd:aH):Prop where
 a:nsIn K bP x=some (some (.ref f))
 F:L2.nB K x x st f fd
theorem At.mg{K:Frag}{h:Heap}{mg:Str->Option Value}{x:Str}{st:Stmt}{f:Addr}{fd:aH}(z:At K x st f fd)(X:K.In h)(G:h.Ns bP mg):mg x=some (.ref f):=mg_of X G z.a
theorem ff{K:Frag}{x:Str}{st:Stmt}{f:Addr}{oc:Value}{od an:Option Addr}{Pg:Array (Option Value)}{kV doc pm qk ct:Value}(a:autoParam (nsIn K bP x=some (some (.ref f))) Aq._auto_1)(l:autoParam (K.lookup f=some ⟨oc,od,.func (fnOf x x (L2.oZ st) (L2.kJ st) (L2.a0 st) .none kV doc pm an qk ct),Pg⟩) Aq._auto_1)
  (c:autoParam (codeIn K qk x=true) Aq._auto_1) (k:autoParam (keepIn K (.ref f)=true) Aq._auto_1):At K x st f (fnOf x x (L2.oZ st) (L2.kJ st) (L2.a0 st) .none kV doc pm an qk ct):=⟨a,L2.VL l c k⟩
structure oK(P:bG)(w:World)(K:Frag)(mg:Str->Option Value)(base:Heap)(CX:L2.NC)(k:Nat)(f:Addr)(fd:aH)(x:Str)(ps:List Str)(sp:L2.Sp):Prop where
 ok:L2.fK P w K mg base CX k f fd ps sp
 mg:mg x=some (.ref f)
 kp:keepIn K (.ref f)=true
 bi:L2.Binds K fd ps []
end K2
end
section
namespace K2
open PySem (Str)
open Enc (enc)
theorem kH{α:Type} [DecidableEq α] [Enc α]{G G1:Gp}{p:Nat}{xs:List α}{Q:DK}(l:eY G G1)(hp:G p=none)(h1:G1 p=some (.lst (xs.map enc)))(q:Q (enc xs) G):Rf G1 (.ref p) Q :=
 qR l hp h1 (EY.same _) q
theorem cu{α:Type}{f:α->D}{g:BQ}{body:ie}{ok:Gp->Prop}{xs:List α}{E:mO}{K:mP}{τ:iX}{G:Gp}(I:List α->iX->Gp->Prop)
  (h0:I [] τ G) (cN:∀ pre τ G,I pre τ G->ok G)
  (step:∀ (pre:List α) (x:α) (post:List α) τ G (N:iX->Gp->Prop),xs=pre++x :: post->I pre τ G->(∀ xw G2,I (pre++[x]) xw G2->N xw G2) ->
   g E (f x) τ G fun qv G1=>body E { K with nx:=N,ct:=N,bk:=K.nx } qv G1)
  (fin:∀ τ G,I xs τ G->K.nx τ G):uR g body ok (xs.map f) E K τ G:=by
 have main:∀ (post pre:List α) τ G,xs=pre++post->I pre τ G->uR g body ok (post.map f) E K τ G:=by
  intro post;induction post with
  | nil =>
   intro pre τ G e h;rw [cX] at e;subst e;exact⟨cN _ _ _ h,fin _ _ h⟩
  | cons d post ih =>
   intro pre τ G e h;refine⟨cN _ _ _ h,?_⟩;exact step pre d post τ G _ e h fun xw G2 h2=>ih (pre++[d]) xw G2 (by rw [e,cf]; rfl) h2
 exact main xs [] τ G rfl h0
theorem kK{α:Type}{f:α->D}{g:BQ}{c:Option yv}{e:gG}{ok:Gp->Prop}{xs:List α}{E:mO}{τ:iX}{G:Gp}{Q:List D->Gp->Prop}(I:List α->List D->iX->Gp->Prop)
  (h0:I [] [] τ G) (cN:∀ pre acc τ G,I pre acc τ G->ok G)
  (step:∀ (pre:List α) (x:α) (post:List α) (acc:List D) τ G (N:iX->List D->Gp->Prop),xs=pre++x :: post->I pre acc τ G->(∀ xw xV G2,I (pre++[x]) xV xw G2->N xw xV G2) ->
   g E (f x) τ G fun qv G1=>match c with
    | none=>e E qv G1 fun x G2=>N qv (acc++[x]) G2
    | some c=>c E qv G1 fun k G2=>if k=true then e E qv G2 fun x G3=>N qv (acc++[x]) G3 else N qv acc G2)
  (fin:∀ acc τ G,I xs acc τ G->Q acc G):jE g c e ok (xs.map f) E τ G [] Q:=by
 have main:∀ (post pre:List α) (acc:List D) τ G,xs=pre++post->I pre acc τ G->jE g c e ok (post.map f) E τ G acc Q:=by
  intro post;induction post with
  | nil =>
   intro pre acc τ G e h;rw [cX] at e;subst e;exact⟨cN _ _ _ _ h,fin _ _ _ h⟩
  | cons d post ih =>
   intro pre acc τ G e' h;refine⟨cN _ _ _ _ h,?_⟩;have:=step pre d post acc τ G (fun xw xV G2=>jE g c e ok (post.map f) E xw G2 xV Q) e' h fun xw xV G2 h2=>ih (pre++[d]) xV xw G2 (by rw [e',cf]; rfl) h2;cases c with
   | none=>exact this
   | some c=>exact this
 exact main xs [] [] τ G rfl h0
theorem jq{α:Type} [DecidableEq α] [Enc α]{xs:List α}{G:Gp}{R:List D->(Gp->Prop)->Gp->Prop}(h:R (xs.map enc) (fun _=>True) G):T9 (enc xs) G R:=h
theorem Gx{α:Type} [DecidableEq α] [Enc α]{xs:List α}{G:Gp}{R:List D->(Gp->Prop)->Gp->Prop}(h:R (og 0 (xs.map enc)) (fun _=>True) G):wL (enc xs) G R:=h
theorem ET{n:Nat}(h:n<=1000):n<=SZ:=by unfold SZ; lia
theorem RY{n:Nat}(h:n<=1000):n < SZ:=by unfold SZ; lia
noncomputable abbrev Rows:=List (List T3)
noncomputable def T3.s(p:T3):T2:=⟨p.a,p.b⟩
structure Dr(rows:Rows):Prop where
 nd:(rows.flatten.map T3.s).Nodup
 way:∀ p∈rows.flatten,p.b=0\/p.b=1
 hand:∀ p∈rows.flatten,p.c=1\/p.c=-1
 Px:∀ p∈rows.flatten,(⟨p.a,1 - p.b,p.c⟩:T3)∈rows.flatten
 oG:rows.flatten.length<=24
 str:rows.length<=3
namespace P
noncomputable def hV:kN:=UP (fun rows:Rows=>rows.flatten.length<=1000) fun rows=>rows.flatten
noncomputable def sM:ie :=
 (bO (bq (gF aX) (aC 1))
 (bO (cO (kR (au 0)) (aC 2) (jQ (vB C8 t4 (au 1) (ay (au 2) aX))))
 (cy (cZ (au 1)))))
theorem A6(ds:List D)(G:Gp)(Q:DK)(h:hV ds G Q fun _ _=>False):sM (fun _ _=>False) (ends Q) (bb 3 ds) G:=by
 obtain⟨rows,rfl,hl,q⟩:=h;unfold sM;simp only [ends,bb,av,aQ,ai,aB,aU,aL,aO,cM,bq,gF,aX,aC,aj,ah];refine⟨by decide,fun p hp=>?_⟩;refine eS (fun τ G'=>(∃ b,τ=[some (enc rows),some (.ref p),b])/\eY G G'/\G' p=some (.lst (rows.flatten.map enc))) ?_ ?_
 ·intro N hN;simp only [cO,dF,au,aa];refine jq ?_;refine cu (xs:=rows) (fun pre τ G'=>(∃ b,τ=[some (enc rows),some (.ref p),b])/\eY G G'/\G' p=some (.lst (pre.flatten.map enc))) ⟨⟨_,rfl⟩,.new hp,aA⟩ (fun _ _ _ _=>trivial) ?_ ?_
  ·rintro pre r post τ G' N2 e ⟨⟨b,rfl⟩,l,gp⟩ ke;have hlen:pre.flatten.length+r.length<=rows.flatten.length:=by
    rw [e]; simp only [gU,cG,ar]; lia
   simp only [aC,jQ,vB,au,aj,ah,ae,aa,ko,gp,ay,aX,iz,wz (IsL.enc r),true_and];refine⟨ET (by simp only [ao]; lia),?_⟩;refine ke _ _ ⟨⟨_,rfl⟩,l.put hp,?_⟩;rw [aA]; simp
  ·rintro τ G' ⟨⟨b,rfl⟩,l,gp⟩;exact hN _ _ ⟨⟨_,rfl⟩,l,gp⟩
 ·rintro _ G' ⟨⟨b,rfl⟩,l,gp⟩;simp only [cy,cZ,au,ae,aa];exact kH l hp gp q
theorem pK(p:T3):(enc p:D)=.tup [.int p.a,.int p.b,.int p.c]:=rfl
theorem VP(p:T2):(enc p:D)=.tup [.int p.a,.int p.b]:=rfl
theorem yV(i:Int):(enc i:D)=.int i:=rfl
theorem NU{a:D}{r:List D}:vC (a :: r) 0=some a:=by
 rw [uq _ (by lia) (by simp)]; rfl
theorem NT{a b:D}{r:List D}:vC (a :: b :: r) 1=some b:=by
 rw [uq _ (by lia) (by simp; lia)]; rfl
theorem at2{a b c:D}{r:List D}:vC (a :: b :: c :: r) 2=some c:=by
 rw [uq _ (by lia) (by simp; lia)]; rfl
noncomputable def names(rows:Rows):List Int:=NM ((rows.flatten.filter fun p=>p.b == 0).map (·.a))
noncomputable def kc:kN:=UP (fun rows:Rows=>rows.flatten.length < 64) names
noncomputable def yb:ie :=
 (cy (cZ (qW rm (ay (gO 1 [] (kR (bB hV (ay (au 0) aX))) (aC 0) (some (ml (bo (FI false) (bo jm (au 0) (dC (.int 1))) (dC (.int 0))))) (bo jm (au 0) (dC (.int 0)))) aX))))
theorem HB(ds:List D)(G:Gp)(Q:DK)(h:kc ds G Q fun _ _=>False):yb (fun _ _=>False) (ends Q) (bb 1 ds) G:=by
 obtain⟨rows,rfl,hl,q⟩:=h;unfold yb;simp only [cy,cZ,qW,ay,gO,bb,av,aQ,ai,aB,aL,aO,aX,ends,dF,bB,au,aa];refine⟨rows,rfl,(show rows.flatten.length<=1000 by lia),jq ⟨ET (by rw [ao]; show rows.flatten.length<=1000; lia),?_⟩⟩;refine kK (xs:=rows.flatten) (fun pre acc τ G'=>G=G'/\(∃ a,τ=[a])/\acc=((pre.filter fun p=>p.b == 0).map (·.a)).map enc) ⟨rfl,⟨_,rfl⟩,rfl⟩ (fun _ _ _ _ _=>trivial) ?_ ?_
 ·rintro pre x post acc τ G' N e ⟨rfl,⟨a,rfl⟩,rfl⟩ hN;simp only [aC,pK,ah,bo,au,aa,dC,fJ,NU,fm,NT];refine⟨_,_,.int _,.int _,?_⟩;simp only [aJ,oe,if_false,cV];split
  ·rename_i h;refine hN _ _ _ ⟨rfl,⟨_,rfl⟩,?_⟩;simp [ik,jf,h,yV]
  ·rename_i h;refine hN _ _ _ ⟨rfl,⟨_,rfl⟩,?_⟩;simp [ik,jf,h]
 ·rintro acc τ G' ⟨rfl,⟨a,rfl⟩,rfl⟩ p hp;refine rj (IsL.ref aA) (by rw [ao]; exact cL (xk _ _) hl) fun p2 qr=>?_;exact kH ((eY.new hp).trans (.new qr)) ((eY.new hp).free qr) aA q
noncomputable def handOf(rows:Rows)(n:Int):Int:=((rows.flatten.find? fun p=>p.a == n).map (·.c)).getD 0
noncomputable def k7:kN:=WQ (fun (rows:Rows) (n:Int)=>rows.flatten.length<=1000/\∃ p∈rows.flatten,p.a=n) handOf
noncomputable def zK:ie :=
 (bO (cO (kR (bB hV (ay (au 0) aX))) (aC 2) (mr (ml (bo (FI false) (bo jm (au 2) (dC (.int 0))) (au 1))) (cy (cZ (bo jm (au 2) (dC (.int 2))))) gm))
 QF)
theorem Kl(ds:List D)(G:Gp)(Q:DK)(h:k7 ds G Q fun _ _=>False):zK (fun _ _=>False) (ends Q) (bb 3 ds) G:=by
 obtain⟨rows,n,rfl,⟨hl,hn⟩,q⟩:=h;unfold zK;refine eS (fun τ G'=>False) ?_ (fun _ _ h=>h.elim);intro N hN;simp only [cO,bb,av,aQ,ai,aB,aU,aL,aO,ends,dF,bB,ay,au,aa,aX];refine⟨rows,rfl,hl,jq ?_⟩;refine cu (xs:=rows.flatten) (fun pre τ G'=>G=G'/\(∃ a,τ=[some (enc rows),some (enc n),a])/\∀ p∈pre,p.a≠n) ⟨rfl,⟨_,rfl⟩,by simp⟩ (fun _ _ _ _=>trivial) ?_ ?_
 ·rintro pre x post τ G' N2 e ⟨rfl,⟨a,rfl⟩,hp⟩ ke;simp only [aC,mr,yV,pK,aj,ah,cy,cZ,bo,au,ae,aa,dC,fJ,at2,gm,fm,NU];refine⟨_,_,.int _,.int _,?_⟩;simp only [aJ,oe,if_false,cV];by_cases hx:x.a=n
  ·simp only [hx,beq_self_eq_true,if_true];refine fO ?_;have:handOf rows n=x.c:=by
    unfold handOf;have:rows.flatten.find? (fun p=>p.a == n)=some x:=by
     rw [e,B0];have:pre.find? (fun p=>p.a == n)=none:=by
      rw [ij]; intro p XA; simpa using hp p XA
     rw [this];simp [hx]
    rw [this]; rfl
   rw [<-this]; exact q
  ·have:(x.a == n)=false:=by simpa using hx
   simp only [this,aJ,if_false];refine ke _ _ ⟨rfl,⟨_,rfl⟩,fun p XA=>?_⟩;rcases List.mem_append.mp XA with h | h
   ·exact hp p h
   ·rw [List.mem_singleton.mp h]; exact hx
 ·rintro τ G' ⟨rfl,_,hp⟩;obtain⟨p,Wo,qr⟩:=hn;exact absurd qr (hp p Wo)
noncomputable def jh(row:List T3)(i:Int):List T2:=if row=[] then [⟨i,2⟩] else row.map T3.s
noncomputable def oO:kN:=WQ (fun (row:List T3) (_:Int)=>row.length<=1000) jh
noncomputable def x8:ie :=
 (bO (mr (wY (ml (au 0))) (cy (cZ (gF (ay (gv (ay (au 1) (ay (dC (.int 2)) aX))) aX)))) gm)
 (cy (cZ (gO 1 [] (kR (au 0)) (aC 0) none (BN (au 0) fZ (rG (dC (.int 2))))))))
theorem Yg(p:T3):cut [D.int p.a,D.int p.b,D.int p.c] none (some 2)=[D.int p.a,D.int p.b]:=rfl
theorem Hy(ds:List D)(G:Gp)(Q:DK)(h:oO ds G Q fun _ _=>False):x8 (fun _ _=>False) (ends Q) (bb 2 ds) G:=by
 obtain⟨row,i,rfl,hl,q⟩:=h;unfold x8;refine eS (fun τ G'=>G=G'/\τ=[some (enc row),some (enc i)]/\row≠[]) ?_ ?_
 ·intro N hN;simp only [mr,wY,bb,av,aQ,ai,aB,aL,aO,cy,cZ,gF,ay,gv,au,ae,aa,dC,aX,ends,gm,fm];refine Oz (IsL.enc row) ?_;cases row with
  | nil =>
   simp only [aQ,List.isEmpty_nil,dg,fT,if_true];refine⟨by decide,by decide,fun p hp=>kH (xs:=[(⟨i,2⟩:T2)]) (.new hp) hp aA ?_⟩;exact q
  | cons a r =>
   simp only [av,List.isEmpty_cons,fT,dg,aJ,if_false];exact hN _ _ ⟨rfl,rfl,by simp⟩
 rintro _ _ ⟨rfl,rfl,wM⟩;simp only [cy,cZ,gO,ends,dF,au,aa];refine jq ⟨ET (by rw [ao]; exact hl),?_⟩;refine kK (xs:=row) (fun pre acc τ G'=>G=G'/\(∃ a,τ=[a])/\acc=(pre.map T3.s).map enc) ⟨rfl,⟨_,rfl⟩,rfl⟩ (fun _ _ _ _ _=>trivial) ?_ ?_
 ·rintro pre x post acc τ G' N e ⟨rfl,⟨a,rfl⟩,rfl⟩ hN;simp only [aC,BN,au,pK,ah,aa,fZ,oU,ai,aB,jc,dC,fP];refine⟨by decide,hN _ _ _ ⟨rfl,⟨_,rfl⟩,?_⟩⟩;rw [aT,aT]; rfl
 ·rintro acc τ G' ⟨rfl,⟨a,rfl⟩,rfl⟩ p hp;refine kH (.new hp) hp aA ?_;have:jh row i=row.map T3.s:=by unfold jh; rw [if_neg wM]
  rw [<-this]; exact q
noncomputable def gX:Rows->Nat->List T2
 | [],_=>[]
 | r :: rs,k=>jh r (k:Int)++gX rs (k+1)
theorem uY:∀ (a b:Rows) (k:Nat),gX (a++b) k=gX a k++gX b (k+a.length)
 | [],b,k=>by simp [gX]
 | r :: a,b,k=>by rw [aL,gX,gX,uY a b (k+1),cf,ai]; congr 3; lia
noncomputable def jw(rows:Rows):List T2:=NM (gX rows 0)
noncomputable def oP:kN:=UP (fun rows:Rows=>(gX rows 0).length < 64/\∀ r∈rows,r.length<=1000) jw
noncomputable def x9:ie :=
 (bO (bq (gF aX) (aC 1))
 (bO (cO (PX (au 0)) (j7 (eA (aC 2) (eA (aC 3) jP))) (jQ (vB C8 t4 (au 1) (ay (bB oO (ay (au 3) (ay (au 2) aX))) aX))))
 (cy (cZ (qW rm (ay (au 1) aX))))))
theorem Qt(xs:List (List T3)):og 0 (xs.map enc)=(xs.zipIdx 0).map fun p=>D.tup [.int (p.2:Int),enc p.1]:=by
 have:∀ (xs:List (List T3)) (k:Nat),og k (xs.map enc)=(xs.zipIdx k).map fun p=>D.tup [.int (p.2:Int),enc p.1]:=by
  intro xs;induction xs with
  | nil=>intro k; rfl
  | cons x xs ih=>intro k; rw [av,og,ih,List.zipIdx_cons,av]
 exact this xs 0
theorem C4{α:Type}{xs:List α}{pre post:List (α×Nat)}{x:α×Nat}(h:xs.zipIdx 0=pre++x :: post):∃ l r,xs=l++x.1 :: r/\x.2=l.length/\pre=l.zipIdx 0:=by
 have e1:xs=(pre.map (·.1))++x.1 :: post.map (·.1):=by
  have:=congrArg (List.map (·.1)) h;rw [yH] at this;rw [this]; simp
 have hl:pre.length < (xs.zipIdx 0).length:=by rw [h]; simp
 have hx:(xs.zipIdx 0)[pre.length]?=some x:=by rw [h]; simp
 refine⟨pre.map (·.1),post.map (·.1),e1,?_,?_⟩
 ·rw [List.getElem?_zipIdx] at hx;rw [ao];cases q:xs[pre.length]? with
  | none=>rw [q] at hx; cases hx
  | some y=>rw [q] at hx; simp at hx; rw [<-hx]
 ·have:(pre.map (·.1)).zipIdx 0=(xs.zipIdx 0).take pre.length:=by
   conv=>rhs; rw [e1,List.zipIdx_append]
   rw [List.take_append_of_le_length (by simp)];rw [Of (by simp)]
  rw [this,h]; simp
theorem Hz(ds:List D)(G:Gp)(Q:DK)(h:oP ds G Q fun _ _=>False):x9 (fun _ _=>False) (ends Q) (bb 4 ds) G:=by
 obtain⟨rows,rfl,⟨hl,hr⟩,q⟩:=h;unfold x9;simp only [ends,bb,av,aQ,ai,aB,aU,aL,aO,cM,bq,gF,aX,aC,aj,ah];refine⟨by decide,fun p hp=>?_⟩;refine eS (fun τ G'=>(∃ a b,τ=[some (enc rows),some (.ref p),a,b])/\eY G G'/\G' p=some (.lst ((gX rows 0).map enc))) ?_ ?_
 ·intro N hN;simp only [cO,PX,au,aa];refine Gx ?_;rw [Qt];refine cu (xs:=rows.zipIdx 0) (fun pre τ G'=>(∃ a b,τ=[some (enc rows),some (.ref p),a,b])/\eY G G'/\G' p=some (.lst ((gX (pre.map (·.1)) 0).map enc))) ⟨⟨_,_,rfl⟩,.new hp,aA⟩ (fun _ _ _ _=>trivial) ?_ ?_
  ·rintro pre x post τ G' N2 e ⟨⟨a,b,rfl⟩,l,gp⟩ ke;obtain⟨Wk,YF,e1,e2,e3⟩:=C4 e;have hx:x.1.length<=1000:=hr x.1 (by rw [e1]; simp);have ep:pre.map (·.1)=Wk:=by rw [e3,yH]
   have hlen:(gX Wk 0).length+(jh x.1 (x.2:Int)).length<=(gX rows 0).length:=by
    rw [e1,uY,gX,ar,ar,e2]; simp
   rw [ep] at gp;simp only [j7,eA,aC,jP,jQ,vB,au,aj,ah,ae,aa,ko,gp,ay,bB,aX,iz,true_and];refine⟨x.1,(x.2:Int),rfl,hx,?_⟩;simp only [gp,wz (IsL.enc _)];refine⟨ET (by simp only [ao]; lia),ke _ _ ⟨⟨_,_,rfl⟩,l.put hp,?_⟩⟩;rw [aA,aT,ep,uY,aT];simp [gX,e2]
  ·rintro τ G' ⟨⟨a,b,rfl⟩,l,gp⟩;rw [yH] at gp;exact hN _ _ ⟨⟨_,_,rfl⟩,l,gp⟩
 ·rintro _ G' ⟨⟨a,b,rfl⟩,l,gp⟩;simp only [cy,cZ,qW,ay,au,ae,aa,aX];refine rj (IsL.ref gp) hl fun p2 qr=>?_;exact kH (l.trans (.new qr)) (l.free qr) aA q
theorem abS{a b c:D}:cut [a,b,c] none (some 2)=[a,b]:=rfl
theorem MF{α:Type} [DecidableEq α] [Enc α](xs:List α)(G:Gp):Ac (enc xs) G=some (xs.map enc,fun _=>True):=rfl
theorem ME{a:Nat}{ds:List D}{G:Gp}(h:G a=some (.lst ds)):Ac (.ref a) G=some (ds,fun G2=>G2 a=some (.lst ds)):=by unfold Ac; simp only [h]
theorem E8{α β:Type} [DecidableEq α] [Enc α] [DecidableEq β] [Enc β]:∀ (xs:List α) (ys:List β),uE (xs.map enc) (ys.map enc)=(xs.zip ys).map fun p=>D.tup [enc p.1,enc p.2]
 | [],ys=>by simp [uE]
 | x :: xs,[]=>by simp [uE]
 | x :: xs,y :: ys=>by simp [uE,E8 xs ys]
theorem dB{κ α:Type} [DecidableEq κ] [Enc κ] [pN κ] [DecidableEq α] [Enc α]{a:Nat}{l:List (κ×α)}{k:κ}{v:α}{G:Gp}{Q:Gp->Prop}(h:G a=some (.dI (aR l)))(hl:l.length<=1000)(q:Q (c7 G a (.dI (aR (dJ l k v))))):zx (.ref a) (enc k) (enc v) G Q:=by
 unfold zx;simp only [h];refine⟨fA l k,?_,by rw [K1]; exact q⟩;unfold aR; rw [ao]; exact RY hl
noncomputable def iC(r:List T3):List T3:=r.drop 1++r.take 1
noncomputable def pairsOf(rows:Rows):List (T3×T3):=rows.flatMap fun r=>r.zip (iC r)
noncomputable def jN(ps:List (T3×T3)):List (T2×T2):=ps.foldl (fun l p=>dJ l p.1.s p.2.s) []
theorem Cf(ps:List (T3×T3)):(jN ps).length<=ps.length:=by
 have:∀ (ps:List (T3×T3)) (l:List (T2×T2)),(ps.foldl (fun l p=>dJ l p.1.s p.2.s) l).length<=l.length+ps.length:=by
  intro ps;induction ps with
  | nil=>intro l; simp
  | cons p ps ih =>
   intro l;rw [bF,ai];have h1:=ih (dJ l p.1.s p.2.s);have h2:=A2 l p.1.s p.2.s;lia
 simpa [jN] using this ps []
theorem Jj(ps:List (T3×T3))(p:T3×T3):jN (ps++[p])=dJ (jN ps) p.1.s p.2.s:=by unfold jN; rw [cF]; rfl
noncomputable def qA:kN:=fun ds G Q _=>∃ rows:Rows,ds=[enc rows]/\rows.flatten.length<=500/\Q (.gZ (aR (jN (pairsOf rows)))) G
theorem pairs_len(rows:Rows):(pairsOf rows).length<=rows.flatten.length:=by
 unfold pairsOf;induction rows with
 | nil=>simp
 | cons r rs ih=>simp only [cR,cG,ar,jS]; lia
noncomputable def zI:ie :=
 (bO (bq iq (aC 1))
 (bO (cO (kR (au 0)) (aC 2) (cO (Vq (au 2) (bo iH (BN (au 2) (rG (dC (.int 1))) fZ) (BN (au 2) fZ (rG (dC (.int 1)))))) (j7 (eA (aC 3) (eA (aC 4) jP))) (bq (BN (au 4) fZ (rG (dC (.int 2)))) (fX (au 1) (BN (au 3) fZ (rG (dC (.int 2))))))))
 (cy (cZ (au 1)))))
theorem Kj(ds:List D)(G:Gp)(Q:DK)(h:qA ds G Q fun _ _=>False):zI (fun _ _=>False) (ends Q) (bb 5 ds) G:=by
 obtain⟨rows,rfl,hl,q⟩:=h;unfold zI;simp only [ends,bb,av,aQ,ai,aB,aU,aL,aO,cM,bq,iq,gx,aC,aj,ah];intro d hd;refine eS (fun τ G'=>(∃ a b c,τ=[some (enc rows),some (.ref d),a,b,c])/\eY G G'/\G' d=some (.dI (aR (jN (pairsOf rows))))) ?_ ?_
 ·intro N hN;simp only [cO,dF,au,aa];refine jq ?_;refine cu (xs:=rows) (fun pre τ G'=>(∃ a b c,τ=[some (enc rows),some (.ref d),a,b,c])/\eY G G'/\G' d=some (.dI (aR (jN (pairsOf pre))))) ⟨⟨_,_,_,rfl⟩,.new hd,aA⟩ (fun _ _ _ _=>trivial) ?_ ?_
  ·rintro pre r post τ G' N2 e ⟨⟨a,b,c,rfl⟩,l,gd⟩ ke;have hr:pre.flatten.length+r.length<=rows.flatten.length:=by
    rw [e]; simp only [gU,cG,ar]; lia
   simp only [aC,cO,Vq,au,aj,ah,ae,aa,bo,BN,fZ,jc,dC,fP];refine Dq (IsL.enc r) fun p1 h1=>?_;refine Dq (IsL.enc r) fun p2 h2=>?_;have d1:d≠p1:=by rintro rfl; rw [gd] at h1; cases h1
   have l1:=l.trans (eY.new (o:=.lst (cut (r.map enc) (some 1) none)) h1);have d2:d≠p2:=by rintro rfl; rw [c6 d1,gd] at h2; cases h2
   have h12:p1≠p2:=by rintro rfl; rw [aA] at h2; cases h2
   refine yM (IsL.ref (by rw [c6 h12,aA])) (IsL.ref aA) ?_ fun p3 h3=>?_
   ·rw [wZ,wZ,ao,ao];have e1:(cut r (some 1) none).length<=r.length:=by unfold cut; rw [eB,cI]; lia
    have e2:(cut r none (some 1)).length<=r.length:=by unfold cut; rw [eB,cI]; lia
    exact ET (by lia)
   have d3:d≠p3:=by rintro rfl; rw [c6 d2,c6 d1,gd] at h3; cases h3
   have et:cut (r.map enc) (some 1) none++cut (r.map enc) none (some 1)=(iC r).map enc:=by
    rw [wZ,wZ,<-aT];congr 1;cases r with
    | nil=>rfl
    | cons x r=>rw [show (1:Int)=((1:Nat):Int) from rfl,Hn _ _ (by simp),QK _ _ (by simp)]; rfl
   rw [et];generalize hG3:c7 (c7 (c7 G' p1 (.lst (cut (r.map enc) (some 1) none))) p2 (.lst (cut (r.map enc) none (some 1)))) p3 (.lst ((iC r).map enc))=G3;have g3:G3 p3=some (.lst ((iC r).map enc)):=by rw [<-hG3,aA]
   have gd3:G3 d=some (.dI (aR (jN (pairsOf pre)))):=by rw [<-hG3,c6 d3,c6 d2,c6 d1]; exact gd
   have l3:eY G G3:=by rw [<-hG3]; exact(l1.trans (.new h2)).trans (.new h3)
   unfold As;rw [MF,ME g3];dsimp only;rw [E8];refine cu (xs:=r.zip (iC r)) (fun pp τ G'=>(∃ a b c,τ=[some (enc rows),some (.ref d),a,b,c])/\eY G G'/\G' d=some (.dI (aR (jN (pairsOf pre++pp))))/\G' p3=some (.lst ((iC r).map enc)))
    ⟨⟨_,_,_,rfl⟩,l3,by rw [cX]; exact gd3,g3⟩ (fun _ _ _ h=>⟨trivial,h.2.2.2⟩) ?_ ?_
   ·rintro pp x post τ G4 N3 e4 ⟨⟨a,b,c,rfl⟩,l4,gd4,Wu⟩ yp;have hz:(pairsOf pre++pp).length<=1000:=by
     have:=pairs_len pre;have h5:pp.length < (r.zip (iC r)).length:=by rw [e4]; simp
     rw [jS] at h5;rw [ar]; lia
    simp only [j7,eA,aC,jP,bq,BN,au,pK,aj,ah,ae,aa,fZ,fX,oU,ai,aB,jc,dC,fP,abS];refine⟨by decide,by decide,?_⟩;refine dB (k:=x.1.s) (v:=x.2.s) gd4 (a9 (Cf _) hz) ?_;refine yp _ _ ⟨⟨_,_,_,rfl⟩,l4.put hd,?_,by rw [c6 (dW d3)]; exact Wu⟩;rw [aA,<-cf,Jj]
   ·rintro τ G4 ⟨⟨a,b,c,rfl⟩,l4,gd4,Wu⟩;refine ke _ _ ⟨⟨_,_,_,rfl⟩,l4,?_⟩;have:pairsOf (pre++[r])=pairsOf pre++r.zip (iC r):=by unfold pairsOf; simp
    rw [this]; exact gd4
  ·rintro τ G' ⟨⟨a,b,c,rfl⟩,l,gd⟩;exact hN _ _ ⟨⟨_,_,_,rfl⟩,l,gd⟩
 ·rintro _ G' ⟨⟨a,b,c,rfl⟩,l,gd⟩;simp only [cy,cZ,au,ae,aa];exact fY l hd gd q
noncomputable def Wk(s:T2):T3:=⟨s.a,s.b,0⟩
noncomputable def YF(s:T2):T3:=⟨s.a,s.b,1⟩
noncomputable def UR(ss:List T2):List T3:=ss.flatMap fun s=>[Wk s,YF s]
noncomputable def ni(l:List (T2×T2)):List (T2×T2):=l.foldl (fun c p=>dJ c ((cB l p.1).getD p.2) p.1) []
noncomputable def w4(l ps:List (T2×T2)):List (T2×T2):=ps.foldl (fun c p=>dJ c ((cB l p.1).getD p.2) p.1) []
theorem iN{κ α:Type} [DecidableEq κ] [Enc κ] [DecidableEq α] [Enc α]{l:List (κ×α)}{p:κ×α}(h:p∈l):∃ v,cB l p.1=some v:=by
 unfold cB;cases q:l.find? (fun x=>decide (x.1=p.1)) with
 | none=>rw [ij] at q; exact absurd (by simp) (q p h)
 | some x=>exact⟨_,rfl⟩
noncomputable def mV:kN:=fun ds G Q _=>∃ rows:Rows,ds=[enc rows]/\rows.flatten.length<=500/\Q (.gZ (aR (ni (jN (pairsOf rows))))) G
noncomputable def we:ie :=
 (bO (bq (bB qA (ay (au 0) aX)) (aC 1))
 (bO (bq iq (aC 2))
 (bO (cO (gC (au 1)) (aC 3) (bq (au 3) (fX (au 2) (bo jm (au 1) (au 3)))))
 (cy (cZ (au 2))))))
theorem Hq(l ps:List (T2×T2)):(w4 l ps).length<=ps.length:=by
 have:∀ (ps c:List (T2×T2)),(ps.foldl (fun c p=>dJ c ((cB l p.1).getD p.2) p.1) c).length<=c.length+ps.length:=by
  intro ps;induction ps with
  | nil=>intro c; simp
  | cons p ps ih =>
   intro c;rw [bF,ai];have h1:=ih (dJ c ((cB l p.1).getD p.2) p.1);have h2:=A2 c ((cB l p.1).getD p.2) p.1;lia
 simpa [w4] using this ps []
theorem EJ(ds:List D)(G:Gp)(Q:DK)(h:mV ds G Q fun _ _=>False):we (fun _ _=>False) (ends Q) (bb 4 ds) G:=by
 obtain⟨rows,rfl,hl,q⟩:=h;unfold we;simp only [ends,bb,av,aQ,ai,aB,aU,aL,aO,cM,bq,bB,ay,au,aa,aX,aC,aj,ah,iq];refine⟨rows,rfl,hl,?_⟩;simp only [gx];intro c hc;have hn:(jN (pairsOf rows)).length<=500:=a9 (Cf _) (a9 (pairs_len rows) hl);generalize hL:jN (pairsOf rows)=L at *;refine eS (fun τ G'=>(∃ b,τ=[some (enc rows),some (.gZ (aR L)),some (.ref c),b])/\eY G G'/\G' c=some (.dI (aR (w4 L L)))) ?_ ?_
 ·intro N hN;simp only [cO,gC,au,ae,aa,mZ];have ek:(aR L).map (·.1)=L.map fun p=>enc p.1:=by unfold aR; rw [bA]; rfl
  rw [ek];refine cu (xs:=L) (fun pre τ G'=>(∃ b,τ=[some (enc rows),some (.gZ (aR L)),some (.ref c),b])/\eY G G'/\G' c=some (.dI (aR (w4 L pre)))) ⟨⟨_,rfl⟩,.new hc,aA⟩ (fun _ _ _ _=>trivial) ?_ ?_
  ·rintro pre x post τ G' N2 e ⟨⟨b,rfl⟩,l,gc⟩ ke;have hx:x∈L:=by rw [e]; simp
   obtain⟨v,hv⟩:=iN hx;have Av:pre.length<=500:=by have:=congrArg dh e; simp at this; lia
   simp only [aC,bq,au,aj,ah,ae,aa,fX,bo,lL,i9,hv,iE];refine⟨fA _ _,?_⟩;refine dB (k:=v) (v:=x.1) gc (a9 (Hq _ _) (by lia)) ?_;refine ke _ _ ⟨⟨_,rfl⟩,l.put hc,?_⟩;rw [aA];unfold w4;rw [cF,bF,List.foldl_nil,hv];rfl
  ·rintro τ G' ⟨⟨b,rfl⟩,l,gc⟩;exact hN _ _ ⟨⟨_,rfl⟩,l,gc⟩
 ·rintro _ G' ⟨⟨b,rfl⟩,l,gc⟩;simp only [cy,cZ,au,ae,aa];exact fY l hc gc q
end P
end K2
end
section
namespace K2
open PySem (Str)
open Enc (enc)
class inductive Cn {α:Type} (ps:List (α×α)):α->α->Prop
 | refl (x:α):Cn ps x x
 | pair {x y:α}:(x,y)∈ps->Cn ps x y
 | symm {x y:α}:Cn ps x y->Cn ps y x
 | trans {x y z:α}:Cn ps x y->Cn ps y z->Cn ps x z
section
variable {α:Type} {ps:List (α×α)}
theorem Cn.mono{qs:List (α×α)}(h:∀ p∈ps,p∈qs){x y:α}(c:Cn ps x y):Cn qs x y:=by
 induction c with
 | refl x=>exact .refl x
 | pair q=>exact .pair (h _ q)
 | symm _ ih=>exact .symm ih
 | trans _ _ i1 i2=>exact .trans i1 i2
theorem Cn.more{a b x y:α}:Cn (ps++[(a,b)]) x y↔Cn ps x y\/(Cn ps x a/\Cn ps b y)\/(Cn ps x b/\Cn ps a y):=by
 constructor
 ·intro c;induction c with
  | refl x=>exact .inl (.refl x)
  | pair q =>
   rcases List.mem_append.mp q with q | q
   ·exact .inl (.pair q)
   ·have:=List.mem_singleton.mp q;injection this with e1 e2
    subst e1 e2;exact .inr (.inl ⟨.refl _,.refl _⟩)
  | symm _ ih =>
   rcases ih with h | ⟨h1,h2⟩ | ⟨h1,h2⟩
   ·exact .inl h.symm
   ·exact .inr (.inr ⟨h2.symm,h1.symm⟩)
   ·exact .inr (.inl ⟨h2.symm,h1.symm⟩)
  | trans _ _ i1 i2 =>
   rcases i1 with h | ⟨h1,h2⟩ | ⟨h1,h2⟩
   ·rcases i2 with k | ⟨k1,k2⟩ | ⟨k1,k2⟩
    ·exact .inl (h.trans k)
    ·exact .inr (.inl ⟨h.trans k1,k2⟩)
    ·exact .inr (.inr ⟨h.trans k1,k2⟩)
   ·rcases i2 with k | ⟨k1,k2⟩ | ⟨k1,k2⟩
    ·exact .inr (.inl ⟨h1,h2.trans k⟩)
    ·exact .inr (.inl ⟨h1,k2⟩)
    ·exact .inl (h1.trans k2)
   ·rcases i2 with k | ⟨k1,k2⟩ | ⟨k1,k2⟩
    ·exact .inr (.inr ⟨h1,h2.trans k⟩)
    ·exact .inl (h1.trans k2)
    ·exact .inr (.inr ⟨h1,k2⟩)
 ·have up:∀ {u v:α},Cn ps u v->Cn (ps++[(a,b)]) u v:=fun c=>c.mono fun p hp=>eO _ hp;have ab:Cn (ps++[(a,b)]) a b:=.pair (by simp);rintro(h | ⟨h1,h2⟩ | ⟨h1,h2⟩)
  ·exact up h
  ·exact((up h1).trans ab).trans (up h2)
  ·exact((up h1).trans ab.symm).trans (up h2)
theorem Cn.H0{ms:List α}(h:∀ p∈ps,p.1∈ms/\p.2∈ms){x y:α}(c:Cn ps x y):x∈ms↔y∈ms:=by
 induction c with
 | refl x=>exact Iff.rfl
 | pair q=>exact⟨fun _=>(h _ q).2,fun _=>(h _ q).1⟩
 | symm _ ih=>exact ih.symm
 | trans _ _ i1 i2=>exact i1.trans i2
end
theorem kF{κ α:Type} [DecidableEq κ] [Enc κ] [pN κ] [DecidableEq α] [Enc α]{a:Nat}{l:List (κ×α)}{k:κ}{v:α}{G:Gp}{Q:DK}(h:G a=some (.dI (aR l)))(hv:cB l k=some v)(q:Q (enc v) G):jm (.ref a) (enc k) G Q:=by
 rw [Sa h (fA l k) (by rw [i9,hv]; rfl)]; exact q
theorem Sb{α:Type} [DecidableEq α] [Enc α]{neg:Bool}{x:α}{xs:List α}{G:Gp}{Q:DK}(hd:Enc.dep α<=7)(q:Q (.bl (if neg then !decide (x∈xs) else decide (x∈xs))) G):NN neg (enc x) (enc xs) G Q:=by
 refine⟨enc x,xs.map enc,Enc.sn _ _ _ (by unfold SN; lia),IM G 7 hd xs,?_⟩;rw [EB]; exact q
theorem Dt{α:Type} [DecidableEq α] [Enc α]{neg:Bool}{x y:α}{G:Gp}{Q:DK}(hd:Enc.dep α<=8)(q:Q (.bl (if neg then !decide (x=y) else decide (x=y))) G):FI neg (enc x) (enc y) G Q:=by
 refine⟨enc x,enc y,Enc.sn _ _ _ hd,Enc.sn _ _ _ hd,?_⟩;rw [Enc.eqv]; exact q
class xW (α:Type) [DecidableEq α] [Enc α] [bV α] where
 mn:∀ {x:D} {G:Gp} {xs:List α} {Q:DK},itemsOf x G=some (xs.map enc)->xs≠[]->(∀ m∈xs,(∀ y∈xs,Bk m y=true)->Q (enc m) G)->Tj [x] G Q
theorem lA{α:Type} [DecidableEq α] [Enc α] [bV α]:∀ (r:List α) (a:α),r.foldl (fun m x=>if bV.lt x m=true then x else m) a∈a :: r/\∀ y∈a :: r,Bk (r.foldl (fun m x=>if bV.lt x m=true then x else m) a) y=true
 | [],a=>⟨by simp,fun y hy=>by rw [List.mem_singleton.mp hy]; unfold Bk; rw [List.foldl_nil,bV.SK]; rfl⟩
 | b :: r,a=>by
  rw [bF];by_cases c:bV.lt b a=true
  ·rw [if_pos c];obtain⟨h1,h2⟩:=lA r b;refine⟨aK _ h1,fun y hy=>?_⟩;rcases List.mem_cons.mp hy with rfl | hy
   ·refine Co _ _ _ (h2 b (by simp)) ?_;unfold Bk;cases q:bV.lt y b with
    | false=>rfl
    | true=>have:=bV.trans _ _ _ q c; rw [bV.SK] at this; cases this
   ·exact h2 y hy
  ·rw [if_neg c];obtain⟨h1,h2⟩:=lA r a;refine⟨?_,fun y hy=>?_⟩
   ·rcases List.mem_cons.mp h1 with h | h
    ·rw [h]; simp
    ·exact aK _ (aK _ h)
   ·rcases List.mem_cons.mp hy with rfl | hy
    ·exact h2 y (by simp)
    ·rcases List.mem_cons.mp hy with rfl | hy
     ·refine Co _ _ _ (h2 a (by simp)) ?_;unfold Bk; simpa using c
     ·exact h2 y (aK _ hy)
noncomputable instance:xW Int where
 mn:=by
  intro x G xs Q hi wM k;cases xs with
  | nil=>exact absurd rfl wM
  | cons a r =>
   obtain⟨h1,h2⟩:=lA r a;refine .inl ⟨a :: r,_,hi,rfl,?_⟩;have:(fun (m x:Int)=>if x < m then x else m)=fun m x=>if bV.lt x m=true then x else m:=by
    funext m x;show (if x < m then x else m)=if decide (x < m)=true then x else m
    simp
   show Q (enc (r.foldl (fun m x=>if x < m then x else m) a)) G;rw [this];exact k _ h1 h2
theorem ve:∀ (x y:List Int),wD (fun a b=>decide (a < b)) x y=lexLt x y
 | [],[]=>rfl
 | [],_ :: _=>rfl
 | _ :: _,[]=>rfl
 | a :: x,b :: y=>by simp only [Ah,lexLt,ve x y]
noncomputable instance:xW T3 where
 mn:=by
  intro x G xs Q hi wM k;cases xs with
  | nil=>exact absurd rfl wM
  | cons a r =>
   obtain⟨h1,h2⟩:=lA r a;have ei:itemsOf x G=some (((a :: r).map T3.l).map tI):=by rw [hi,bA]; rfl
   refine .inr ⟨(a :: r).map T3.l,_,ei,rfl,?_⟩;have:∀ (r:List T3) (a:T3),(r.map T3.l).foldl (fun m x=>if lexLt x m=true then x else m) a.l=(r.foldl (fun m x=>if bV.lt x m=true then x else m) a).l:=by
    intro r;induction r with
    | nil=>intro a; rfl
    | cons b r ih =>
     intro a;rw [av,bF,bF];have e:(if lexLt b.l a.l=true then b.l else a.l)=(if bV.lt b a=true then b else a).l:=by
      have:bV.lt b a=lexLt b.l a.l:=ve _ _;rw [this];split <;> rfl
     rw [e]; exact ih _
   rw [this r a];exact k _ h1 h2
namespace P
section
variable {α:Type} [DecidableEq α] [Enc α] [bV α] [pN α] [xW α]
noncomputable def told(ms:List α)(gr:α->List α):List (List α):=NM ((ms.filter fun m=>(gr m).all fun y=>Bk m y).map fun m=>NM (gr m))
noncomputable def TM(α:Type) [DecidableEq α] [Enc α] [bV α] [pN α] [xW α]:kN:=fun ds G Q _=>∃ (ms:List α) (ps:List (α×α)),ds=[enc ms,enc ps]/\(ms.Nodup/\ms.length < 64/\ps.length<=1000/\∀ p∈ps,p.1∈ms/\p.2∈ms)/\(Enc.dep α<=5/\Ph (bV.Di α)=true/\Ph (bV.Di (List α))=true) /\
 ∀ gr:α->List α,(∀ m∈ms,(gr m).Nodup/\∀ x,x∈gr m↔Cn ps m x)->Q (enc (told ms gr)) G
noncomputable def uZ:ie :=
 (bO (bq iq (aC 2))
 (bO (cO (kR (au 0)) (aC 3) (bq (cZ (gF (ay (au 3) aX))) (fX (au 2) (au 3))))
 (bO (cO (kR (au 1)) (j7 (eA (aC 4) (eA (aC 5) jP))) (mr (ml (bo (NN true) (au 5) (bo jm (au 2) (au 4)))) (bO (bq (cZ (bo iH (bo jm (au 2) (au 4)) (bo jm (au 2) (au 5)))) (aC 6))
 (cO (kR (au 6)) (aC 3) (bq (cZ (au 6)) (fX (au 2) (au 3))))) gm))
 (cy (cZ (qW rm (ay (gO 1 [2] (kR (au 0)) (aC 0) (some (ml (bo (FI false) (qW Tj (ay (bo jm (au 1) (au 0)) aX)) (au 0)))) (cZ (qW rm (ay (bo jm (au 1) (au 0)) aX)))) aX)))))))
structure GI(ms:List α)(ps:List (α×α))(l:List (α×List α)):Prop where
 len:l.length<=64
 at':∀ m∈ms,∃ g,cB l m=some g/\g.Nodup/\∀ x,x∈g↔Cn ps m x
theorem xf{κ β:Type} [DecidableEq κ]{l:List (κ×β)}{k:κ}{v:β}(h:∃ p∈l,p.1=k):(dJ l k v).length=l.length:=by
 unfold dJ;rw [if_pos (by obtain⟨p,h1,h2⟩:=h; exact List.any_eq_true.mpr ⟨p,h1,by simpa using h2⟩),ao]
theorem QZ{κ β:Type} [DecidableEq κ]{l:List (κ×β)}{k:κ}{v:β}(h:cB l k=some v):∃ p∈l,p.1=k:=by
 unfold cB at h;cases q:l.find? (fun p=>decide (p.1=k)) with
 | none=>rw [q] at h; cases h
 | some p=>exact⟨p,eW q,by simpa using mz q⟩
noncomputable def putAll(l:List (α×List α))(js:List α)(g:List α):List (α×List α):=js.foldl (fun l m=>dJ l m g) l
theorem Hw(l:List (α×List α))(g:List α):∀ (js:List α) (l:List (α×List α)) (k:α),cB (putAll l js g) k=if k∈js then some g else cB l k:=by
 intro js;induction js with
 | nil=>intro l k; simp [putAll]
 | cons j js ih =>
  intro l k;show cB (putAll (dJ l j g) js g) k=_;rw [ih,uv];by_cases h1:k∈js
  ·simp [h1]
  ·by_cases h2:j=k
   ·simp [h2]
   ·have h3:¬ k=j:=fun z=>h2 z.symm;simp [h1,h2,h3]
theorem GI.join{ms:List α}{ps:List (α×α)}{l:List (α×List α)}(gi:GI ms ps l){a b:α}(ha:a∈ms)(hb:b∈ms)(P1:∀ p∈ps,p.1∈ms/\p.2∈ms){ga gb:List α}(ea:cB l a=some ga)(eb:cB l b=some gb)(hn:b∉ga)(hlen:(putAll l (ga++gb) (ga++gb)).length<=64) :
  GI ms (ps++[(a,b)]) (putAll l (ga++gb) (ga++gb)):=by
 obtain⟨ga',e1,na,ca⟩:=gi.at' a ha;rw [ea] at e1; cases e1;obtain⟨gb',e2,nb,cb⟩:=gi.at' b hb;rw [eb] at e2; cases e2;have nab:¬ Cn ps a b:=fun h=>hn ((ca b).mpr h);refine⟨hlen,fun m hm=>?_⟩;rw [Hw l];by_cases hj:m∈ga++gb
 ·rw [if_pos hj];refine⟨_,rfl,?_,fun x=>?_⟩
  ·rw [cE];refine⟨na,nb,fun x hx y hy e=>?_⟩;subst e;exact nab (((ca x).mp hx).trans ((cb x).mp hy).symm)
  ·rw [Cn.more,HS,ca,cb];rcases List.mem_append.mp hj with h | h
   ·have h:=(ca m).mp h;constructor
    ·rintro(k | k)
     ·exact .inl (h.symm.trans k)
     ·exact .inr (.inl ⟨h.symm,k⟩)
    ·rintro(k | ⟨k1,k2⟩ | ⟨k1,k2⟩)
     ·exact .inl (h.trans k)
     ·exact .inr k2
     ·exact .inl k2
   ·have h:=(cb m).mp h;constructor
    ·rintro(k | k)
     ·exact .inr (.inr ⟨h.symm,k⟩)
     ·exact .inl (h.symm.trans k)
    ·rintro(k | ⟨k1,k2⟩ | ⟨k1,k2⟩)
     ·exact .inr (h.trans k)
     ·exact .inr k2
     ·exact .inl k2
 ·rw [if_neg hj];obtain⟨g,e,n,c⟩:=gi.at' m hm;refine⟨g,e,n,fun x=>?_⟩;rw [HS,ca,cb] at hj;rw [c,Cn.more];constructor
  ·exact .inl
  ·rintro(k | ⟨k1,k2⟩ | ⟨k1,k2⟩)
   ·exact k
   ·exact absurd (.inl k1.symm) hj
   ·exact absurd (.inr k1.symm) hj
theorem GI.same{ms:List α}{ps:List (α×α)}{l:List (α×List α)}(gi:GI ms ps l){a b:α}(ha:a∈ms){ga:List α}(ea:cB l a=some ga)(hn:b∈ga):GI ms (ps++[(a,b)]) l:=by
 obtain⟨ga',e1,na,ca⟩:=gi.at' a ha;rw [ea] at e1; cases e1;have ab:=(ca b).mp hn;refine⟨gi.len,fun m hm=>?_⟩;obtain⟨g,e,n,c⟩:=gi.at' m hm;refine⟨g,e,n,fun x=>?_⟩;rw [c,Cn.more];constructor
 ·exact .inl
 ·rintro(k | ⟨k1,k2⟩ | ⟨k1,k2⟩)
  ·exact k
  ·exact(k1.trans ab).trans k2
  ·exact(k1.trans ab.symm).trans k2
theorem u4{g:List α}:∀ (js:List α) (l:List (α×List α)),(∀ j∈js,∃ v,cB l j=some v)->(putAll l js g).length=l.length
 | [],l,_=>rfl
 | j :: js,l,h=>by
  show (putAll (dJ l j g) js g).length=l.length;rw [u4 js (dJ l j g) (fun k hk=>by
   rw [uv];split
   ·exact⟨_,rfl⟩
   ·exact h k (aK _ hk))]
  obtain⟨v,hv⟩:=h j (by simp);exact xf (QZ hv)
noncomputable def lM(ms:List α):List (α×List α):=ms.foldl (fun l m=>dJ l m [m]) []
theorem DG(ms:List α)(m:α):lM (ms++[m])=dJ (lM ms) m [m]:=by unfold lM; rw [cF]; rfl
theorem FU(ms:List α)(k:α):cB (lM ms) k=if k∈ms then some [k] else none:=by
 have:∀ (ms:List α) (l:List (α×List α)),cB (ms.foldl (fun l m=>dJ l m [m]) l) k=if k∈ms then some [k] else cB l k:=by
  intro ms;induction ms with
  | nil=>intro l; simp
  | cons m ms ih =>
   intro l;rw [bF,ih,uv];by_cases h1:k∈ms
   ·simp [h1]
   ·by_cases h2:m=k
    ·subst h2; simp
    ·have h3:¬ k=m:=fun z=>h2 z.symm;simp [h1,h2,h3]
 have h:=this ms [];simpa [lM,cB] using h
theorem yg(ms:List α):(lM ms).length<=ms.length:=by
 have:∀ (ms:List α) (l:List (α×List α)),(ms.foldl (fun l m=>dJ l m [m]) l).length<=l.length+ms.length:=by
  intro ms;induction ms with
  | nil=>intro l; simp
  | cons m ms ih =>
   intro l;rw [bF,ai];have h1:=ih (dJ l m [m]);have h2:=A2 l m [m];lia
 simpa [lM] using this ms []
theorem wW(p:α×α):(enc p:D)=.tup [enc p.1,enc p.2]:=rfl
theorem Yu(ds:List D)(G:Gp)(Q:DK)(h:TM α ds G Q fun _ _=>False):uZ (fun _ _=>False) (ends Q) (bb 7 ds) G:=by
 obtain⟨ms,ps,rfl,⟨hnd,hlen,JB,P1⟩,⟨afB,abe,P2⟩,q⟩:=h;unfold uZ;simp only [ends,bb,av,aQ,ai,aB,aU,aL,aO,cM,bq,iq,gx,aC,aj,ah];intro d hd;refine eS (fun τ G'=>(∃ a b c e,τ=[some (enc ms),some (enc ps),some (.ref d),a,b,c,e])/\eY G G'/\G' d=some (.dI (aR (lM ms)))) ?_ ?_
 ·intro N hN;simp only [cO,dF,au,aa];refine jq ?_;refine cu (xs:=ms) (fun pre τ G'=>(∃ a b c e,τ=[some (enc ms),some (enc ps),some (.ref d),a,b,c,e])/\eY G G'/\G' d=some (.dI (aR (lM pre)))) ⟨⟨_,_,_,_,rfl⟩,.new hd,aA⟩ (fun _ _ _ _=>trivial) ?_ ?_
  ·rintro pre m post τ G' N2 e ⟨⟨a1,a2,a3,a4,rfl⟩,l,gd⟩ ke;have Av:pre.length < 64:=by have:=congrArg dh e; simp at this; lia
   simp only [aC,bq,cZ,gF,ay,au,aj,ah,ae,aa,aX,ai,aB,fX];refine⟨by decide,fun p hp=>?_⟩;have hdp:d≠p:=by rintro rfl; rw [gd] at hp; cases hp
   refine kH (xs:=[m]) (.new hp) hp aA ?_;refine dB (k:=m) (v:=[m]) gd (a9 (yg _) (by lia)) ?_;refine ke _ _ ⟨⟨_,_,_,_,rfl⟩,l.put hd,?_⟩;rw [aA,DG]
  ·rintro τ G' ⟨⟨a1,a2,a3,a4,rfl⟩,l,gd⟩;exact hN _ _ ⟨⟨_,_,_,_,rfl⟩,l,gd⟩
 rintro _ G0 ⟨⟨a1,a2,a3,a4,rfl⟩,l0,gd0⟩;have gi0:GI ms [] (lM ms):=⟨a9 (yg _) (by lia),fun m hm=>⟨[m],by rw [FU,if_pos hm],by simp,fun x=>⟨fun h=>by rw [List.mem_singleton.mp h]; exact .refl _,fun c=>by
  have:∀ {x y:α},Cn ([]:List (α×α)) x y->y=x:=by
   intro x y c;induction c with
   | refl=>rfl
   | pair h=>cases h
   | symm _ ih=>exact ih.symm
   | trans _ _ i1 i2=>rw [i2,i1]
  rw [this c]; simp⟩⟩⟩
 refine eS (fun τ G'=>(∃ a b c e,τ=[some (enc ms),some (enc ps),some (.ref d),a,b,c,e])/\eY G G'/\∃ l,G' d=some (.dI (aR l))/\GI ms ps l) ?_ ?_
 ·intro N hN;simp only [cO,dF,au,ae,aa];refine jq ?_;refine cu (xs:=ps) (fun pre τ G'=>(∃ a b c e,τ=[some (enc ms),some (enc ps),some (.ref d),a,b,c,e])/\eY G G'/\∃ l,G' d=some (.dI (aR l))/\GI ms pre l) ⟨⟨_,_,_,_,rfl⟩,l0,_,gd0,gi0⟩ (fun _ _ _ _=>trivial) ?_ ?_
  ·rintro pre x post τ G1 N2 e ⟨⟨a1,a2,a3,a4,rfl⟩,l1,L,SY,gi⟩ ke;have hx:=P1 x (by rw [e]; simp);have Av:∀ p∈pre,p.1∈ms/\p.2∈ms:=fun p hp=>P1 p (by rw [e]; exact eO _ hp);obtain⟨ga,ea,na,ca⟩:=gi.at' x.1 hx.1;obtain⟨gb,eb,nb,cb⟩:=gi.at' x.2 hx.2;have sub:∀ (z:α) (gz:List α),z∈ms->(∀ y,y∈gz↔Cn pre z y)->∀ y∈gz,y∈ms:=fun z gz hz cz y hy=>(Cn.H0 Av ((cz y).mp hy)).mp hz;simp only [j7,wW,eA,aC,jP,mr,aj,ah,cM,bq,cZ,bo,au,ae,aa,gm,fm];refine kF SY ea ?_;refine Sb (by lia) ?_;simp only [if_true,cV];by_cases hb:x.2∈ga
   ·simp only [hb,decide_true,dg,aJ,if_false];exact ke _ _ ⟨⟨_,_,_,_,rfl⟩,l1,L,SY,gi.same hx.1 ea hb⟩
   ·simp only [hb,decide_false,fT,if_true];refine kF SY ea (kF SY eb ?_);have nab:(ga++gb).Nodup:=by
     rw [cE];refine⟨na,nb,fun y hy z hz e=>?_⟩;subst e;exact hb ((ca x.2).mpr (((ca y).mp hy).trans ((cb y).mp hz).symm))
    have hj:∀ y∈ga++gb,y∈ms:=fun y hy=>by
     rcases List.mem_append.mp hy with h | h
     ·exact sub x.1 ga hx.1 ca y h
     ·exact sub x.2 gb hx.2 cb y h
    have Wr:(ga++gb).length<=ms.length:=(mB nab hj);refine yM (IsL.enc ga) (IsL.enc gb) (ET (by rw [ar] at Wr; simp only [ao]; lia)) fun p hp=>?_;have hdp:d≠p:=by rintro rfl; rw [SY] at hp; cases hp
    rw [<-aT];refine kH (.new hp) hp aA ?_;simp only [cO,dF,au,ae,aa];refine jq ?_;refine cu (xs:=ga++gb) (fun js τ G'=>(∃ a,τ=[some (enc ms),some (enc ps),some (.ref d),a,some (enc x.1),some (enc x.2),some (enc (ga++gb))])/\eY G G'/\G' d=some (.dI (aR (putAll L js (ga++gb)))))
     ⟨⟨_,rfl⟩,l1,SY⟩ (fun _ _ _ _=>trivial) ?_ ?_
    ·rintro js j zS τ G' N3 e3 ⟨⟨b1,rfl⟩,l,gd⟩ yp;have Vw:∀ k∈js,∃ v,cB L k=some v:=fun k hk=>by
      obtain⟨g,eg,_⟩:=gi.at' k (hj k (by rw [e3]; exact eO _ hk));exact⟨g,eg⟩
     simp only [aC,bq,cZ,au,aj,ah,ae,aa,fX];refine fO ?_;refine dB (k:=j) (v:=ga++gb) gd (by rw [u4 js L Vw]; have:=gi.len; lia) ?_;refine yp _ _ ⟨⟨_,rfl⟩,l.put hd,?_⟩;rw [aA];unfold putAll;rw [cF]; rfl
    ·rintro τ G' ⟨⟨b1,rfl⟩,l,gd⟩;have Vw:∀ k∈ga++gb,∃ v,cB L k=some v:=fun k hk=>by
      obtain⟨g,eg,_⟩:=gi.at' k (hj k hk);exact⟨g,eg⟩
     exact ke _ _ ⟨⟨_,_,_,_,rfl⟩,l,_,gd,gi.join hx.1 hx.2 Av ea eb hb (by rw [u4 _ L Vw]; exact gi.len)⟩
  ·rintro τ G' ⟨⟨a1,a2,a3,a4,rfl⟩,l,gd⟩;exact hN _ _ ⟨⟨_,_,_,_,rfl⟩,l,gd⟩
 rintro _ G1 ⟨⟨a1,a2,a3,a4,rfl⟩,l1,L,SY,gi⟩;simp only [cy,cZ,qW,ay,gO,aX,dF,au,aa];refine jq ⟨ET (by rw [ao]; lia),?_⟩
 let gr:α->List α:=fun m=>(cB L m).getD []
 have XJ:∀ m∈ms,cB L m=some (gr m)/\(gr m).Nodup/\∀ x,x∈gr m↔Cn ps m x:=fun m hm=>by
  obtain⟨g,e,n,c⟩:=gi.at' m hm;have:gr m=g:=by show (cB L m).getD []=g; rw [e]; rfl
  rw [this]; exact⟨e,n,c⟩
 have grl:∀ m∈ms,(gr m).length < 64:=fun m hm=>by
  obtain⟨_,n,c⟩:=XJ m hm;have:(gr m).length<=ms.length:=mB n fun y hy=>(Cn.H0 P1 ((c y).mp hy)).mp hm;lia
 refine kK (xs:=ms) (fun pre acc τ G'=>G1=G'/\(∃ a,τ=[a,some (.ref d)])/\acc=((pre.filter fun m=>(gr m).all fun y=>Bk m y).map fun m=>NM (gr m)).map enc) ⟨rfl,⟨_,rfl⟩,rfl⟩ (fun _ _ _ _ _=>trivial) ?_ ?_
 ·rintro pre m post acc τ G' N e ⟨rfl,⟨a,rfl⟩,rfl⟩ hN;have hm:m∈ms:=by rw [e]; simp
  obtain⟨eg,ng,cg⟩:=XJ m hm;simp only [aC,ah,cZ,qW,ay,bo,au,ae,aa,aX,fm];refine kF SY eg ?_;refine xW.mn (xs:=gr m) rfl (fun z=>by
   have:m∈gr m:=(cg m).mpr (.refl m);rw [z] at this; cases this) fun mm YY hle=>?_
  refine Dt (by lia) ?_;simp only [aJ,if_false,cV];have key:decide (mm=m)=(gr m).all fun y=>Bk m y:=by
   have Vv:m∈gr m:=(cg m).mpr (.refl m);by_cases h:mm=m
   ·subst h;simp only [decide_true];symm; rw [fB]; exact hle
   ·simp only [h,decide_false];symm;cases q:(gr m).all fun y=>Bk m y with
    | false=>rfl
    | true =>
     rw [fB] at q;exact absurd (Gm _ _ (hle m Vv) (q mm YY)) h
  rw [key];cases q:(gr m).all fun y=>Bk m y with
  | false =>
   simp only [aJ,if_false];refine hN _ _ _ ⟨rfl,⟨_,rfl⟩,?_⟩;simp [ik,jf,q]
  | true =>
   simp only [if_true];refine kF SY eg ?_;refine rj (IsL.enc (gr m)) (grl m hm) (fun p hp=>?_) abe;refine kH (.new hp) hp aA ?_;refine hN _ _ _ ⟨rfl,⟨_,rfl⟩,?_⟩;simp [ik,jf,q]
 ·rintro acc τ G' ⟨rfl,⟨a,rfl⟩,rfl⟩ p hp;refine rj (IsL.ref aA) (by rw [ao]; exact cL (xk _ _) hlen) (fun p2 qr=>?_) P2;have l2:=(l1.trans (eY.new (o:=.lst (((ms.filter fun m=>(gr m).all fun y=>Bk m y).map fun m=>NM (gr m)).map enc)) hp));exact kH (l2.trans (.new qr)) (l2.free qr) aA (q gr fun m hm=>(XJ m hm).2)
end
end P
end K2
end
section
namespace K2
open PySem (Str)
open Enc (enc)
namespace P
theorem gQ{κ β:Type} [DecidableEq κ]{l:List (κ×β)}{k:κ}{v:β}(h:k∉l.map (·.1)):dJ l k v=l++[(k,v)]:=by
 unfold dJ;rw [if_neg];intro q;obtain⟨p,h1,h2⟩:=List.any_eq_true.mp q;exact h (List.mem_map.mpr ⟨p,h1,by simpa using h2⟩)
theorem tq{κ β γ:Type} [DecidableEq κ](kf:γ->κ)(vf:γ->β):∀ (ps:List γ) (l:List (κ×β)),(l.map (·.1)++ps.map kf).Nodup->ps.foldl (fun l p=>dJ l (kf p) (vf p)) l=l++ps.map fun p=>(kf p,vf p)
 | [],l,_=>by simp
 | p :: ps,l,h=>by
  rw [bF,gQ (fun z=>by
   rw [av,cE] at h;exact h.2.2 _ z _ (by simp) rfl),tq kf vf ps _ (by simpa using h)]
  simp
theorem jd{κ β:Type} [DecidableEq κ]:∀ {l:List (κ×β)} {p:κ×β},(l.map (·.1)).Nodup->p∈l->cB l p.1=some p.2
 | q :: l,p,hn,h=>by
  unfold cB;rw [di];rcases List.mem_cons.mp h with rfl | h
  ·simp
  ·rw [av,eV] at hn;have:q.1≠p.1:=fun z=>hn.1 (by rw [z]; exact bg h);simp only [this,decide_false];exact jd hn.2 h
theorem xY(r:List T3):(iC r).length=r.length:=by unfold iC; rw [ar,cI,eB]; lia
theorem Dc(r:List T3):(iC r).Perm r:=by
 unfold iC;exact List.perm_append_comm.trans (by rw [xj])
theorem Ce(rows:Rows):(pairsOf rows).map (·.1)=rows.flatten:=by
 unfold pairsOf;induction rows with
 | nil=>rfl
 | cons r rs ih =>
  rw [cR,aT,ih,cG];congr 1;rw [List.map_fst_zip]; rw [xY]; exact aF _
theorem tW(rows:Rows):((pairsOf rows).map (·.2)).Perm rows.flatten:=by
 unfold pairsOf;induction rows with
 | nil=>exact .refl _
 | cons r rs ih =>
  rw [cR,aT,cG];refine List.Perm.append ?_ ih;rw [List.map_snd_zip]
  ·exact Dc r
  ·rw [xY]; exact aF _
variable {rows:Rows}
theorem Qh(d:Dr rows):((pairsOf rows).map fun p=>p.1.s).Nodup:=by
 have:((pairsOf rows).map fun p=>p.1.s)=rows.flatten.map T3.s:=by rw [<-Ce,bA]; rfl
 rw [this]; exact d.nd
theorem Dg(d:Dr rows):((pairsOf rows).map fun p=>p.2.s).Nodup:=by
 have:((pairsOf rows).map fun p=>p.2.s)=((pairsOf rows).map (·.2)).map T3.s:=by rw [bA]; rfl
 rw [this,((tW rows).map T3.s).nodup_iff]; exact d.nd
theorem Pq(d:Dr rows):jN (pairsOf rows)=(pairsOf rows).map fun p=>(p.1.s,p.2.s):=by
 unfold jN;rw [tq (fun p:T3×T3=>p.1.s) (fun p=>p.2.s) _ _ (by simpa using Qh d)]; rfl
theorem J9(d:Dr rows):ni (jN (pairsOf rows))=(pairsOf rows).map fun p=>(p.2.s,p.1.s):=by
 rw [Pq d];generalize hL:((pairsOf rows).map fun p=>(p.1.s,p.2.s))=L;have hk:(L.map (·.1)).Nodup:=by rw [<-hL,bA]; exact Qh d
 have hv:(L.map (·.2)).Nodup:=by rw [<-hL,bA]; exact Dg d
 have e:ni L=L.foldl (fun c p=>dJ c p.2 p.1) []:=by
  unfold ni;have:∀ (ps:List (T2×T2)) (c:List (T2×T2)),(∀ p∈ps,p∈L)->ps.foldl (fun c p=>dJ c ((cB L p.1).getD p.2) p.1) c=ps.foldl (fun c p=>dJ c p.2 p.1) c:=by
   intro ps;induction ps with
   | nil=>intro c _; rfl
   | cons p ps ih =>
    intro c h;rw [bF,bF,jd hk (h p (by simp))];exact ih _ fun q hq=>h q (aK _ hq)
  exact this L [] fun p h=>h
 rw [e,tq (fun p:T2×T2=>p.2) (fun p=>p.1) _ _ (by simpa using hv),<-hL];simp [bA,Function.comp_def]
noncomputable def YH(rows:Rows)(s:T2):T3:=(rows.flatten.find? fun p=>decide (p.s=s)).getD ⟨0,0,0⟩
noncomputable def nxt(rows:Rows)(s:T2):T2:=(cB ((pairsOf rows).map fun p=>(p.1.s,p.2.s)) s).getD s
noncomputable def yE(rows:Rows)(s:T2):T2:=(cB ((pairsOf rows).map fun p=>(p.2.s,p.1.s)) s).getD s
noncomputable def mt(p:T3):T2:=⟨p.a,1 - p.b⟩
noncomputable def fst(p:T3):Bool:=decide (p.b=0) == decide (p.c=1)
theorem K8(d:Dr rows){p:T3}(h:p∈rows.flatten):YH rows p.s=p:=by
 unfold YH;cases q:rows.flatten.find? (fun x=>decide (x.s=p.s)) with
 | none=>rw [ij] at q; exact absurd (by simp) (q p h)
 | some x =>
  have h1:=mz q;have h2:=eW q;have h1:x.s=p.s:=by simpa using h1
  have:∀ (L:List T3),(L.map T3.s).Nodup->x∈L->p∈L->x=p:=by
   intro L;induction L with
   | nil=>intro _ h; cases h
   | cons y L ih =>
    intro hn hx hp;rw [av,eV] at hn;rcases List.mem_cons.mp hx with e1 | Xs
    ·rcases List.mem_cons.mp hp with e2 | qr
     ·rw [e1,e2]
     ·exact absurd (by rw [<-e1,h1]; exact bg qr) hn.1
    ·rcases List.mem_cons.mp hp with e2 | qr
     ·exact absurd (by rw [<-e2,<-h1]; exact bg Xs) hn.1
     ·exact ih hn.2 Xs qr
  exact this _ d.nd h2 h
theorem QN(d:Dr rows){p q:T3}(h:(p,q)∈pairsOf rows):cB ((pairsOf rows).map fun p=>(p.2.s,p.1.s)) q.s=some p.s/\yE rows q.s=p.s:=by
 have:=jd (l:=(pairsOf rows).map fun p=>(p.2.s,p.1.s)) (p:=(q.s,p.s)) (by rw [bA]; exact Dg d) (List.mem_map.mpr ⟨_,h,rfl⟩);refine⟨this,?_⟩;unfold yE; rw [this]; rfl
theorem GD{q:T3}(h:q∈rows.flatten):∃ p,(p,q)∈pairsOf rows/\p∈rows.flatten:=by
 rw [<-(tW rows).mem_iff] at h;obtain⟨x,hx,rfl⟩:=List.mem_map.mp h;exact⟨x.1,hx,by rw [<-Ce]; exact bg hx⟩
noncomputable def om(p:T3):T3:=⟨p.a,1 - p.b,p.c⟩
theorem W7(d:Dr rows){p:T3}(h:p∈rows.flatten):om p∈rows.flatten:=d.Px p h
noncomputable def step(rows:Rows)(x:T3):T3 :=
 if x.b=2 then x else
 let al:=decide (x.c=0)
 let p:=if al=true then YH rows (nxt rows x.s) else YH rows x.s
 if (fst p == al)=true then Wk (mt p) else YF (yE rows (mt p))
theorem tZ{n:Int}:n∈names rows↔∃ p∈rows.flatten,p.b=0/\p.a=n:=by
 unfold names;rw [RZ,List.mem_map];constructor
 ·rintro⟨p,h,rfl⟩;obtain⟨h1,h2⟩:=List.mem_filter.mp h;exact⟨p,h1,by simpa using h2,rfl⟩
 ·rintro⟨p,h1,h2,rfl⟩;exact⟨p,List.mem_filter.mpr ⟨h1,by simpa using h2⟩,rfl⟩
theorem Lu(d:Dr rows){p:T3}(h:p∈rows.flatten):handOf rows p.a=p.c:=by
 unfold handOf;cases q:rows.flatten.find? (fun x=>x.a == p.a) with
 | none=>rw [ij] at q; exact absurd (by simp) (q p h)
 | some x =>
  have h1:x.a=p.a:=by simpa using mz q
  have h2:=eW q;show x.c=p.c;have hw:=d.way p h;have YV:=d.way x h2;by_cases e:x.b=p.b
  ·have:x.s=p.s:=by unfold T3.s; rw [h1,e]
   have e1:=K8 d h2;rw [this,K8 d h] at e1;rw [e1]
  ·have:(om x).s=p.s:=by unfold T3.s om; rw [h1]; congr 1; dsimp only; lia
   have e1:=K8 d (W7 d h2);rw [this,K8 d h] at e1;rw [e1]; rfl
end P
end K2
end
section
namespace K2
open PySem (Str)
open Enc (enc)
namespace P
variable {rows:Rows}
theorem zq(rows:Rows):(gX rows 0).length<=rows.flatten.length+rows.length:=by
 have:∀ (rs:Rows) (k:Nat),(gX rs k).length<=rs.flatten.length+rs.length:=by
  intro rs;induction rs with
  | nil=>intro k; simp [gX]
  | cons r rs ih =>
   intro k;have:=ih (k+1);rw [gX,ar,cG,ar,ai];have:(jh r (k:Int)).length<=r.length+1:=by
    unfold jh; split <;> simp
   lia
 exact this rows 0
noncomputable def WS(rows:Rows):List T3:=UR (jw rows)
end P
end K2
end
section
namespace K2
open PySem (Str)
open Enc (enc)
namespace RC
open K2.P
structure HR(G G':Gp)(p0:Nat)(as:List Nat)(rs:Rows):Prop where
 le:eY G G'
 fp:G p0=none
 gp:G' p0=some (.lst (as.map D.ref))
 np:p0∉as
 nd:as.Nodup
 fr:∀ a∈as,G a=none
 len:as.length=rs.length
 at':∀ (i a:Nat) (r:List T3),as[i]?=some a->rs[i]?=some r->G' a=some (.lst (r.map enc))
structure MI(st:Int)(n:Nat)(name:Int)(L:List T3):Prop where
 off:∃ off:Int,0<=off/\off<=83 * n/\name=(st+off) % 999/\∀ p∈L,∃ o:Int,0 < o/\o<=off/\p.a=(st+o) % 999+1
 nd:(L.map T3.s).Nodup
 way:∀ p∈L,p.b=0\/p.b=1
 hand:∀ p∈L,p.c=1\/p.c=-1
 Px:∀ p∈L,(⟨p.a,1 - p.b,p.c⟩:T3)∈L
 len:L.length=2 * n
end RC
end K2
end
section
namespace K2
open PySem (Str)
open Enc (enc)
namespace RC
open K2.P
variable {rows:Rows}
end RC
end K2
end
section
namespace K2
open PySem (Str)
open Enc (enc)
namespace RC
open K2.P
variable {rows:Rows}
noncomputable def z3:T3:=⟨0,0,0⟩
noncomputable def NO(r:List T3)(k:Nat):T3:=if k=0 then r.getD (r.length - 1) z3 else r.getD (k - 1) z3
noncomputable def yf(r:List T3)(ks:List Nat):List (T3×T3):=ks.map fun k=>(NO r k,r.getD k z3)
noncomputable def tR(rows:Rows):List (T3×T3):=rows.flatMap fun r=>yf r (c9 r.length)
theorem O4(r:List T3):(yf r (c9 r.length)).Perm (r.zip (iC r)):=by
 cases r with
 | nil=>exact .refl _
 | cons x t =>
  have wM:(x :: t)≠[]:=by simp
  have e1:yf (x :: t) (c9 (x :: t).length)=((x :: t).getLast wM,x) :: (x :: t).dropLast.zip t:=by
   refine List.ext_getElem ?_ ?_
   ·simp [yf]
   ·intro i h1 h2;have eg:(yf (x :: t) (c9 (x :: t).length))[i]=(NO (x :: t) i,(x :: t).getD i z3):=by simp [yf]
    rw [eg];have hi:i < (x :: t).length:=by simpa [yf] using h1
    cases i with
    | zero =>
     simp only [List.getElem_cons_zero,Prod.mk.injEq];refine⟨?_,rfl⟩;unfold NO;rw [if_pos rfl,a8,ax (by simp),List.getLast_eq_getElem];rfl
    | succ i =>
     rw [List.getElem_cons_succ,uW];refine Prod.ext ?_ ?_
     ·show NO (x :: t) (i+1)=_;unfold NO;rw [if_neg (by lia),a8,ax (by lia),List.getElem_dropLast];rfl
     ·show (x :: t).getD (i+1) z3=t[i]'(by simpa using hi);rw [a8,ae,ax (by simpa using hi)];rfl
  have e2:(x :: t).zip (iC (x :: t))=(x :: t).dropLast.zip t++[((x :: t).getLast wM,x)]:=by
   have:iC (x :: t)=t++[x]:=rfl;rw [this]
   conv=>lhs; arg 1; rw [<-List.dropLast_concat_getLast wM]
   rw [HN (by simp)];rfl
  rw [e1,e2];exact Rm (l₁:=[((x :: t).getLast wM,x)])
theorem pZ(rows:Rows):(tR rows).Perm (pairsOf rows):=by
 unfold tR pairsOf;induction rows with
 | nil=>exact .refl _
 | cons r rs ih =>
  rw [cR,cR];exact(O4 r).append ih
theorem Ez{r:List T3}{k:Nat}(h:k < r.length):vC (r.map (enc:T3->D)) (0+(k:Int))=some (enc (r.getD k z3)):=by
 rw [uq _ (by lia) (by rw [ao]; lia),oN];congr 2;rw [a8,ax h];show r[(0+(k:Int)).toNat]=r[k];congr 1; lia
theorem Ey{r:List T3}{k:Nat}(h:k < r.length):vC (r.map (enc:T3->D)) (0+(k:Int) - 1)=some (enc (NO r k)):=by
 unfold NO;by_cases hk:k=0
 ·subst hk;rw [if_pos rfl];unfold vC Ju;rw [ao,if_neg (by lia),if_pos (by lia)];show (r.map enc)[_]?=_;have:(0+((0:Nat):Int) - 1+(r.length:Int)).toNat=r.length - 1:=by lia
  rw [this,bz,a8,ax (by lia)];rfl
 ·rw [if_neg hk];have:=Ez (r:=r) (k:=k - 1) (by lia);have e:(0+((k - 1:Nat):Int))=0+(k:Int) - 1:=by lia
  rw [e] at this; exact this
noncomputable def j8(ps:List (T3×T3)):List (T2×T2):=ps.foldl (fun l p=>dJ l p.2.s p.1.s) []
theorem GH{κ β γ:Type} [DecidableEq κ](kf:γ->κ)(vf:γ->β)(ps:List γ):(ps.foldl (fun (l:List (κ×β)) p=>dJ l (kf p) (vf p)) []).length<=ps.length:=by
 have:∀ (ps:List γ) (l:List (κ×β)),(ps.foldl (fun l p=>dJ l (kf p) (vf p)) l).length<=l.length+ps.length:=by
  intro ps;induction ps with
  | nil=>intro l; simp
  | cons p ps ih =>
   intro l;rw [bF,ai];have h1:=ih (dJ l (kf p) (vf p));have h2:(dJ l (kf p) (vf p)).length<=l.length+1:=by
    unfold dJ; split <;> simp
   lia
 simpa using this ps []
theorem Dx(rows:Rows):(tR rows).length<=rows.flatten.length:=by
 rw [(pZ rows).length_eq]; exact pairs_len rows
theorem AU(d:Dr rows){p q:T3}(h:(p,q)∈pairsOf rows):cB (j8 (tR rows)) q.s=some p.s:=by
 have nd:((tR rows).map fun p=>p.2.s).Nodup:=((pZ rows).map _).nodup_iff.mpr (Dg d);unfold j8;rw [tq (fun p:T3×T3=>p.2.s) (fun p=>p.1.s) _ _ (by simpa using nd),aO];exact jd (p:=(q.s,p.s)) (by rw [bA]; exact nd) (List.mem_map.mpr ⟨(p,q),(pZ rows).mem_iff.mpr h,rfl⟩)
theorem Dy(r:List T3)(ks:List Nat):(yf r ks).length=ks.length:=by unfold yf; rw [ao]
theorem K4{pre:Rows}{r:List T3}{post:Rows}(e:rows=pre++r :: post):(tR pre).length+r.length<=rows.flatten.length:=by
 have:=Dx pre;rw [e]; simp only [gU,cG,ar]; lia
theorem FL(pre:Rows)(r:List T3):tR (pre++[r])=tR pre++yf r (c9 r.length):=by unfold tR; simp
end RC
end K2
end
section
namespace K2
open PySem (Str)
open Enc (enc)
namespace P
variable {rows:Rows}
noncomputable def UJ(rows:Rows)(s:T2):Nat:=(((rows.zipIdx 0).find? fun p=>decide (s∈jh p.1 (p.2:Int))).map (·.2)).getD 0
end P
end K2
end
section
namespace K2
open PySem (Str)
open Enc (enc)
namespace K13
open K2.P K2.RC
variable {rows:Rows}
theorem Jz{c:yv}{a b:ie}{E:mO}{K:mP}{τ:iX}{G:Gp}:mr c a b E K τ G=c E τ G fun k G1=>if k=true then a E K τ G1 else b E K τ G1:=rfl
end K13
end K2
end
section
namespace K2
open PySem (Str)
open Enc (enc)
namespace K13
open K2.P K2.RC
variable {rows:Rows}
structure HI(n:Nat)(ps:List (Int×Int))(MW:List Int):Prop where
 len:MW.length=n
 WU:∀ x∈MW,0<=x/\x < (n:Int)
 eq:∀ i j:Nat,i < n->j < n->(MW.getD i 0=MW.getD j 0↔Cn ps (i:Int) (j:Int))
noncomputable def cls(MW:List Int)(f:Int):List Int:=((MW.zipIdx 0).filter fun p=>decide (p.1=f)).map fun p=>(p.2:Int)
end K13
end K2
end
section
namespace K2
open PySem (Str)
open Enc (enc)
namespace LV
open K2.P
section
variable {α β:Type} [DecidableEq α] [DecidableEq β]
structure Tr(V:List α)(R:α->α->Prop)(A:List α):Prop where
 pw:A.Pairwise fun a b=>¬ R a b
 VS:∀ v∈V,∃ a∈A,R v a
 H0:∀ a∈A,a∈V
noncomputable def Nc(V:List α)(R:α->α->Prop)(k:Nat):Prop:=∃ A,Tr V R A/\A.length=k
structure Eqv(R:α->α->Prop):Prop where
 rf:∀ x,R x x
 sy:∀ {x y},R x y->R y x
 tr:∀ {x y z},R x y->R y z->R x z
theorem Um(ps:List (α×α)):Eqv (Cn ps):=⟨fun x=>.refl x,fun h=>h.symm,fun h k=>h.trans k⟩
variable {V:List α} {R:α->α->Prop}
theorem OY(e:Eqv R):∀ (A B:List α),A.Pairwise (fun a b=>¬ R a b)->(∀ a∈A,∃ b∈B,R a b)->A.length<=B.length
 | [],_,_,_=>cq _
 | a :: A,B,h,hb=>by
  rw [List.pairwise_cons] at h;obtain⟨b,hbm,hab⟩:=hb a (by simp);have:=OY e A (B.erase b) h.2 fun a' ha'=>by
   obtain⟨b',D0,r⟩:=hb a' (aK _ ha');refine⟨b',(RM fun z=>?_).mpr D0,r⟩;subst z;exact h.1 a' ha' (e.tr hab (e.sy r))
  rw [LZ hbm] at this;have:=Og hbm;rw [ai]; lia
theorem Nc.uniq(e:Eqv R){k l:Nat}(h1:Nc V R k)(h2:Nc V R l):k=l:=by
 obtain⟨A,a,rfl⟩:=h1;obtain⟨B,b,rfl⟩:=h2;exact Nat.le_antisymm (OY e A B a.pw fun x hx=>b.VS x (a.H0 x hx)) (OY e B A b.pw fun x hx=>a.VS x (b.H0 x hx))
open Classical in
theorem Nc.ex(e:Eqv R):∀ V:List α,∃ k,Nc V R k
 | []=>⟨0,[],⟨.nil,by simp,by simp⟩,rfl⟩
 | v :: V=>by
  obtain⟨k,A,a,ea⟩:=Nc.ex e V;by_cases h:∃ b∈A,R v b
  ·refine⟨k,A,⟨a.pw,fun x hx=>?_,fun x hx=>aK _ (a.H0 x hx)⟩,ea⟩;rcases List.mem_cons.mp hx with rfl | hx
   ·exact h
   ·exact a.VS x hx
  ·refine⟨k+1,v :: A,⟨List.pairwise_cons.mpr ⟨fun b hb r=>h ⟨b,hb,r⟩,a.pw⟩,fun x hx=>?_,fun x hx=>?_⟩,by rw [ai,ea]⟩
   ·rcases List.mem_cons.mp hx with rfl | hx
    ·exact⟨_,by simp,e.rf _⟩
    ·obtain⟨b,hb,r⟩:=a.VS x hx;exact⟨b,aK _ hb,r⟩
   ·rcases List.mem_cons.mp hx with rfl | hx
    ·simp
    ·exact aK _ (a.H0 x hx)
theorem Nc.map{W:List β}{R':β->β->Prop}(e':Eqv R')(f:α->β)(hf:∀ v∈V,f v∈W)(hr:∀ v∈V,∀ u∈V,R v u↔R' (f v) (f u))(hs:∀ w∈W,∃ v∈V,R' w (f v)){k:Nat}(n:Nc V R k):Nc W R' k:=by
 obtain⟨A,a,rfl⟩:=n;refine⟨A.map f,⟨?_,fun w hw=>?_,fun w hw=>?_⟩,by rw [ao]⟩
 ·rw [iP];exact a.pw.imp_of_mem fun {x y} hx hy q r=>q ((hr x (a.H0 x hx) y (a.H0 y hy)).mpr r)
 ·obtain⟨v,hv,r⟩:=hs w hw;obtain⟨b,hb,r2⟩:=a.VS v hv;exact⟨f b,bg hb,e'.tr r ((hr v hv b (a.H0 b hb)).mp r2)⟩
 ·obtain⟨b,hb,rfl⟩:=List.mem_map.mp hw;exact hf b (a.H0 b hb)
noncomputable def it(f:α->α):Nat->α->α
 | 0,a=>a
 | n+1,a=>f (it f n a)
structure Pm(V:List α)(f:α->α):Prop where
 cl:∀ a∈V,f a∈V
 inj:∀ a∈V,∀ b∈V,f a=f b->a=b
variable {f:α->α}
noncomputable def gr(V:List α)(f:α->α):List (α×α):=V.map fun a=>(a,f a)
end
end LV
end K2
end
section
namespace K2
open PySem (Str)
open Enc (enc)
namespace LV
open K2.P
variable {rows:Rows}
noncomputable def flp(z:T3):T3:=⟨z.a,z.b,1 - z.c⟩
noncomputable def swp(off:List T2)(z:T3):T3:=if z.s∈off then flp z else z
noncomputable def phi(rows:Rows)(off:List T2)(a:T3):T3:=swp off (step rows a)
noncomputable def abW(rows:Rows):List T2:=rows.flatten.map T3.s
noncomputable def abP(rows:Rows):List T2:=(jw rows).filter fun s=>decide (s.b=2)
noncomputable def pr(s:T2):T3×T3:=(Wk s,YF s)
noncomputable def base(rows:Rows):List (T3×T3):=gr (WS rows) (phi rows (abW rows))++(abP rows).map pr
end LV
end K2
end
section
namespace K2
open PySem (Str)
open Enc (enc)
namespace LV
open K2.P
variable {rows:Rows}
theorem RW{α:Type} [DecidableEq α] [Enc α] [bV α]{ms:List α}{ps:List (α×α)}{gr:α->List α}(hn:ms.Nodup)(h:∀ m∈ms,∀ x,x∈gr m↔Cn ps m x)(NR:∀ p∈ps,p.1∈ms/\p.2∈ms):Nc ms (Cn ps) (told ms gr).length:=by
 refine⟨ms.filter fun m=>(gr m).all fun y=>Bk m y,⟨?_,fun v hv=>?_,fun a ha=>(List.mem_filter.mp ha).1⟩,by unfold told; rw [De,ao]⟩
 ·refine(hn.filter _).imp_of_mem fun {x y} hx hy q r=>q ?_;obtain⟨hx1,Xs⟩:=List.mem_filter.mp hx;obtain⟨hy1,hy2⟩:=List.mem_filter.mp hy;rw [fB] at Xs hy2;exact Gm _ _ (Xs y ((h x hx1 y).mpr r)) (hy2 x ((h y hy1 x).mpr r.symm))
 ·have YW:=(h v hv v).mpr (.refl v);cases q:gr v with
  | nil=>rw [q] at YW; cases YW
  | cons a r =>
   obtain⟨h1,h2⟩:=lA r a;generalize r.foldl (fun m x=>if bV.lt x m=true then x else m) a=m at h1 h2;rw [<-q] at h1 h2;have hm:=(h v hv m).mp h1;have YY:=(Cn.H0 NR hm).mp hv;refine⟨m,List.mem_filter.mpr ⟨YY,List.all_eq_true.mpr fun y hy=>h2 y ((h v hv y).mpr (hm.trans ((h m YY y).mp hy)))⟩,hm⟩
end LV
end K2
end
section
namespace K2
namespace Y
noncomputable abbrev Po:=List (Int×Int)
noncomputable def ND(l:Po):Prop:=(l.map (·.1)).Nodup
noncomputable def c0(l:Po)(k:Int):Int:=(cB l k).getD 0
noncomputable def gk(l:Po):Po:=l.filter fun p=>p.2 != 0
noncomputable def plus(a:Po)(p:Int×Int):Po:=dJ a p.1 (c0 a p.1+p.2)
noncomputable def nV(l m:Po):Po:=m.foldl plus l
noncomputable def Mw(l m:Po):Po:=gk (nV l m)
noncomputable def pE(m:Po)(a:Po)(p:Int×Int):Po:=m.foldl (fun a q=>plus a (p.1+q.1,p.2 * q.2)) a
noncomputable def mX(l m:Po):Po:=l.foldl (pE m) []
noncomputable def zQ(l m:Po):Po:=gk (mX l m)
noncomputable def nS(l:Po)(by_ f:Int):Po:=gk (l.map fun p=>(p.1+by_,p.2 * f))
noncomputable def eI(l:Po):Nat->Po
 | 0=>[(0,1)]
 | n+1=>zQ (eI l n) l
theorem gQ{κ β:Type} [DecidableEq κ]{l:List (κ×β)}{k:κ}{v:β}(h:k∉l.map (·.1)):dJ l k v=l++[(k,v)]:=by
 unfold dJ;rw [if_neg];intro q;obtain⟨p,h1,h2⟩:=List.any_eq_true.mp q;exact h (List.mem_map.mpr ⟨p,h1,by simpa using h2⟩)
theorem tF{κ β:Type} [DecidableEq κ]{l:List (κ×β)}{k:κ}{v:β}(h:k∈l.map (·.1)):dJ l k v=l.map (fun p=>if p.1=k then (p.1,v) else p):=by
 unfold dJ;rw [if_pos];obtain⟨p,h1,h2⟩:=List.mem_map.mp h;exact List.any_eq_true.mpr ⟨p,h1,by simpa using h2⟩
theorem Nx{κ β:Type} [DecidableEq κ](l:List (κ×β))(k:κ)(v:β):(dJ l k v).map (·.1)=if k∈l.map (·.1) then l.map (·.1) else l.map (·.1)++[k]:=by
 split
 ·rename_i h;rw [tF h,bA];refine gR fun p _=>?_;show (if p.1=k then (p.1,v) else p).1=p.1;split <;> rfl
 ·rename_i h;rw [gQ h,aT]; rfl
theorem ND.put{l:Po}(h:ND l)(k v:Int):ND (dJ l k v):=by
 unfold ND;rw [Nx];split
 ·exact h
 ·rename_i hk;rw [cE];exact⟨h,by simp,fun a ha b hb=>by rw [bN] at hb; subst hb; intro z; exact hk (z ▸ ha)⟩
theorem ND.nil:ND []:=dv
theorem ND.one(k v:Int):ND [(k,v)]:=by unfold ND; simp
theorem ND.tail{p:Int×Int}{l:Po}(h:ND (p :: l)):ND l:=by unfold ND at *; rw [av,eV] at h; exact h.2
theorem ND.head{p:Int×Int}{l:Po}(h:ND (p :: l)):p.1∉l.map (·.1):=by unfold ND at *; rw [av,eV] at h; exact h.1
theorem ND.gk{l:Po}(h:ND l):ND (gk l):=by
 unfold ND Y.gk at *;exact List.Sublist.nodup (L0 _ List.filter_sublist) h
theorem yN{l:Po}(h:ND l)(p:Int×Int):ND (plus l p):=h.put _ _
theorem wU{α:Type}(f:Po->α->Po)(hf:∀ a x,ND a->ND (f a x)):∀ (xs:List α) (a:Po),ND a->ND (xs.foldl f a)
 | [],_,h=>h
 | x :: xs,a,h=>wU f hf xs _ (hf a x h)
theorem zW{l m:Po}(h:ND l):ND (nV l m):=wU _ (fun a x h=>yN h x) m l h
theorem K5{m a:Po}(h:ND a)(p:Int×Int):ND (pE m a p):=wU _ (fun a x h=>yN h _) m a h
theorem u5(l m:Po):ND (mX l m):=wU _ (fun a x h=>K5 h x) l [] .nil
theorem Sm{l m:Po}(h:ND l):ND (Mw l m):=(zW h).gk
theorem Mo(l m:Po):ND (zQ l m):=(u5 l m).gk
theorem zu{l:Po}(h:ND l)(b f:Int):ND (l.map fun p=>(p.1+b,p.2 * f)):=by
 unfold ND at *;rw [bA];have:(l.map ((fun x:Int×Int=>x.1)∘fun p=>(p.1+b,p.2 * f)))=(l.map (·.1)).map (· + b):=by rw [bA]; rfl
 rw [this];exact List.Pairwise.map _ (fun a c hac z=>hac (by lia)) h
theorem Cd{l:Po}(h:ND l)(b f:Int):ND (nS l b f):=(zu h b f).gk
theorem nA(l:Po):∀ n,ND (eI l n)
 | 0=>.one _ _
 | n+1=>Mo _ _
theorem FP(l:Po)(p:Int×Int):(plus l p).length<=l.length+1:=by unfold plus dJ; split <;> simp
theorem uc{α:Type}(f:Po->α->Po)(c:Nat)(hf:∀ a x,(f a x).length<=a.length+c):∀ (xs:List α) (a:Po),(xs.foldl f a).length<=a.length+xs.length * c
 | [],a=>by simp
 | x :: xs,a=>by
  have:=uc f c hf xs (f a x);have:=hf a x;rw [bF,ai,Nat.succ_mul]; lia
theorem qc(l m:Po):(nV l m).length<=l.length+m.length:=by
 have:=uc plus 1 FP m l;unfold nV; lia
theorem FN(m a:Po)(p:Int×Int):(pE m a p).length<=a.length+m.length:=by
 have:=uc (fun a q=>plus a (p.1+q.1,p.2 * q.2)) 1 (fun a q=>FP a _) m a;unfold pE; lia
theorem oV(l m:Po):(mX l m).length<=l.length * m.length:=by
 have:=uc (pE m) m.length (fun a p=>FN m a p) l [];simpa [mX] using this
theorem lr(l:Po):(gk l).length<=l.length:=xk _ _
theorem Pe(l m:Po):(Mw l m).length<=l.length+m.length:=a9 (lr _) (qc l m)
theorem IW(l m:Po):(zQ l m).length<=l.length * m.length:=a9 (lr _) (oV l m)
theorem qF(l:Po):∀ n,(eI l n).length<=l.length ^ n
 | 0=>by simp [eI]
 | n+1=>a9 (IW _ _) (by rw [xt]; exact gE _ (qF l n))
noncomputable def L(g:Int->Int):Po->Int
 | []=>0
 | p :: l=>p.2 * g p.1+L g l
theorem HF(g:Int->Int):∀ (l m:Po),L g (l++m)=L g l+L g m
 | [],m=>by simp [L]
 | p :: l,m=>by rw [aL,L,L,HF g l m]; lia
theorem CU{l:Po}{k:Int}(h:k∉l.map (·.1)):cB l k=none:=by
 unfold cB;have:l.find? (fun p=>decide (p.1=k))=none:=by
  rw [ij];intro p hp z;exact h (List.mem_map.mpr ⟨p,hp,by simpa using z⟩)
 rw [this]; rfl
theorem Eu{p:Int×Int}{l:Po}{k:Int}:c0 (p :: l) k=if p.1=k then p.2 else c0 l k:=by
 unfold c0 cB;rw [di];by_cases h:p.1=k <;> simp [h]
theorem CV(g:Int->Int)(k v:Int):∀ (l:Po),ND l->k∈l.map (·.1)->L g (l.map fun p=>if p.1=k then (p.1,v) else p)=L g l+(v - c0 l k) * g k
 | [],_,h=>by cases h
 | p :: l,hn,h=>by
  rw [av,Eu];by_cases e:p.1=k
  ·rw [if_pos e,if_pos e,L,L];have:l.map (fun p=>if p.1=k then (p.1,v) else p)=l:=by
    conv=>rhs; rw [<-uI l]
    refine gR fun q hq=>?_;rw [if_neg]; rfl;intro z; exact hn.head (by rw [e,<-z]; exact bg hq)
   rw [this];show v * g p.1+L g l=_;rw [e,Int.sub_mul]; lia
  ·rw [if_neg e,if_neg e,L,L,CV g k v l hn.tail (by
    rw [av,bQ] at h;rcases h with h | h
    ·exact absurd h.symm e
    ·exact h)]
   lia
theorem Yx(g:Int->Int){l:Po}(hn:ND l)(k v:Int):L g (dJ l k v)=L g l+(v - c0 l k) * g k:=by
 by_cases h:k∈l.map (·.1)
 ·rw [tF h]; exact CV g k v l hn h
 ·rw [gQ h,HF];have:c0 l k=0:=by unfold c0; rw [CU h]; rfl
  rw [this];simp [L]
theorem Wb(g:Int->Int){l:Po}(hn:ND l)(p:Int×Int):L g (plus l p)=L g l+p.2 * g p.1:=by
 unfold plus;rw [Yx g hn];congr 1;rw [show c0 l p.1+p.2 - c0 l p.1=p.2 by lia]
theorem EK(g:Int->Int):∀ (l:Po),L g (gk l)=L g l
 | []=>rfl
 | p :: l=>by
  have ih:=EK g l;unfold gk at *;rw [jf];by_cases h:p.2=0
  ·rw [if_neg (by simp [h]),ih,L,h]; simp
  ·rw [if_pos (by simp [h]),L,L,ih]
theorem Ra(g:Int->Int):∀ (m l:Po),ND l->L g (m.foldl plus l)=L g l+L g m
 | [],l,_=>by simp [L]
 | p :: m,l,h=>by
  rw [bF,Ra g m _ (yN h p),Wb g h,L]; lia
theorem Wc(g:Int->Int){l:Po}(h:ND l)(m:Po):L g (Mw l m)=L g l+L g m:=by
 unfold Mw nV; rw [EK,Ra g m l h]
theorem yw(g:Int->Int)(b f:Int):∀ (l:Po),L g (l.map fun p=>(p.1+b,p.2 * f))=f * L (fun i=>g (i+b)) l
 | []=>by simp [L]
 | p :: l=>by
  rw [av,L,yw g b f l,L,Int.mul_add];congr 1;show p.2 * f * g (p.1+b)=f * (p.2 * g (p.1+b));rw [Int.mul_comm p.2 f,Int.mul_assoc]
theorem Q9(g:Int->Int)(b f:Int)(l:Po):L g (nS l b f)=f * L (fun i=>g (i+b)) l:=by
 unfold nS; rw [EK,yw]
theorem QS{l:Po}{k:Int}(h:k∉l.map (·.1)):c0 l k=0:=by unfold c0; rw [CU h]; rfl
theorem LU{l:Po}(hn:ND l)(k:Int):L (fun i=>if i=k then 1 else 0) l=c0 l k:=by
 induction l with
 | nil=>rfl
 | cons p l ih =>
  rw [L,ih hn.tail,Eu];by_cases h:p.1=k
  ·have:c0 l k=0:=QS (h ▸ hn.head);simp [h,this]
  ·simp [h]
noncomputable def NZ(l:Po):Prop:=∀ p∈l,p.2≠0
theorem Pd(l:Po):NZ (gk l):=fun p h=>by
 have:=(List.mem_filter.mp h).2;simpa using this
theorem iN{l:Po}(hn:ND l){p:Int×Int}(h:p∈l):cB l p.1=some p.2:=by
 induction l with
 | nil=>cases h
 | cons q l ih =>
  unfold cB;rw [di];rcases List.mem_cons.mp h with rfl | h
  ·simp
  ·have:q.1≠p.1:=fun z=>hn.head (by rw [z]; exact bg h);simp only [this,decide_false];exact ih hn.tail h
theorem QT{l:Po}(hn:ND l){p:Int×Int}(h:p∈l):c0 l p.1=p.2:=by unfold c0; rw [iN hn h]; rfl
theorem Pw{l:Po}{k:Int}(h:c0 l k≠0):(k,c0 l k)∈l:=by
 unfold c0 at *;unfold cB at *;cases q:l.find? (fun p=>decide (p.1=k)) with
 | none=>rw [q] at h; exact absurd rfl h
 | some p =>
  have h1:=mz q;have h2:=eW q;simp at h1;simp only [iE,Option.getD_some];rw [<-h1]; exact h2
theorem CD{l:Po}(hn:ND l):rS l l=true:=by
 unfold rS;simp only [beq_self_eq_true,NH,fB];intro p hp;rw [iN hn hp]; simp
theorem iS:∀ (xs ys:List Int),xs.Nodup->(∀ x∈xs,x∈ys)->xs.length<=ys.length
 | [],_,_,_=>cq _
 | x :: xs,ys,hn,h=>by
  rw [eV] at hn;have:=iS xs (ys.erase x) hn.2 fun y hy=>(RM (show y≠x from fun z=>hn.1 (by rw [<-z]; exact hy))).mpr (h y (aK _ hy));have hx:=h x (by simp);rw [LZ hx] at this;have:=Og hx;rw [ai]; lia
theorem sub_len{l m:Po}(hl:ND l)(zl:NZ l)(h:∀ k,c0 l k=c0 m k):l.length<=m.length:=by
 have:=iS (l.map fun p:Int×Int=>p.1) (m.map fun p:Int×Int=>p.1) hl fun k hk=>by
  obtain⟨p,hp,rfl⟩:=List.mem_map.mp hk;have h1:c0 m p.1≠0:=by rw [<-h,QT hl hp]; exact zl p hp
  exact bg (f:=(·.1)) (Pw h1)
 simpa using this
theorem S5{l m:Po}(hl:ND l)(hm:ND m)(zl:NZ l)(zm:NZ m)(h:∀ k,c0 l k=c0 m k):rS l m=true:=by
 unfold rS;rw [aM];refine⟨?_,List.all_eq_true.mpr fun p hp=>?_⟩
 ·have h1:=sub_len hl zl h;have h2:=sub_len hm zm fun k=>(h k).symm;simpa using Nat.le_antisymm h1 h2
 ·have h1:c0 m p.1=p.2:=by rw [<-h,QT hl hp]
  have h2:c0 m p.1≠0:=by rw [h1]; exact zl p hp
  have:=iN hm (Pw h2);rw [h1] at this;simp only at this;rw [this]; simp
theorem VN{l m:Po}(hl:ND l)(hm:ND m)(zl:NZ l)(zm:NZ m)(h:∀ g,L g l=L g m):rS l m=true :=
 S5 hl hm zl zm fun k=>by rw [<-LU hl,<-LU hm,h]
noncomputable def mL:Po->Nat
 | []=>0
 | p :: l=>p.2.natAbs+mL l
theorem zY:∀ (l m:Po),mL (l++m)=mL l+mL m
 | [],m=>by simp [mL]
 | p :: l,m=>by rw [aL,mL,mL,zY l m]; lia
theorem tY{l:Po}{p:Int×Int}(h:p∈l):p.2.natAbs<=mL l:=by
 induction l with
 | nil=>cases h
 | cons q l ih =>
  rw [mL];rcases List.mem_cons.mp h with rfl | h
  ·lia
  ·have:=ih h; lia
theorem yi(k v:Int):∀ (l:Po),ND l->k∈l.map (·.1)->mL (l.map fun p=>if p.1=k then (p.1,v) else p)+(c0 l k).natAbs=mL l+v.natAbs
 | [],_,h=>by cases h
 | p :: l,hn,h=>by
  rw [av,Eu];by_cases e:p.1=k
  ·rw [if_pos e,if_pos e,mL,mL];have:l.map (fun p=>if p.1=k then (p.1,v) else p)=l:=by
    conv=>rhs; rw [<-uI l]
    refine gR fun q hq=>?_;rw [if_neg]; rfl;intro z; exact hn.head (by rw [e,<-z]; exact bg hq)
   rw [this];show v.natAbs+mL l+_=_;lia
  ·have:=yi k v l hn.tail (by
    rw [av,bQ] at h;rcases h with h | h
    ·exact absurd h.symm e
    ·exact h)
   rw [if_neg e,if_neg e,mL,mL];lia
theorem Pj{l:Po}(hn:ND l)(p:Int×Int):mL (plus l p)<=mL l+p.2.natAbs:=by
 unfold plus;by_cases h:p.1∈l.map (·.1)
 ·rw [tF h];have:=yi p.1 (c0 l p.1+p.2) l hn h;have:=Int.natAbs_add_le (c0 l p.1) p.2;lia
 ·rw [gQ h,zY,QS h];simp [mL]
theorem MA(l:Po):mL (gk l)<=mL l:=by
 induction l with
 | nil=>exact aF _
 | cons p l ih =>
  unfold gk at *;rw [jf];split
  ·rw [mL,mL]; lia
  ·rw [mL]; lia
theorem FW(p:Int×Int):∀ (m a:Po),ND a->mL (pE m a p)<=mL a+p.2.natAbs * mL m
 | [],a,_=>by simp [pE,mL]
 | q :: m,a,h=>by
  have ih:=FW p m (plus a (p.1+q.1,p.2 * q.2)) (yN h _);have:=Pj h (p.1+q.1,p.2 * q.2);unfold pE at *;rw [bF,mL,Nat.mul_add];have e:(p.2 * q.2).natAbs=p.2.natAbs * q.2.natAbs:=Int.natAbs_mul _ _;simp only at this;lia
theorem Je(l m:Po):mL (zQ l m)<=mL l * mL m:=by
 refine a9 (MA _) ?_;unfold mX;have:∀ (l a:Po),ND a->mL (l.foldl (pE m) a)<=mL a+mL l * mL m:=by
  intro l;induction l with
  | nil=>intro a _; simp [mL]
  | cons p l ih =>
   intro a h;rw [bF];have h1:=ih _ (K5 (m:=m) h p);have h2:=FW p m a h;rw [mL,Nat.add_mul]; lia
 have:=this l [] .nil;simpa [mL] using this
theorem qI(l:Po):∀ n,mL (eI l n)<=mL l ^ n
 | 0=>by simp [eI,mL]
 | n+1=>a9 (Je _ _) (by rw [xt]; exact gE _ (qI l n))
end Y
end K2
end
section
namespace K2
open PySem (Str)
open Enc (enc)
namespace Y
structure Pl(G:Gp)(d:D)(l:Po):Prop where
 is:Uq G d l
 nd:ND l
theorem j4{G G1:Gp}{p:Nat}{o:GO}{Q:DK}(l:eY G G1)(hp:G p=none)(h1:G1 p=some o)(q:gx G o Q):Rf G1 (.ref p) Q:=VJ l hp h1 (q p hp)
theorem Ei(i j:Int):i5 (.int i) (.int j)=decide (i=j):=Enc.eqv i j
theorem wt(l m:Po):gk (l++m)=gk l++gk m:=ik _ _
theorem I0{l:Po}{k:Int}(h:k∈(gk l).map (·.1)):k∈l.map (·.1):=(L0 _ List.filter_sublist).subset h
theorem T4{l pre post:Po}{p:Int×Int}(h:ND l)(e:l=pre++p :: post):p.1∉pre.map (·.1):=by
 subst e;unfold ND at h;rw [aT,av,cE] at h;intro z;exact h.2.2 _ z _ (by simp) rfl
theorem zT{l pre post:Po}{p:Int×Int}(h:ND l)(e:l=pre++p :: post)(hz:p.2≠0):dJ (gk pre) p.1 p.2=gk (pre++[p]):=by
 rw [gQ fun z=>T4 h e (I0 z),wt];congr 1;simp [gk,hz]
theorem zU{pre:Po}{p:Int×Int}(hz:p.2=0):gk (pre++[p])=gk pre:=by
 rw [wt]; simp [gk,hz]
theorem mf(i:Int):(enc i:D)=.int i:=rfl
noncomputable def dn:kN:=fun ds G Q _=>∃ (d:D) (l:Po),ds=[d]/\Pl G d l/\l.length<=SZ/\gx G (.dI (aR (gk l))) Q
noncomputable def nP:ie :=
 (bO (bq iq (aC 1))
 (bO (cO (ib (au 0)) (j7 (eA (aC 2) (eA (aC 3) jP))) (mr (ml (bo (FI true) (au 3) (dC (.int 0)))) (bq (au 3) (fX (au 1) (au 2))) gm))
 (cy (cZ (au 1)))))
theorem vq(ds:List D)(G:Gp)(Q:DK)(h:dn ds G Q fun _ _=>False):nP (fun _ _=>False) (ends Q) (bb 4 ds) G:=by
 obtain⟨d,l,rfl,hd,hl,q⟩:=h;unfold nP;simp only [ends,bb,av,aQ,ai,aB,aU,aL,aO,cM,bq,iq,aC,aj,ah];intro p hp;refine eS (fun τ G'=>(∃ a b,τ=[some d,some (.ref p),a,b])/\eY G G'/\G' p=some (.dI (aR (gk l)))) ?_ ?_
 ·intro N hN;simp only [cO,ib,au,aa];refine jb hd.is (.new hp) fun ok cN=>?_;refine cu (xs:=l) (fun pre τ G'=>(∃ a b,τ=[some d,some (.ref p),a,b])/\eY G G'/\G' p=some (.dI (aR (gk pre)))) ⟨⟨_,_,rfl⟩,.new hp,aA⟩ (fun pre τ G' h=>cN G' h.2.1) ?_ ?_
  ·rintro pre x post τ G' N2 e ⟨⟨a,b,rfl⟩,le,gp⟩ ke;have hlen:(gk pre).length < SZ:=by
    have:=lr pre;have:=congrArg dh e;rw [ar,ai] at this; lia
   simp only [j7,eA,aC,jP,aj,ah];refine⟨_,_,.int _,.int _,?_⟩;simp only [Ei,if_true,bq,au,ae,aa,fX,gm];by_cases hz:x.2=0
   ·simp only [hz,decide_true,dg];exact ke _ _ ⟨⟨_,_,rfl⟩,le,by rw [zU hz]; exact gp⟩
   ·simp only [hz,decide_false,fT];refine dB (α:=Int) gp hlen ?_;exact ke _ _ ⟨⟨_,_,rfl⟩,le.put hp,by rw [aA,<-zT hd.nd e hz]⟩
  ·rintro τ G' ⟨⟨a,b,rfl⟩,le,gp⟩;exact hN _ _ ⟨⟨_,_,rfl⟩,le,gp⟩
 ·rintro _ G' ⟨⟨a,b,rfl⟩,le,gp⟩;simp only [cy,cZ,au,ae,aa];exact j4 le hp gp q
theorem Lh{G:Gp}{d:D}{l:Po}{i:Int}{Q:DK}(h:tG G d l)(k:Q (.int (c0 l i)) G):DM d [.int i,.int 0] G Q:=SA (α:=Int) (e:=0) h k
theorem fk{α:Type}{l pre post:List α}{x:α}(e:l=pre++x :: post):pre.length < l.length:=by
 have:=congrArg dh e;rw [ar,ai] at this; lia
noncomputable def pV:kN:=fun ds G Q _=>∃ (d e:D) (l m:Po),ds=[d,e]/\Pl G d l/\Pl G e m/\l.length+m.length<=SZ/\gx G (.dI (aR (Mw l m))) Q
noncomputable def FD:ie :=
 (bO (bq (qW AY (ay (au 0) aX)) (aC 2))
 (bO (cO (ib (au 1)) (j7 (eA (aC 3) (eA (aC 4) jP))) (bq (bo iH (vB Ow DM (au 2) (ay (au 3) (ay (dC (.int 0)) aX))) (au 4)) (fX (au 2) (au 3))))
 (cy (cZ (bB dn (ay (cZ (au 2)) aX))))))
theorem Q7(ds:List D)(G:Gp)(Q:DK)(h:pV ds G Q fun _ _=>False):FD (fun _ _=>False) (ends Q) (bb 5 ds) G:=by
 obtain⟨d,e,l,m,rfl,hd,he,hl,q⟩:=h;unfold FD;simp only [ends,bb,av,aQ,ai,aB,aU,aL,aO,cM,bq,qW,ay,au,aa,aX,aC,aj,ah];refine AX hd.is.p (by lia) fun p hp=>?_;refine eS (fun τ G'=>(∃ a b,τ=[some d,some e,some (.ref p),a,b])/\eY G G'/\G' p=some (.dI (aR (nV l m)))) ?_ ?_
 ·intro N hN;simp only [cO,ib,au,ae,aa];refine jb he.is (.new hp) fun ok cN=>?_;refine cu (xs:=m) (fun pre τ G'=>(∃ a b,τ=[some d,some e,some (.ref p),a,b])/\eY G G'/\G' p=some (.dI (aR (nV l pre)))) ⟨⟨_,_,rfl⟩,.new hp,aA⟩ (fun pre τ G' h=>cN G' h.2.1) ?_ ?_
  ·rintro pre x post τ G' N2 e2 ⟨⟨a,b,rfl⟩,le,gp⟩ ke;have hlen:(nV l pre).length < SZ:=by
    have:=qc l pre;have:=fk e2; lia
   simp only [j7,eA,aC,jP,bq,bo,vB,au,aj,ah,ae,aa,lJ,ay,dC,aX,fX];refine⟨C9 (tG.ref gp),Lh (tG.ref gp) ?_⟩;simp only [mf,dE];refine dB (α:=Int) gp hlen ?_;refine ke _ _ ⟨⟨_,_,rfl⟩,le.put hp,?_⟩;rw [aA];unfold nV plus;rw [cF]; rfl
  ·rintro τ G' ⟨⟨a,b,rfl⟩,le,gp⟩;exact hN _ _ ⟨⟨_,_,rfl⟩,le,gp⟩
 ·rintro _ G' ⟨⟨a,b,rfl⟩,le,gp⟩;simp only [cy,cZ,bB,ay,au,ae,aa,aX];refine fY le hp gp ?_;refine⟨_,nV l m,rfl,⟨rfl,zW hd.nd⟩,by have:=qc l m; lia,fun p2 qr=>?_⟩;exact j4 (.new qr) qr aA q
noncomputable def kZ:kN:=fun ds G Q _=>∃ (d:D) (l:Po) (b f:Int),ds=[d,.int b,.int f]/\Pl G d l/\l.length<=SZ/\(mL l < oH/\f.natAbs < oH)/\gx G (.dI (aR (nS l b f))) Q
noncomputable def zH:ie :=
 (bO (bq iq (aC 3))
 (bO (cO (ib (au 0)) (j7 (eA (aC 4) (eA (aC 5) jP))) (bq (bo zN (au 5) (au 2)) (fX (au 3) (bo iH (au 4) (au 1)))))
 (cy (cZ (bB dn (ay (cZ (au 3)) aX))))))
noncomputable def Fi(b f:Int)(l:Po):Po:=l.map fun p=>(p.1+b,p.2 * f)
theorem zt{l pre post:Po}{p:Int×Int}(b f:Int)(h:ND l)(e:l=pre++p :: post):dJ (Fi b f pre) (p.1+b) (p.2 * f)=Fi b f (pre++[p]):=by
 rw [gQ,Fi,Fi,aT]; rfl;intro z;unfold Fi at z;rw [bA] at z;obtain⟨r,hr,er⟩:=List.mem_map.mp z;have:r.1=p.1:=by have:r.1+b=p.1+b:=er; lia
 exact T4 h e (this ▸ bg hr)
theorem Ki(ds:List D)(G:Gp)(Q:DK)(h:kZ ds G Q fun _ _=>False):zH (fun _ _=>False) (ends Q) (bb 6 ds) G:=by
 obtain⟨d,l,b,f,rfl,hd,hl,⟨hb,hf⟩,q⟩:=h;unfold zH;simp only [ends,bb,av,aQ,ai,aB,aU,aL,aO,cM,bq,iq,aC,aj,ah];intro p hp;refine eS (fun τ G'=>(∃ u v,τ=[some d,some (.int b),some (.int f),some (.ref p),u,v])/\eY G G'/\G' p=some (.dI (aR (Fi b f l)))) ?_ ?_
 ·intro N hN;simp only [cO,ib,au,aa];refine jb hd.is (.new hp) fun ok cN=>?_;refine cu (xs:=l) (fun pre τ G'=>(∃ u v,τ=[some d,some (.int b),some (.int f),some (.ref p),u,v])/\eY G G'/\G' p=some (.dI (aR (Fi b f pre)))) ⟨⟨_,_,rfl⟩,.new hp,aA⟩ (fun pre τ G' h=>cN G' h.2.1) ?_ ?_
  ·rintro pre x post τ G' N2 e ⟨⟨u,v,rfl⟩,le,gp⟩ ke;have hlen:(Fi b f pre).length < SZ:=by
    have:=fk e;unfold Fi; rw [ao]; lia
   have hx:x.2.natAbs < oH:=cL (tY (by rw [e]; simp)) hb;simp only [j7,eA,aC,jP,bq,bo,au,aj,ah,mf,ae,aa,fX,dE,k9];refine⟨⟨hx,hf⟩,?_⟩;refine dB (α:=Int) gp hlen ?_;exact ke _ _ ⟨⟨_,_,rfl⟩,le.put hp,by rw [aA,<-zt b f hd.nd e]⟩
  ·rintro τ G' ⟨⟨u,v,rfl⟩,le,gp⟩;exact hN _ _ ⟨⟨_,_,rfl⟩,le,gp⟩
 ·rintro _ G' ⟨⟨u,v,rfl⟩,le,gp⟩;simp only [cy,cZ,bB,ay,au,ae,aa,aX];refine fY le hp gp ?_;refine⟨_,Fi b f l,rfl,⟨rfl,zu hd.nd b f⟩,by unfold Fi; rw [ao]; exact hl,fun p2 qr=>?_⟩;exact j4 (.new qr) qr aA q
noncomputable def sC:kN:=fun ds G Q _=>∃ (d e:D) (l m:Po),ds=[d,e]/\Pl G d l/\Pl G e m/\l.length * m.length<=SZ/\(mL l < oH/\mL m < oH)/\gx G (.dI (aR (zQ l m))) Q
noncomputable def Fy:ie :=
 (bO (bq iq (aC 2))
 (bO (cO (ib (au 0)) (j7 (eA (aC 3) (eA (aC 4) jP))) (cO (ib (au 1)) (j7 (eA (aC 5) (eA (aC 6) jP))) (bO (bq (bo iH (au 3) (au 5)) (aC 7))
 (bq (bo iH (vB Ow DM (au 2) (ay (au 7) (ay (dC (.int 0)) aX))) (bo zN (au 4) (au 6))) (fX (au 2) (au 7))))))
 (cy (cZ (bB dn (ay (cZ (au 2)) aX))))))
theorem Ld{l pre post:Po}{x:Int×Int}{m mp mq:Po}{y:Int×Int}(e:l=pre++x :: post)(e2:m=mp++y :: mq)(a:Po)(ha:a.length<=pre.length * m.length):(pE mp a x).length < l.length * m.length:=by
 have h1:=FN mp a x;have h2:=fk e;have h3:=fk e2;have h4:(pre.length+1) * m.length<=l.length * m.length:=gE _ h2;rw [Nat.succ_mul] at h4;lia
theorem CC(m:Po):∀ (l:Po),(l.foldl (pE m) []).length<=l.length * m.length:=fun l=>oV l m
theorem Q4(ds:List D)(G:Gp)(Q:DK)(h:sC ds G Q fun _ _=>False):Fy (fun _ _=>False) (ends Q) (bb 8 ds) G:=by
 obtain⟨d,e,l,m,rfl,hd,he,hl,⟨hb,hf⟩,q⟩:=h;unfold Fy;simp only [ends,bb,av,aQ,ai,aB,aU,aL,aO,cM,bq,iq,aC,aj,ah];intro p hp;refine eS (fun τ G'=>(∃ a1 a2 a3 a4 a5,τ=[some d,some e,some (.ref p),a1,a2,a3,a4,a5])/\eY G G'/\G' p=some (.dI (aR (mX l m)))) ?_ ?_
 ·intro N hN;simp only [cO,ib,au,aa];refine jb hd.is (.new hp) fun ok cN=>?_;refine cu (xs:=l) (fun pre τ G'=>(∃ a1 a2 a3 a4 a5,τ=[some d,some e,some (.ref p),a1,a2,a3,a4,a5])/\eY G G'/\G' p=some (.dI (aR (pre.foldl (pE m) [])))) ⟨⟨_,_,_,_,_,rfl⟩,.new hp,aA⟩ (fun pre τ G' h=>cN G' h.2.1) ?_ ?_
  ·rintro pre x post τ G' N2 e1 ⟨⟨a1,a2,a3,a4,a5,rfl⟩,le,gp⟩ ke;have hx:x.2.natAbs < oH:=cL (tY (by rw [e1]; simp)) hb;simp only [j7,eA,aC,jP,cO,ib,au,aj,ah,mf,ae,aa];refine jb he.is le fun ok2 P2=>?_;refine cu (xs:=m) (fun mp τ G'=>(∃ a3 a4 a5,τ=[some d,some e,some (.ref p),some (.int x.1),some (.int x.2),a3,a4,a5])/\eY G G'/\G' p=some (.dI (aR (pE mp (pre.foldl (pE m) []) x)))) ⟨⟨_,_,_,rfl⟩,le,gp⟩ (fun pre τ G' h=>P2 G' h.2.1) ?_ ?_
   ·rintro mp y mq τ G2 N3 e2 ⟨⟨b3,b4,b5,rfl⟩,Gn,Ie⟩ yp;have hlen:=bD (Ld e1 e2 (pre.foldl (pE m) []) (CC m pre)) hl;have hy:y.2.natAbs < oH:=cL (tY (by rw [e2]; simp)) hf;simp only [j7,eA,aC,jP,aj,ah,mf,cM,bq,bo,au,ae,aa,vB,lJ,ay,dC,aX,fX,k9,dE];refine⟨C9 (tG.ref Ie),Lh (tG.ref Ie) ?_⟩;simp only [dE];refine⟨⟨hx,hy⟩,?_⟩;refine dB (α:=Int) Ie hlen ?_;refine yp _ _ ⟨⟨_,_,_,rfl⟩,Gn.put hp,?_⟩;rw [aA]
    conv=>rhs; rw [pE,cF]
    rfl
   ·rintro τ G2 ⟨⟨b3,b4,b5,rfl⟩,Gn,Ie⟩;refine ke _ _ ⟨⟨_,_,_,_,_,rfl⟩,Gn,?_⟩;rw [Ie,cF]; rfl
  ·rintro τ G' ⟨⟨a1,a2,a3,a4,a5,rfl⟩,le,gp⟩;exact hN _ _ ⟨⟨_,_,_,_,_,rfl⟩,le,gp⟩
 ·rintro _ G' ⟨⟨a1,a2,a3,a4,a5,rfl⟩,le,gp⟩;simp only [cy,cZ,bB,ay,au,ae,aa,aX];refine fY le hp gp ?_;refine⟨_,mX l m,rfl,⟨rfl,u5 l m⟩,a9 (oV l m) hl,fun p2 qr=>?_⟩;exact j4 (.new qr) qr aA q
noncomputable def tL:kN:=fun ds G Q _=>∃ (d:D) (l:Po) (n:Nat),ds=[d,.int n]/\Pl G d l/\(n<=1000/\∀ k,k < n->l.length ^ k * l.length<=SZ/\mL l ^ k < oH)/\mL l < oH/\gx G (.dI (aR (eI l n))) Q
noncomputable def Ca:ie :=
 (bO (bq (uT (dC (.int 0)) (dC (.int 1))) (aC 2))
 (bO (cO (uQ (au 1)) (aC 3) (bq (bB sC (ay (cZ (au 2)) (ay (cZ (au 0)) aX))) (aC 2)))
 (cy (cZ (au 2)))))
theorem Nz(ds:List D)(G:Gp)(Q:DK)(h:tL ds G Q fun _ _=>False):Ca (fun _ _=>False) (ends Q) (bb 4 ds) G:=by
 obtain⟨d,l,n,rfl,hd,⟨hn,hk⟩,hb,q⟩:=h;unfold Ca;simp only [ends,bb,av,aQ,ai,aB,aU,aL,aO,cM,bq,uT,dC,aC,aj,ah];refine⟨rfl,fun p0 MV=>?_⟩;refine eS (fun τ G'=>(∃ a p,τ=[some d,some (.int n),some (.ref p),a]/\G p=none/\G' p=some (.dI (aR (eI l n))))/\eY G G') ?_ ?_
 ·intro N hN;simp only [cO,ja,au,ae,aa,hX];refine⟨by lia,by lia,?_⟩;rw [eF];refine JG (fun pre τ G'=>(∃ a p,τ=[some d,some (.int n),some (.ref p),a]/\G p=none/\G' p=some (.dI (aR (eI l pre.length))))/\eY G G') ⟨⟨_,p0,rfl,MV,aA⟩,.new MV⟩ (fun _ _ _ _=>trivial) ?_ ?_
  ·rintro pre x post τ G' N2 e1 ⟨⟨a,p,rfl,hp,gp⟩,le⟩ ke;obtain⟨rfl,xK⟩:=zM e1;obtain⟨h1,h2⟩:=hk pre.length xK;simp only [aC,bq,bB,ay,cZ,au,aj,ah,ae,aa,aX];refine fY le hp gp (fO ?_);refine⟨_,d,eI l pre.length,l,rfl,⟨rfl,nA _ _⟩,hd,a9 (gE _ (qF l _)) h1,⟨cL (qI l _) h2,hb⟩,fun p2 qr=>?_⟩;refine ke _ _ ⟨⟨_,p2,rfl,qr,?_⟩,.new qr⟩;rw [aA,ar]; rfl
  ·rintro τ G' ⟨⟨a,p,rfl,hp,gp⟩,le⟩;rw [show (gH 0 n).length=n by simp [gH]] at gp;exact hN _ _ ⟨⟨_,p,rfl,hp,gp⟩,le⟩
 ·rintro _ G' ⟨⟨a,p,rfl,hp,gp⟩,le⟩;simp only [cy,cZ,au,ae,aa];exact j4 le hp gp q
end Y
end K2
end
section
namespace K2
open PySem (Str)
open Enc (enc)
namespace Y
noncomputable def sQ:ie :=
 (bO (mr (ml (bo Z2 (au 1) (qW AW (ay (au 0) aX)))) (cy (cZ (bo jm (au 0) (au 1)))) gm)
 (cy (cZ (dC (.int 0)))))
noncomputable def oq(ns:List Int)(k:Int):Int:=ns.getD k.toNat 0
noncomputable def eG:kN:=fun ds G Q _=>∃ (ns:List Int) (k:Int),ds=[.ez (ns.map D.int),.int k]/\0<=k/\Q (.int (oq ns k)) G
theorem Ba(ds:List D)(G:Gp)(Q:DK)(h:eG ds G Q fun _ _=>False):sQ (fun _ _=>False) (ends Q) (bb 2 ds) G:=by
 obtain⟨ns,k,rfl,h0,q⟩:=h;unfold sQ;simp only [bO,mr,bb,av,aQ,ai,aB,aL,aO,cy,cZ,bo,au,aa,ae,ends,nQ,gm,dC,fm,qW,ay,aX,ot,tQ,cV];split
 ·rename_i h;have h1:k < (ns.map D.int).length:=by simpa using h
  rw [uq _ h0 h1];simp only [oN];rw [ao] at h1;have e:oq ns k=ns[k.toNat]:=by unfold oq; rw [a8,ax (by lia)]; rfl
  rw [<-e]; exact fO q
 ·rename_i h;have h1:¬ k < (ns.map D.int).length:=by simpa using h
  rw [ao] at h1;have e:oq ns k=0:=by unfold oq; rw [a8,jU (by lia)]; rfl
  rw [<-e]; exact fO q
noncomputable def v9:ie :=
 (cy (cZ (CL (QG "int" (au 0)) (QE (QG "bool" (au 0))))))
noncomputable def fV:kN:=fun ds G Q _=>∃ i:Int,ds=[.int i]/\Q (.bl true) G
theorem EE(ds:List D)(G:Gp)(Q:DK)(h:fV ds G Q fun _ _=>False):v9 (fun _ _=>False) (ends Q) (bb 1 ds) G:=by
 obtain⟨i,rfl,q⟩:=h;unfold v9;simp only [cy,cZ,bb,av,aQ,ai,aB,aL,aO,ends,oh,qj,qV,au,aa,qg,cV];simpa using fO q
noncomputable def yd:ie :=
 (cy (cZ (bo zP (bo zP (bo zO (au 0) (dC (.int 48271))) (au 1)) (au 2))))
noncomputable def pick(c p m:Int):Int:=c * 48271 % p % m
noncomputable def dN:kN:=fun ds G Q _=>∃ c p m:Int,ds=[.int c,.int p,.int m]/\(0 < p/\0 < m)/\Q (.int (pick c p m)) G
theorem HD(ds:List D)(G:Gp)(Q:DK)(h:dN ds G Q fun _ _=>False):yd (fun _ _=>False) (ends Q) (bb 3 ds) G:=by
 obtain⟨c,p,m,rfl,⟨hp,hm⟩,q⟩:=h;unfold yd;simp only [cy,cZ,bo,au,bb,av,aQ,ai,aB,aL,aO,aa,dC,ae,ends,jL,kE];exact⟨.inr ⟨by decide,by decide⟩,hp,hm,fO q⟩
theorem oW(c p:Int){m:Int}(h:0 < m):0<=pick c p m:=mE _ (by lia)
theorem oX(c p:Int){m:Int}(h:0 < m):pick c p m < m:=jF _ h
noncomputable def yc:ie :=
 (bO (mr (wY (ml (QG "dict" (au 0)))) (cy (cZ (dC (.bl false)))) gm)
 (bO (cO (gC (au 0)) (aC 1) (mr (RA (wY (ml (bB fV (ay (au 1) aX)))) (RA (wY (ml (bB fV (ay (bo jm (au 0) (au 1)) aX)))) (ml (bo (FI false) (bo jm (au 0) (au 1)) (dC (.int 0)))))) (cy (cZ (dC (.bl false)))) gm))
 (cy (cZ (dC (.bl true))))))
noncomputable def oR:kN:=fun ds G Q _=>∃ (d:D) (l:Po),ds=[d]/\Pl G d l/\NZ l/\Q (.bl true) G
theorem HC(ds:List D)(G:Gp)(Q:DK)(h:oR ds G Q fun _ _=>False):yc (fun _ _=>False) (ends Q) (bb 2 ds) G:=by
 obtain⟨d,l,rfl,hd,hz,q⟩:=h;unfold yc;refine eS (fun τ G'=>τ=[some d,none]/\G=G') ?_ ?_
 ·intro N hN;simp only [mr,wY,bb,av,aQ,ai,aB,aU,aL,aO,cy,cZ,dC,ends,gm,fm,qV,au,aa];refine PS (G:=G) hd.is.p ?_;simp only [beq_self_eq_true,cV,dg,aJ,if_false];exact hN _ _ ⟨rfl,rfl⟩
 rintro _ _ ⟨rfl,rfl⟩;refine eS (fun τ G'=>(∃ a,τ=[some d,a])/\G=G') ?_ ?_
 ·intro N hN;simp only [cO,gC,au,aa,ends];refine lz hd.is (.refl _) fun ok cN=>?_;refine cu (xs:=l) (fun pre τ G'=>(∃ a,τ=[some d,a])/\G=G') ⟨⟨_,rfl⟩,rfl⟩ (fun pre τ G' h=>cN G' (by rw [<-h.2]; exact .refl _)) ?_ ?_
  ·rintro pre x post τ G' N2 e ⟨⟨a,rfl⟩,rfl⟩ ke;have hm:x∈l:=by rw [e]; simp
   have hx:=iN hd.nd hm;simp only [aC,mr,RA,wY,aj,ah,cy,cZ,dC,gm,if_true,fm,bo,au,aa,ae,bB,ay,aX];refine⟨_,rfl,?_⟩;simp only [cV,dg,aJ,if_false];refine uP hd.is.p hx ⟨x.2,rfl,?_⟩;simp only [cV,dg,aJ,if_false];refine uP hd.is.p hx ⟨_,_,.int _,.int _,?_⟩;simp only [aJ,Ei,hz x hm,decide_false,fT,if_false,cV];exact ke _ _ ⟨⟨_,rfl⟩,rfl⟩
  ·rintro τ G' ⟨⟨a,rfl⟩,rfl⟩;exact hN _ _ ⟨⟨_,rfl⟩,rfl⟩
 ·rintro _ _ ⟨⟨a,rfl⟩,rfl⟩;simp only [cy,cZ,dC,ends];exact fO q
noncomputable def wb:ie :=
 (bO (bq iq (aC 1))
 (bO (cO (gC (au 0)) (aC 2) (mr (ml (bo (FI true) (bo jm (au 0) (au 2)) (dC (.int 0)))) (bq (bo jm (au 0) (au 2)) (fX (au 1) (au 2))) gm))
 (cy (cZ (au 1)))))
noncomputable def fC:kN:=dn
theorem EG(ds:List D)(G:Gp)(Q:DK)(h:fC ds G Q fun _ _=>False):wb (fun _ _=>False) (ends Q) (bb 3 ds) G:=by
 obtain⟨d,l,rfl,hd,hl,q⟩:=h;unfold wb;simp only [ends,bb,av,aQ,ai,aB,aU,aL,aO,cM,bq,iq,aC,aj,ah];intro p hp;refine eS (fun τ G'=>(∃ a,τ=[some d,some (.ref p),a])/\eY G G'/\G' p=some (.dI (aR (gk l)))) ?_ ?_
 ·intro N hN;simp only [cO,gC,au,aa];refine lz hd.is (.new hp) fun ok cN=>?_;refine cu (xs:=l) (fun pre τ G'=>(∃ a,τ=[some d,some (.ref p),a])/\eY G G'/\G' p=some (.dI (aR (gk pre)))) ⟨⟨_,rfl⟩,.new hp,aA⟩ (fun pre τ G' h=>cN G' h.2.1) ?_ ?_
  ·rintro pre x post τ G' N2 e ⟨⟨a,rfl⟩,le,gp⟩ ke;have hlen:(gk pre).length < SZ:=by
    have:=lr pre;have:=fk e; lia
   have hm:x∈l:=by rw [e]; simp
   have hx:=iN hd.nd hm;simp only [aC,mr,aj,ah,bq,bo,au,aa,ae,fX,gm,fm,dC];refine uP hd.is.p hx ⟨_,_,.int _,.int _,?_⟩;simp only [Ei,if_true,cV];by_cases hz:x.2=0
   ·simp only [hz,decide_true,dg,aJ,if_false];exact ke _ _ ⟨⟨_,rfl⟩,le,by rw [zU hz]; exact gp⟩
   ·simp only [hz,decide_false,fT,if_true];refine uP hd.is.p hx ?_;refine dB (α:=Int) gp hlen ?_;exact ke _ _ ⟨⟨_,rfl⟩,le.put hp,by rw [aA,<-zT hd.nd e hz]⟩
  ·rintro τ G' ⟨⟨a,rfl⟩,le,gp⟩;exact hN _ _ ⟨⟨_,rfl⟩,le,gp⟩
 ·rintro _ G' ⟨⟨a,rfl⟩,le,gp⟩;simp only [cy,cZ,au,ae,aa];exact j4 le hp gp q
noncomputable def sO:ie :=
 (bO (bq iq (aC 2))
 (bO (cO (gC (au 0)) (aC 3) (cO (gC (au 1)) (aC 4) (bq (bo iH (vB Ow DM (au 2) (ay (bo iH (au 3) (au 4)) (ay (dC (.int 0)) aX))) (bo zN (bo jm (au 0) (au 3)) (bo jm (au 1) (au 4)))) (fX (au 2) (bo iH (au 3) (au 4))))))
 (cy (cZ (bB fC (ay (cZ (au 2)) aX))))))
noncomputable def kr:kN:=sC
theorem A8(ds:List D)(G:Gp)(Q:DK)(h:kr ds G Q fun _ _=>False):sO (fun _ _=>False) (ends Q) (bb 5 ds) G:=by
 obtain⟨d,e,l,m,rfl,hd,he,hl,⟨hb,hf⟩,q⟩:=h;unfold sO;simp only [ends,bb,av,aQ,ai,aB,aU,aL,aO,cM,bq,iq,aC,aj,ah];intro p hp;refine eS (fun τ G'=>(∃ a1 a2,τ=[some d,some e,some (.ref p),a1,a2])/\eY G G'/\G' p=some (.dI (aR (mX l m)))) ?_ ?_
 ·intro N hN;simp only [cO,gC,au,aa];refine lz hd.is (.new hp) fun ok cN=>?_;refine cu (xs:=l) (fun pre τ G'=>(∃ a1 a2,τ=[some d,some e,some (.ref p),a1,a2])/\eY G G'/\G' p=some (.dI (aR (pre.foldl (pE m) [])))) ⟨⟨_,_,rfl⟩,.new hp,aA⟩ (fun pre τ G' h=>cN G' h.2.1) ?_ ?_
  ·rintro pre x post τ G' N2 e1 ⟨⟨a1,a2,rfl⟩,le,gp⟩ ke;have hm1:x∈l:=by rw [e1]; simp
   have hx:x.2.natAbs < oH:=cL (tY hm1) hb;simp only [aC,cO,gC,au,aj,ah,ae,aa];refine lz he.is le fun ok2 P2=>?_;refine cu (xs:=m) (fun mp τ G'=>(∃ a2,τ=[some d,some e,some (.ref p),some (.int x.1),a2])/\eY G G'/\G' p=some (.dI (aR (pE mp (pre.foldl (pE m) []) x)))) ⟨⟨_,rfl⟩,le,gp⟩ (fun pre τ G' h=>P2 G' h.2.1) ?_ ?_
   ·rintro mp y mq τ G2 N3 e2 ⟨⟨b2,rfl⟩,Gn,Ie⟩ yp;have Ia:y∈m:=by rw [e2]; simp
    have hlen:=bD (Ld e1 e2 (pre.foldl (pE m) []) (CC m pre)) hl;have hy:y.2.natAbs < oH:=cL (tY Ia) hf;simp only [aC,bq,bo,vB,au,aj,ah,ae,aa,lJ,ay,dC,aX,fX,dE];refine⟨C9 (tG.ref Ie),Lh (tG.ref Ie) ?_⟩;refine uP hd.is.p (iN hd.nd hm1) (uP he.is.p (iN he.nd Ia) ?_);refine⟨⟨hx,hy⟩,?_⟩;refine dB (α:=Int) Ie hlen ?_;refine yp _ _ ⟨⟨_,rfl⟩,Gn.put hp,?_⟩;rw [aA]
    conv=>rhs; rw [pE,cF]
    rfl
   ·rintro τ G2 ⟨⟨b2,rfl⟩,Gn,Ie⟩;refine ke _ _ ⟨⟨_,_,rfl⟩,Gn,?_⟩;rw [Ie,cF]; rfl
  ·rintro τ G' ⟨⟨a1,a2,rfl⟩,le,gp⟩;exact hN _ _ ⟨⟨_,_,rfl⟩,le,gp⟩
 ·rintro _ G' ⟨⟨a1,a2,rfl⟩,le,gp⟩;simp only [cy,cZ,bB,ay,au,ae,aa,aX];refine fY le hp gp ?_;refine⟨_,mX l m,rfl,⟨rfl,u5 l m⟩,a9 (oV l m) hl,fun p2 qr=>?_⟩;exact j4 (.new qr) qr aA q
end Y
end K2
end
section
namespace K2
open PySem (Str)
open Enc (enc)
namespace T
noncomputable abbrev Tb:=List (List Int)
structure HL(G G':Gp)(p0:Nat)(as:List Nat)(rs:List (List D)):Prop where
 le:eY G G'
 fp:G p0=none
 gp:G' p0=some (.lst (as.map D.ref))
 np:p0∉as
 nd:as.Nodup
 fr:∀ a∈as,G a=none
 len:as.length=rs.length
 at':∀ (i a:Nat) (r:List D),as[i]?=some a->rs[i]?=some r->G' a=some (.lst r)
theorem HL.ext{G G' G'':Gp}{p0:Nat}{as:List Nat}{rs:List (List D)}(h:HL G G' p0 as rs)(l:eY G' G''):HL G G'' p0 as rs :=
 ⟨h.le.trans l,h.fp,l _ _ h.gp,h.np,h.nd,h.fr,h.len,fun i a r h1 h2=>l _ _ (h.at' i a r h1 h2)⟩
theorem HL.row{G G':Gp}{p0:Nat}{as:List Nat}{rs:List (List D)}(h:HL G G' p0 as rs){i:Nat}{r:List D}(hr:rs[i]?=some r):∃ a,as[i]?=some a/\G' a=some (.lst r)/\vC (as.map D.ref) (i:Int)=some (.ref a):=by
 have hi:i < as.length:=by rw [h.len]; exact(List.getElem?_eq_some_iff.mp hr).1
 refine⟨as[i],ax hi,h.at' i _ r (ax hi) hr,?_⟩;rw [uq _ (by lia) (by rw [ao]; lia)];simp
theorem Pp{as:List Nat}(hn:as.Nodup){i j a:Nat}(h1:as[i]?=some a)(h2:as[j]?=some a):i=j:=by
 have g1:=List.getElem?_eq_some_iff.mp h1;have g2:=List.getElem?_eq_some_iff.mp h2;have pw:=List.pairwise_iff_getElem.mp hn;rcases Nat.lt_trichotomy i j with lt | eq | gt
 ·exact absurd (g1.2.trans g2.2.symm) (pw i j g1.1 g2.1 lt)
 ·exact eq
 ·exact absurd (g2.2.trans g1.2.symm) (pw j i g2.1 g1.1 gt)
theorem Pn{as:List Nat}(h:∀ i k a:Nat,i < k->as[i]?=some a->as[k]?=some a->False):as.Nodup:=by
 refine List.pairwise_iff_getElem.mpr fun i k hi hk hik z=>?_;exact h i k as[i] hik (ax hi) (by rw [ax hk,z])
theorem HL.OU{G G':Gp}{p0:Nat}{as:List Nat}{rs:List (List D)}(h:HL G G' p0 as rs){j a:Nat}{r':List D}(hj:j < as.length)(ga:G' a=some (.lst r'))(na:a∉as)(fa:G a=none)(np:a≠p0):HL G (c7 G' p0 (.lst ((as.set j a).map D.ref))) p0 (as.set j a) (rs.set j r'):=by
 have NR:∀ b,b∈as.set j a->b=a\/b∈as:=fun b hb=>by
  rcases KA hb with z | z
  ·exact .inr z
  ·exact .inl z
 refine⟨h.le.put h.fp,h.fp,aA,fun z=>?_,?_,fun b hb=>?_,by rw [gT,gT]; exact h.len,fun i b r hb hr=>?_⟩
 ·rcases NR _ z with z | z
  ·exact np z.symm
  ·exact h.np z
 ·refine Pn fun i k b hik h1 h2=>?_;by_cases e1:j=i
  ·subst e1;rw [da hj] at h1;rw [eQ (by lia)] at h2;cases h1;exact na (fy h2)
  ·rw [eQ e1] at h1;by_cases e2:j=k
   ·subst e2;rw [da hj] at h2;cases h2;exact na (fy h1)
   ·rw [eQ e2] at h2;have:=Pp h.nd h1 h2;lia
 ·rcases NR b hb with z | z
  ·rw [z]; exact fa
  ·exact h.fr b z
 ·have hb0:b≠p0:=by
   rintro rfl;rcases NR b (fy hb) with z | z
   ·exact np z.symm
   ·exact h.np z
  rw [c6 hb0];by_cases e:j=i
  ·subst e;rw [da hj] at hb;rw [da (by rw [<-h.len]; exact hj)] at hr;cases hb; cases hr;exact ga
  ·rw [eQ e] at hb hr;exact h.at' i b r hb hr
theorem HL.fz{G G':Gp}{p0:Nat}{as:List Nat}{rs:List (List D)}(h:HL G G' p0 as rs){Q:DK}(q:Q (.ez (rs.map D.ez)) G):Rf G' (.ref p0) Q:=by
 refine qR h.le h.fp h.gp (ss:=rs.map D.ez) ?_ q;have:∀ (as:List Nat) (rs:List (List D)),as.length=rs.length->(∀ a∈as,G a=none)->(∀ (i a:Nat) (r:List D),as[i]?=some a->rs[i]?=some r->G' a=some (.lst r))->EY G' (fun a=>(G a).isNone) (as.map D.ref) (rs.map D.ez):=by
  intro as;induction as with
  | nil=>intro rs hl _ _; cases rs with
   | nil=>exact .nil
   | cons _ _=>cases hl
  | cons a as ih =>
   intro rs hl hf Ib;cases rs with
   | nil=>cases hl
   | cons r rs =>
    refine .cons (.ref (Ib 0 a r rfl rfl) (by simp [hf a (by simp)]) (EY.same _)) ?_;exact ih rs (by simpa using hl) (fun b hb=>hf b (aK _ hb)) fun i b s h1 h2=>Ib (i+1) b s h1 h2
 exact this as rs h.len h.fr h.at'
end T
end K2
end
section
namespace K2
open PySem (Str)
open Enc (enc)
namespace Kn
open K2.T
open K2.P (names handOf UJ jh kc k7)
open K2.Y (oq pick oW oX eG fV dN iS fk)
theorem kI{α:Type} [DecidableEq α] [Enc α](rs:List (List α)):(enc rs:D)=.ez ((rs.map fun r=>r.map enc).map D.ez):=by
 show D.ez _=_;rw [bA]; rfl
noncomputable def ye:ie :=
 (cy (cZ (gO 1 [] (kR (au 0)) (aC 0) none (qW AV (ay (au 0) aX)))))
noncomputable def gh:kN:=fun ds G Q _=>∃ rs:List (List D),ds=[.ez (rs.map D.ez)]/\rs.length<=1000/\∀ G' p0 as,HL G G' p0 as rs->Q (.ref p0) G'
theorem HE(ds:List D)(G:Gp)(Q:DK)(h:gh ds G Q fun _ _=>False):ye (fun _ _=>False) (ends Q) (bb 1 ds) G:=by
 obtain⟨rs,rfl,hl,q⟩:=h;unfold ye;simp only [cy,cZ,gO,bb,av,aQ,ai,aB,aL,aO,ends,dF,au,aa,jo];refine⟨ET (by rw [ao]; exact hl),?_⟩;refine kK (xs:=rs) (fun pre acc τ G'=>(∃ a,τ=[a])/\∃ as:List Nat,acc=as.map D.ref/\eY G G'/\as.Nodup/\(∀ a∈as,G a=none)/\as.length=pre.length/\(∀ (i a:Nat) (r:List D),as[i]?=some a->pre[i]?=some r->G' a=some (.lst r))) ?_ (fun _ _ _ _ _=>trivial) ?_ ?_
 ·exact⟨⟨_,rfl⟩,[],rfl,.refl G,dv,fun _ h=>by(cases h),rfl,fun i a r h=>by simp at h⟩
 ·rintro pre r post acc τ G' N e ⟨⟨a,rfl⟩,as,rfl,le,nd,fr,ln,Ib⟩ hN;simp only [aC,qW,ay,au,ah,aa,aX];refine QQ (IsL.ez) fun p hp=>?_;have hna:p∉as:=fun z=>by
   obtain⟨i,hi⟩:=pB z;have h1:i < pre.length:=by rw [<-ln]; exact(List.getElem?_eq_some_iff.mp hi).1
   have:=Ib i p pre[i] hi (ax h1);rw [hp] at this; cases this
  refine hN _ _ _ ⟨⟨_,rfl⟩,as++[p],by simp,le.trans (.new hp),?_,fun b hb=>?_,by rw [ar,ar,ln]; rfl,fun i b r2 h1 h2=>?_⟩
  ·rw [cE];exact⟨nd,by simp,fun x hx y hy=>by rw [bN] at hy; subst hy; intro z; exact hna (z ▸ hx)⟩
  ·rcases List.mem_append.mp hb with z | z
   ·exact fr b z
   ·rw [bN] at z; rw [z]; exact le.free hp
  ·by_cases hi:i < as.length
   ·rw [bS hi] at h1;rw [bS (by rw [<-ln]; exact hi)] at h2;have:=Ib i b r2 h1 h2;exact(eY.new hp) _ _ this
   ·rw [bH (by lia)] at h1;rw [bH (by lia)] at h2;have:i - as.length=0:=by
     have:=(List.getElem?_eq_some_iff.mp h1).1;simp at this; lia
    rw [this] at h1;rw [show i - pre.length=0 by lia] at h2;simp at h1 h2;subst h1 h2;exact aA
 ·rintro acc τ G' ⟨⟨a,rfl⟩,as,rfl,le,nd,fr,ln,Ib⟩ p hp;have hna:p∉as:=fun z=>by
   obtain⟨i,hi⟩:=pB z;have h1:i < rs.length:=by rw [<-ln]; exact(List.getElem?_eq_some_iff.mp hi).1
   have:=Ib i p rs[i] hi (ax h1);rw [hp] at this; cases this
  refine fO (q _ p as ⟨le.trans (.new hp),le.free hp,aA,hna,nd,fr,ln,fun i b r h1 h2=>?_⟩);exact(eY.new hp) _ _ (Ib i b r h1 h2)
noncomputable def lX:ie :=
 (bO (J3 (ml (bo (NN false) (au 1) (au 0))) (bq (bo iH (bo zP (au 1) (dC (.int 999))) (dC (.int 1))) (aC 1)))
 (cy (cZ (au 1))))
noncomputable def Y4(n:Int):Int:=n % 999+1
noncomputable def fit(n:Int):Nat->Int
 | 0=>n
 | k+1=>Y4 (fit n k)
theorem AI{n:Int}(h1:1<=n)(h2:n<=999):∀ k:Nat,fit n k=(n - 1+k) % 999+1
 | 0=>by show n=_; lia
 | k+1=>by
  show Y4 (fit n k)=_;rw [AI h1 h2 k];unfold Y4;lia
theorem Qn{n:Int}{ns:List Int}(h1:1<=n)(h2:n<=999)(hl:ns.length<=500):∃ k,k<=ns.length/\fit n k∉ns:=by
 apply dD;intro XC;have nY:∀ k,k<=ns.length->fit n k∈ns:=fun k hk=>dD fun z=>XC ⟨k,hk,z⟩;have nd:((c9 (ns.length+1)).map fun k=>fit n k).Nodup:=by
  refine List.pairwise_iff_getElem.mpr fun i j hi hj MX=>?_;simp only [ao,ka] at hi hj;rw [oN,oN,rO,rO,AI h1 h2,AI h1 h2];lia
 have:=iS _ ns nd fun x hx=>by
  obtain⟨k,hk,rfl⟩:=List.mem_map.mp hx;exact nY k (by have:=List.mem_range.mp hk; lia)
 simp at this;lia
noncomputable def fu:kN:=fun ds G Q _=>∃ (d:D) (ns:List Int) (n:Int),ds=[d,.int n]/\IsL G d (ns.map D.int)/\(ns.length<=500/\1<=n/\n<=999)/\∀ m:Int,m∉ns->1<=m->m<=999->Q (.int m) G
theorem FF{G:Gp}{d:D}{ns:List Int}{i:Int}{Q:DK}(h:IsL G d (ns.map D.int))(k:Q (.bl (decide (i∈ns))) G):NN false (.int i) d G Q:=by
 have e:(ns.map D.int).any (fun x=>i5 x (.int i))=decide (i∈ns):=EB ns i;rcases h with rfl | ⟨a,rfl,g⟩
 ·refine⟨.int i,ns.map D.int,.int _,Sn.rI ns,?_⟩;simp only [aJ,if_false];rw [e]; exact k
 ·unfold NN;simp only [g];refine⟨.int i,ns.map D.int,.int _,Sn.rI ns,?_⟩;simp only [aJ,if_false];rw [e]; exact k
theorem pf(ds:List D)(G:Gp)(Q:DK)(h:fu ds G Q fun _ _=>False):lX (fun _ _=>False) (ends Q) (bb 2 ds) G:=by
 obtain⟨d,ns,n,rfl,hd,⟨hl,h1,h2⟩,q⟩:=h;unfold lX;refine eS (fun τ G'=>G=G'/\∃ m:Int,(m∉ns/\1<=m/\m<=999)/\τ=[some d,some (.int m)]) ?_ ?_
 ·intro N hN;obtain⟨k,hk,rD⟩:=Qn h1 h2 hl;have main:∀ (j:Nat),j<=k->Fb (ml (bo (NN false) (au 1) (au 0))) (bq (bo iH (bo zP (au 1) (dC (.int 999))) (dC (.int 1))) (aC 1)) (j+1) (fun _ _=>False) { ends Q with nx:=N } [some d,some (.int (fit n (k - j)))] G:=by
   intro j;induction j with
   | zero =>
    intro _;show Fb _ _ (0+1) _ _ _ _;rw [Fb];simp only [bq,bo,au,ae,aa,dC,aC,ends,aj,ah,kE,dE,fm];refine FF hd ?_;simp only [Nat.sub_zero,rD,decide_false,cV,aJ,if_false];have:=AI h1 h2 k;exact hN _ _ ⟨rfl,_,⟨rD,by lia,by lia⟩,rfl⟩
   | succ j ih =>
    intro hj;rw [Fb];simp only [bq,bo,au,ae,aa,dC,aC,ends,aj,ah,kE,dE,fm];refine FF hd ?_;have hb:=AI h1 h2 (k - (j+1));by_cases hm:fit n (k - (j+1))∈ns
    ·simp only [hm,decide_true,cV,if_true];refine⟨by decide,?_⟩;have e:fit n (k - (j+1)) % 999+1=fit n (k - j):=by
      rw [show k - j=(k - (j+1))+1 by lia]; rfl
     rw [e];exact ih (by lia)
    ·simp only [hm,decide_false,cV,aJ,if_false];exact hN _ _ ⟨rfl,_,⟨hm,by lia,by lia⟩,rfl⟩
  have:=main k (aF _);rw [EN] at this;exact⟨k+1,this⟩
 ·rintro _ _ ⟨rfl,m,⟨m1,m2,m3⟩,rfl⟩;simp only [cy,cZ,au,ae,aa,ends];exact fO (q m m1 m2 m3)
noncomputable def zJ:ie :=
 (bO (bq (bB gh (ay (au 0) aX)) (aC 4))
 (bO (bq (bo zP (au 2) (bo iH (qW AW (ay (bo jm (au 4) (au 1)) aX)) (dC (.int 1)))) (aC 2))
 (bO (bq (bo iH (bo iH (BN (bo jm (au 4) (au 1)) fZ (rG (au 2))) (au 3)) (BN (bo jm (au 4) (au 1)) (rG (au 2)) fZ)) (fX (au 4) (au 1)))
 (cy (cZ (au 4))))))
noncomputable def i7:kN:=fun ds G Q _=>∃ (rows:Rows) (i:Nat) (pl:Int) (p:T3),ds=[enc rows,.int i,.int pl,enc [p]]/\(i < rows.length/\rows.length<=1000/\∀ r∈rows,r.length<=500)/\∀ (r:List T3) (k:Nat),rows[i]?=some r->k<=r.length->Q (enc (rows.set i (r.take k++p :: r.drop k))) G
theorem Kk(ds:List D)(G:Gp)(Q:DK)(h:i7 ds G Q fun _ _=>False):zJ (fun _ _=>False) (ends Q) (bb 5 ds) G:=by
 obtain⟨rows,i,pl,p,rfl,⟨hi,hl,hr⟩,q⟩:=h;unfold zJ;simp only [ends,bb,av,aQ,ai,aB,aU,aL,aO,cM,bq,bB,ay,au,aa,aX,aC,aj,ah,bo,ae,qW,dC,BN,fZ,fX,cy,cZ,jc];refine⟨rows.map fun r=>r.map enc,by rw [kI],by rw [ao]; exact hl,fun G1 p0 as h1=>?_⟩;obtain⟨r,er⟩:∃ r,rows[i]?=some r:=⟨rows[i],ax hi⟩;have hrl:=hr r (fy er);obtain⟨a,ea,ga,ia⟩:=h1.row (i:=i) (r:=r.map enc) (by rw [bz,er]; rfl);refine u3 (IsL.ref h1.gp) ia (LK (IsL.ref ga) ?_);simp only [ao,dE,kE,fP];refine⟨by lia,?_⟩;have c1:0<=pl % ((r.length:Int)+1):=mE _ (by lia);have c2:pl % ((r.length:Int)+1) < (r.length:Int)+1:=jF _ (by lia);generalize pl % ((r.length:Int)+1)=c at c1 c2;obtain⟨k,rfl⟩:∃ k:Nat,c=(k:Int):=⟨c.toNat,by lia⟩;have hk:k<=r.length:=by lia
 refine u3 (IsL.ref h1.gp) ia (Dq (IsL.ref ga) fun p1 f1=>?_);rw [QK _ _ (by rw [ao]; exact hk),<-List.map_take];have l1:=eY.new (o:=.lst ((r.take k).map enc)) f1;refine yM (IsL.ref aA) (IsL.enc [p]) (by rw [ao,ao,eB]; exact ET (by simp; lia)) fun p2 f2=>?_;have l2:=eY.new (o:=.lst ((r.take k).map enc++[p].map enc)) f2;have YQ:=l1.trans l2;refine u3 (IsL.ref (YQ _ _ h1.gp)) ia (Dq (IsL.ref (YQ _ _ ga)) fun p3 f3=>?_);rw [Hn _ _ (by rw [ao]; exact hk),<-List.map_drop];have l3:=eY.new (o:=.lst ((r.drop k).map enc)) f3;refine yM (IsL.ref (l3 _ _ aA)) (IsL.ref aA) (by simp only [ar,ao,eB,cI,ai,aB]; exact ET (by lia)) fun p4 f4=>?_;have e4:(r.take k).map enc++[p].map enc++(r.drop k).map enc=(r.take k++p :: r.drop k).map (enc (α:=T3)):=by simp
 rw [e4];have l4:=eY.new (o:=.lst ((r.take k++p :: r.drop k).map enc)) f4;have h4:=h1.ext ((YQ.trans l3).trans l4);have hn:∀ o,G1 p4≠some o:=fun o z=>by
  have:=(YQ.trans l3) _ _ z;rw [f4] at this; cases this
 have n4:p4∉as:=fun z=>by
  obtain⟨j,hj⟩:=pB z;have Wr:j < (rows.map fun r=>r.map (enc (α:=T3))).length:=by rw [<-h1.len]; exact(List.getElem?_eq_some_iff.mp hj).1
  exact hn _ (h1.at' j p4 _ hj (ax Wr))
 have n0:p4≠p0:=fun z=>hn _ (by rw [z]; exact h1.gp);have hf4:G p4=none:=by
  cases e:G p4 with
  | none=>rfl
  | some o=>exact absurd (h1.le _ _ e) (hn o)
 have hj:i < as.length:=(List.getElem?_eq_some_iff.mp ea).1;have h5:=h4.OU (r':=(r.take k++p :: r.drop k).map enc) hj aA n4 hf4 n0;unfold zx;simp only [h4.gp];have ei:Ju (as.map D.ref).length (i:Int)=some i:=by
  unfold Ju;rw [if_pos (by lia),if_pos (by rw [ao]; lia)]; simp
 simp only [ei];have es:(as.map D.ref).set i (.ref p4)=(as.set i p4).map D.ref:=by rw [List.map_set]
 rw [es];refine h5.fz ?_;have e6:D.ez (((rows.map fun r=>r.map enc).set i ((r.take k++p :: r.drop k).map enc)).map D.ez)=enc (rows.set i (r.take k++p :: r.drop k)):=by
  rw [kI,<-List.map_set]
 rw [e6];exact q r k er hk
noncomputable abbrev dT(t:Tb):List (List D):=t.map fun r=>r.map D.int
structure Lk(rows:Rows):Prop where
 dr:Dr rows
 sp:∀ n∈names rows,∀ w:Int,w=0\/w=1->(∃ p∈rows.zipIdx 0,(⟨n,w⟩:T2)∈jh p.1 (p.2:Int))/\UJ rows ⟨n,w⟩ < rows.length
 hd:∀ n∈names rows,∃ p∈rows.flatten,p.a=n
noncomputable def wr(rows:Rows):Int:=((names rows).map (handOf rows)).sum
end Kn
end K2
end
section
namespace K2
open PySem (Str)
open Enc (enc)
namespace Kn
open K2.T
open K2.P (names handOf UJ jh kc k7)
open K2.Y (oq pick oW oX eG fV dN iS fk)
structure Cr where
 n:Int
 i:Nat
 j:Nat
 h:Int
noncomputable def Cr.ps(c:Cr):List T3:=[⟨c.n,0,c.h⟩,⟨c.n,1,c.h⟩]
noncomputable def flat(cs:List Cr):List T3:=cs.flatMap Cr.ps
structure CR(S:Nat)(rows:Rows)(cs:List Cr):Prop where
 len:rows.length=S
 perm:rows.flatten.Perm (flat cs)
 nd:(cs.map Cr.n).Nodup
 hand:∀ c∈cs,c.h=1\/c.h=-1
 ix:∀ c∈cs,c.i < S/\c.j < S
 NU:∀ c∈cs,∃ r,rows[c.i]?=some r/\(⟨c.n,0,c.h⟩:T3)∈r
 NT:∀ c∈cs,∃ r,rows[c.j]?=some r/\(⟨c.n,1,c.h⟩:T3)∈r
 oG:cs.length<=12
theorem zv{x:T3}{r r':List T3}(hr:r'.Perm (x :: r)):∀ (rs:Rows) (j:Nat),rs[j]?=some r->(rs.set j r').flatten.Perm (x :: rs.flatten)
 | [],j,h=>by cases h
 | s :: rs,0,h=>by
  cases h;rw [ah,cG,cG];exact hr.append_right _
 | s :: rs,j+1,h=>by
  rw [aj,cG,cG];exact((zv hr rs j h).append_left s).trans List.perm_middle
theorem wI(r:List T3)(k:Nat)(p:T3):(r.take k++p :: r.drop k).Perm (p :: r):=by
 refine List.perm_middle.trans ?_;rw [xj]
theorem wJ{rows:Rows}{i k:Nat}{r:List T3}{p q:T3}(hr:rows[i]?=some r){m:Nat}(h:∃ s,rows[m]?=some s/\q∈s):∃ s,(rows.set i (r.take k++p :: r.drop k))[m]?=some s/\q∈s:=by
 obtain⟨s,h1,h2⟩:=h;by_cases e:i=m
 ·subst e;rw [hr] at h1; cases h1;exact⟨_,da (List.getElem?_eq_some_iff.mp hr).1,(wI r k p).mem_iff.mpr (aK _ h2)⟩
 ·exact⟨s,by rw [eQ e]; exact h1,h2⟩
theorem Lq{rows:Rows}{i k:Nat}{r:List T3}{p:T3}(hr:rows[i]?=some r):∃ s,(rows.set i (r.take k++p :: r.drop k))[i]?=some s/\p∈s :=
 ⟨_,da (List.getElem?_eq_some_iff.mp hr).1,(wI r k p).mem_iff.mpr (bJ ..)⟩
theorem CR.nil(S:Nat):CR S (aU S []) [] where
 len:=by simp
 perm:=by
  have:(aU S ([]:List T3)).flatten=[]:=by
   rw [List.flatten_eq_nil_iff]; intro l hl; exact(List.mem_replicate.mp hl).2
  rw [this]; exact .refl _
 nd:=dv
 hand:=fun _ h=>by cases h
 ix:=fun _ h=>by cases h
 NU:=fun _ h=>by cases h
 NT:=fun _ h=>by cases h
 oG:=by simp
theorem CR.step{S:Nat}{rows:Rows}{cs:List Cr}(h:CR S rows cs){c:Cr}(hf:cs.length < 12)(hn:c.n∉cs.map Cr.n)(hh:c.h=1\/c.h=-1)(hi:c.i < S)(hj:c.j < S){r r':List T3}{k k':Nat}(hr:rows[c.i]?=some r)
  (Vr:(rows.set c.i (r.take k++⟨c.n,0,c.h⟩ :: r.drop k))[c.j]?=some r'):CR S ((rows.set c.i (r.take k++⟨c.n,0,c.h⟩ :: r.drop k)).set c.j (r'.take k'++⟨c.n,1,c.h⟩ :: r'.drop k')) (cs++[c]) where
 len:=by rw [gT,gT]; exact h.len
 perm:=by
  refine(zv (wI r' k' _) _ _ Vr).trans ?_;refine((zv (wI r k _) _ _ hr).cons _).trans ?_;refine((h.perm.cons _).cons _).trans ?_;unfold flat;rw [i0];show Rn (⟨c.n,1,c.h⟩ :: ⟨c.n,0,c.h⟩ :: _) (_++([c].flatMap Cr.ps));refine(List.Perm.swap _ _ _).trans ?_;exact Rm (l₁:=([⟨c.n,0,c.h⟩,⟨c.n,1,c.h⟩]:List T3))
 nd:=by
  rw [aT,cE];exact⟨h.nd,by simp,fun a ha b hb=>by simp at hb; subst hb; intro z; exact hn (z ▸ ha)⟩
 hand:=fun d hd=>by
  rcases List.mem_append.mp hd with z | z
  ·exact h.hand d z
  ·rw [bN] at z; subst z; exact hh
 ix:=fun d hd=>by
  rcases List.mem_append.mp hd with z | z
  ·exact h.ix d z
  ·rw [bN] at z; subst z; exact⟨hi,hj⟩
 NU:=fun d hd=>by
  rcases List.mem_append.mp hd with z | z
  ·exact wJ Vr (wJ hr (h.NU d z))
  ·rw [bN] at z; subst z; exact wJ Vr (Lq hr)
 NT:=fun d hd=>by
  rcases List.mem_append.mp hd with z | z
  ·exact wJ Vr (wJ hr (h.NT d z))
  ·rw [bN] at z; subst z; exact Lq Vr
 oG:=by rw [ar,cW]; lia
theorem Pu{cs:List Cr}{p:T3}:p∈flat cs↔∃ c∈cs,p∈c.ps:=EO
theorem LA:∀ (cs:List Cr),(cs.map Cr.n).Nodup->((flat cs).map T3.s).Nodup
 | [],_=>dv
 | c :: cs,h=>by
  rw [av,eV] at h;have ih:=LA cs h.2;unfold flat at *;rw [cR,aT];have nin:∀ w:Int,(⟨c.n,w⟩:T2)∉(cs.flatMap Cr.ps).map T3.s:=fun w z=>by
   obtain⟨p,hp,e⟩:=List.mem_map.mp z;obtain⟨d,hd,hpd⟩:=List.mem_flatMap.mp hp;have:p.a=d.n:=by
    simp only [Cr.ps,bQ,bL,or_false] at hpd;rcases hpd with rfl | rfl <;> rfl
   have e2:p.a=c.n:=congrArg T2.a e;exact h.1 (List.mem_map.mpr ⟨d,hd,by rw [<-this,e2]⟩)
  show List.Nodup ((⟨c.n,0⟩:T2) :: ⟨c.n,1⟩ :: (cs.flatMap Cr.ps).map T3.s);rw [eV,eV];refine⟨fun z=>?_,nin 1,ih⟩;rcases List.mem_cons.mp z with z | z
  ·have:=congrArg T2.b z; exact absurd this (by show ¬ (0:Int)=1; decide)
  ·exact nin 0 z
theorem AH:∀ (cs:List Cr),(flat cs).length=2 * cs.length
 | []=>rfl
 | c :: cs=>by
  have:=AH cs;unfold flat at *;rw [cR,ar,this,ai];show 2+_=_;lia
section
variable {S:Nat} {rows:Rows} {cs:List Cr}
theorem CR.mem(h:CR S rows cs){p:T3}:p∈rows.flatten↔∃ c∈cs,p=⟨c.n,0,c.h⟩\/p=⟨c.n,1,c.h⟩:=by
 rw [h.perm.mem_iff,Pu];constructor
 ·rintro⟨c,hc,hp⟩;simp only [Cr.ps,bQ,bL,or_false] at hp;exact⟨c,hc,hp⟩
 ·rintro⟨c,hc,hp⟩;refine⟨c,hc,?_⟩;simp only [Cr.ps,bQ,bL,or_false]; exact hp
theorem CR.dr(h:CR S rows cs)(hS:S<=3):Dr rows where
 nd:=(h.perm.map _).nodup_iff.mpr (LA cs h.nd)
 way:=fun p hp=>by
  obtain⟨c,_,rfl | rfl⟩:=h.mem.mp hp
  ·exact .inl rfl
  ·exact .inr rfl
 hand:=fun p hp=>by
  obtain⟨c,hc,rfl | rfl⟩:=h.mem.mp hp
  ·exact h.hand c hc
  ·exact h.hand c hc
 Px:=fun p hp=>by
  obtain⟨c,hc,rfl | rfl⟩:=h.mem.mp hp
  ·exact h.mem.mpr ⟨c,hc,.inr rfl⟩
  ·exact h.mem.mpr ⟨c,hc,.inl rfl⟩
 oG:=by rw [h.perm.length_eq,AH]; have:=h.oG; lia
 str:=by rw [h.len]; exact hS
theorem AG:∀ (cs:List Cr),((flat cs).filter fun p=>p.b == 0).map (·.a)=cs.map Cr.n
 | []=>rfl
 | c :: cs=>by
  have:=AG cs;unfold flat at *;rw [cR,ik,aT,this];rfl
theorem CR.names(h:CR S rows cs):(P.names rows).Perm (cs.map Cr.n):=by
 unfold P.names;refine(nI _).trans ?_;rw [<-AG cs];exact(h.perm.filter _).map _
theorem inj{c d:Cr}:∀ {cs:List Cr},(cs.map Cr.n).Nodup->c∈cs->d∈cs->c.n=d.n->c=d
 | e :: cs,h,hc,hd,hn=>by
  rw [av,eV] at h;rcases List.mem_cons.mp hc with e1 | xq
  ·rcases List.mem_cons.mp hd with e2 | hd2
   ·rw [e1,e2]
   ·exact absurd (by rw [<-e1,hn]; exact bg hd2) h.1
  ·rcases List.mem_cons.mp hd with e2 | hd2
   ·exact absurd (by rw [<-e2,<-hn]; exact bg xq) h.1
   ·exact inj h.2 xq hd2 hn
end
structure AL(G G':Gp)(as:List Nat)(rs:List (List D)):Prop where
 le:eY G G'
 nd:as.Nodup
 fr:∀ a∈as,G a=none
 len:as.length=rs.length
 at':∀ (i a:Nat) (r:List D),as[i]?=some a->rs[i]?=some r->G' a=some (.lst r)
theorem AL.nil(G:Gp):AL G G [] []:=⟨.refl G,dv,fun _ h=>by(cases h),rfl,fun i a r h=>by simp at h⟩
theorem AL.new{G G':Gp}{as:List Nat}{rs:List (List D)}(h:AL G G' as rs){p:Nat}(hp:G' p=none):p∉as:=fun z=>by
 obtain⟨i,hi⟩:=pB z;have h1:i < rs.length:=by rw [<-h.len]; exact(List.getElem?_eq_some_iff.mp hi).1
 have:=h.at' i p rs[i] hi (ax h1);rw [hp] at this; cases this
theorem AL.push{G G':Gp}{as:List Nat}{rs:List (List D)}(h:AL G G' as rs){p:Nat}(hp:G' p=none)(r:List D):AL G (c7 G' p (.lst r)) (as++[p]) (rs++[r]):=by
 refine⟨h.le.trans (.new hp),?_,fun b hb=>?_,by rw [ar,ar,h.len]; rfl,fun i b r2 h1 h2=>?_⟩
 ·rw [cE];exact⟨h.nd,by simp,fun x hx y hy=>by rw [bN] at hy; subst hy; intro z; exact h.new hp (z ▸ hx)⟩
 ·rcases List.mem_append.mp hb with z | z
  ·exact h.fr b z
  ·rw [bN] at z; rw [z]; exact h.le.free hp
 ·by_cases hi:i < as.length
  ·rw [bS hi] at h1;rw [bS (by rw [<-h.len]; exact hi)] at h2;exact(eY.new hp) _ _ (h.at' i b r2 h1 h2)
  ·have ln:=h.len;rw [bH (by lia)] at h1;rw [bH (by lia)] at h2;have:i - as.length=0:=by
    have:=(List.getElem?_eq_some_iff.mp h1).1;simp at this; lia
   rw [this] at h1;rw [show i - rs.length=0 by lia] at h2;simp at h1 h2;subst h1 h2;exact aA
theorem AL.top{G G':Gp}{as:List Nat}{rs:List (List D)}(h:AL G G' as rs){p:Nat}(hp:G' p=none):HL G (c7 G' p (.lst (as.map D.ref))) p as rs :=
 ⟨h.le.trans (.new hp),h.le.free hp,aA,h.new hp,h.nd,h.fr,h.len,fun i b r h1 h2=>(eY.new hp) _ _ (h.at' i b r h1 h2)⟩
theorem lN{i:Nat}{t:ie}{E:mO}{K:mP}{τ:iX}{G:Gp}:Np i t E K τ G=t E { K with nx:=fun qv G1=>match qv[i]? with
 | some (some d)=>Rf G1 d fun t G2=>K.nx (qv.set i (some t)) G2
 | _=>False } τ G:=rfl
theorem Ej{α:Type} [DecidableEq α] [Enc α](a:α):i5 (enc a) (enc a)=true:=by rw [Enc.eqv]; simp
end Kn
end K2
end
section
namespace K2
open PySem (Str)
open Enc (enc)
namespace HH
open K2.P K2.LV
section
variable {α:Type} [DecidableEq α]
theorem xS{ps:List (α×α)}{V:List α}(h:∀ p∈ps,p.1∈V/\p.2∈V){x y:α}(c:Cn ps x y):x=y\/(x∈V/\y∈V):=by
 induction c with
 | refl x=>exact .inl rfl
 | pair q=>exact .inr (h _ q)
 | symm _ ih =>
  rcases ih with e | ⟨a,b⟩
  ·exact .inl e.symm
  ·exact .inr ⟨b,a⟩
 | trans _ _ i1 i2 =>
  rcases i1 with e | ⟨a,b⟩
  ·subst e; exact i2
  ·rcases i2 with e | ⟨c,d⟩
   ·subst e; exact .inr ⟨a,b⟩
   ·exact .inr ⟨a,d⟩
noncomputable def N5(V:List α)(ps:List (α×α))(m:α->α):Prop:=∀ s∈V,∀ t∈V,m s=m t↔Cn ps s t
theorem N5.nil(V:List α):N5 V [] id:=fun s _ t _=>by
 constructor
 ·intro e; have e:s=t:=e; subst e; exact .refl s
 ·intro c;rcases xS (V:=([]:List α)) (fun p hp=>by cases hp) c with e | ⟨a,_⟩
  ·exact e
  ·cases a
noncomputable def YN(m:α->α)(x y:α):α->α:=fun s=>if m s=m x then m y else m s
theorem N5.step{V:List α}{ps:List (α×α)}{m:α->α}(k:N5 V ps m){x y:α}(hx:x∈V)(hy:y∈V):N5 V (ps++[(x,y)]) (YN m x y):=fun s hs t ht=>by
 rw [Cn.more,<-k s hs t ht,<-k s hs x hx,<-k y hy t ht,<-k s hs y hy,<-k x hx t ht];unfold YN;by_cases a:m s=m x <;> by_cases b:m t=m x
 ·rw [if_pos a,if_pos b];exact⟨fun _=>.inl (a.trans b.symm),fun _=>rfl⟩
 ·rw [if_pos a,if_neg b];constructor
  ·intro e; exact .inr (.inl ⟨a,e⟩)
  ·rintro(e | ⟨_,e⟩ | ⟨e1,e2⟩)
   ·exact absurd (e.symm.trans a) b
   ·exact e
   ·exact absurd e2.symm b
 ·rw [if_neg a,if_pos b];constructor
  ·intro e; exact .inr (.inr ⟨e,b.symm⟩)
  ·rintro(e | ⟨e,_⟩ | ⟨e1,e2⟩)
   ·exact absurd (e.trans b) a
   ·exact absurd e a
   ·exact e1
 ·rw [if_neg a,if_neg b];constructor
  ·exact .inl
  ·rintro(e | ⟨e,_⟩ | ⟨e1,e2⟩)
   ·exact e
   ·exact absurd e a
   ·exact absurd e2.symm b
noncomputable def dd(l:List α):List α:=l.foldl (fun acc x=>if x∈acc then acc else acc++[x]) []
theorem LD:∀ (l acc:List α),acc.Nodup->(l.foldl (fun acc x=>if x∈acc then acc else acc++[x]) acc).Nodup/\∀ x,x∈l.foldl (fun acc x=>if x∈acc then acc else acc++[x]) acc↔x∈acc\/x∈l
 | [],acc,h=>⟨h,fun x=>⟨.inl,fun z=>z.elim id fun q=>by cases q⟩⟩
 | a :: l,acc,h=>by
  rw [bF];by_cases c:a∈acc
  ·rw [if_pos c];obtain⟨h1,h2⟩:=LD l acc h;refine⟨h1,fun x=>(h2 x).trans ⟨fun z=>z.elim .inl fun q=>.inr (aK _ q),fun z=>z.elim .inl fun q=>?_⟩⟩;rcases List.mem_cons.mp q with rfl | q
   ·exact .inl c
   ·exact .inr q
  ·rw [if_neg c];have nd:(acc++[a]).Nodup:=by
    rw [cE];exact⟨h,by simp,fun x hx y hy e=>by rw [bN] at hy; subst hy; subst e; exact c hx⟩
   obtain⟨h1,h2⟩:=LD l _ nd;refine⟨h1,fun x=>(h2 x).trans ?_⟩;rw [HS,bN,bQ];constructor
   ·rintro((z | z) | z)
    ·exact .inl z
    ·exact .inr (.inl z)
    ·exact .inr (.inr z)
   ·rintro(z | z | z)
    ·exact .inl (.inl z)
    ·exact .inl (.inr z)
    ·exact .inr z
theorem X9(l:List α):(dd l).Nodup:=(LD l [] dv).1
theorem QB{l:List α}{x:α}:x∈dd l↔x∈l:=((LD l [] dv).2 x).trans ⟨fun z=>z.elim (fun q=>by cases q) id,.inr⟩
theorem eqE:Eqv (fun a b:α=>a=b):=⟨fun _=>rfl,fun e=>e.symm,fun a b=>a.trans b⟩
theorem Yb(l:List α):Nc l (fun a b=>a=b) (dd l).length :=
 ⟨dd l,⟨List.nodup_iff_pairwise_ne.mp (X9 l),fun v hv=>⟨v,QB.mpr hv,rfl⟩,fun a ha=>QB.mp ha⟩,rfl⟩
theorem N5.nc{V:List α}{ps:List (α×α)}{m:α->α}(k:N5 V ps m):Nc V (Cn ps) (dd (V.map m)).length:=by
 obtain⟨n,hn⟩:=Nc.ex (Um ps) V;have h2:Nc (V.map m) (fun a b=>a=b) n:=Nc.map eqE m (fun v hv=>bg hv) (fun v hv u hu=>(k v hv u hu).symm) (fun w hw=>by
  obtain⟨v,hv,rfl⟩:=List.mem_map.mp hw;exact⟨v,hv,rfl⟩) hn
 have:=Nc.uniq eqE h2 (Yb _);rw [<-this]; exact hn
theorem Nc.Xl{V W:List α}{R:α->α->Prop}{k:Nat}(h:Nc V R k)(e:∀ x,x∈V↔x∈W):Nc W R k:=by
 obtain⟨A,t,l⟩:=h;exact⟨A,⟨t.pw,fun v hv=>t.VS v ((e v).mpr hv),fun a ha=>(e a).mp (t.H0 a ha)⟩,l⟩
theorem Nc.bare{V B:List α}{ps:List (α×α)}{k:Nat}(h:Nc V (Cn ps) k)(P1:∀ p∈ps,p.1∈V/\p.2∈V)(nd:B.Nodup)(dj:∀ b∈B,b∉V):Nc (V++B) (Cn ps) (k+B.length):=by
 obtain⟨A,t,l⟩:=h;refine⟨A++B,⟨?_,fun v hv=>?_,fun a ha=>?_⟩,by rw [ar,l]⟩
 ·rw [List.pairwise_append];refine⟨t.pw,(List.nodup_iff_pairwise_ne.mp nd).imp_of_mem fun {x y} hx hy ne c=>?_,fun a ha b hb c=>?_⟩
  ·rcases xS P1 c with e | ⟨z,_⟩
   ·exact ne e
   ·exact dj x hx z
  ·rcases xS P1 c with e | ⟨_,z⟩
   ·subst e; exact dj a hb (t.H0 a ha)
   ·exact dj b hb z
 ·rcases List.mem_append.mp hv with z | z
  ·obtain⟨a,ha,r⟩:=t.VS v z;exact⟨a,eO _ ha,r⟩
  ·exact⟨v,cC _ z,.refl v⟩
 ·rcases List.mem_append.mp ha with z | z
  ·exact eO _ (t.H0 a z)
  ·exact cC _ z
end
noncomputable def xa:Rows->Nat->List T2
 | [],_=>[]
 | r :: rs,k=>(if r=[] then [⟨(k:Int),2⟩] else [])++xa rs (k+1)
theorem ji:∀ (rs:Rows) (k:Nat),(gX rs k).Perm (rs.flatten.map T3.s++xa rs k)
 | [],_=>.refl _
 | r :: rs,k=>by
  show (jh r (k:Int)++gX rs (k+1)).Perm _;rw [cG,aT];unfold jh xa;by_cases c:r=[]
  ·rw [if_pos c,if_pos c,c,aQ,aO];refine((ji rs (k+1)).append_left _).trans ?_;rw [<-cf,<-cf];exact List.perm_append_comm.append_right _
  ·rw [if_neg c,if_neg c,aO,cf];exact(ji rs (k+1)).append_left _
theorem A1:∀ (rs:Rows) (k:Nat),∀ s∈xa rs k,s.b=2/\(k:Int)<=s.a
 | [],_,_,h=>by cases h
 | r :: rs,k,s,h=>by
  rcases List.mem_append.mp h with z | z
  ·by_cases c:r=[]
   ·rw [if_pos c,bN] at z; subst z; exact⟨rfl,Int.le_refl _⟩
   ·rw [if_neg c] at z; cases z
  ·have:=A1 rs (k+1) s z;exact⟨this.1,by have:=this.2; lia⟩
theorem A0:∀ (rs:Rows) (k:Nat),(xa rs k).Nodup
 | [],_=>dv
 | r :: rs,k=>by
  unfold xa;rw [cE];refine⟨by split <;> simp,A0 rs (k+1),fun x hx y hy e=>?_⟩;by_cases c:r=[]
  ·rw [if_pos c,bN] at hx;have:=(A1 rs (k+1) y hy).2;subst hx; subst e;simp at this; lia
  ·rw [if_neg c] at hx; cases hx
noncomputable def ou(rs:Rows):Nat:=(rs.filter fun r=>decide (r=[])).length
theorem CT:∀ (rs:Rows) (k:Nat),(xa rs k).length=ou rs
 | [],_=>rfl
 | r :: rs,k=>by
  unfold xa ou;rw [ar,CT rs (k+1),jf];by_cases c:r=[]
  ·rw [if_pos c,if_pos (decide_eq_true c),ai]; unfold ou; simp; lia
  ·rw [if_neg c,if_neg (by simpa using c)]; unfold ou; simp
variable {rows:Rows}
theorem LN(d:Dr rows):∀ s∈xa rows 0,s∉rows.flatten.map T3.s:=fun s hs z=>by
 obtain⟨p,hp,rfl⟩:=List.mem_map.mp z;have h1:=(A1 rows 0 _ hs).1;have h2:=d.way p hp;have h1:p.b=2:=h1;lia
end HH
end K2
end
section
namespace K2
open PySem (Str)
open Enc (enc)
noncomputable instance:xW T2 where
 mn:=by
  intro x G xs Q hi wM k;cases xs with
  | nil=>exact absurd rfl wM
  | cons a r =>
   obtain⟨h1,h2⟩:=lA r a;have ei:itemsOf x G=some (((a :: r).map T2.l).map tI):=by rw [hi,bA]; rfl
   refine .inr ⟨(a :: r).map T2.l,_,ei,rfl,?_⟩;have:∀ (r:List T2) (a:T2),(r.map T2.l).foldl (fun m x=>if lexLt x m=true then x else m) a.l=(r.foldl (fun m x=>if bV.lt x m=true then x else m) a).l:=by
    intro r;induction r with
    | nil=>intro a; rfl
    | cons b r ih =>
     intro a;rw [av,bF,bF];have e:(if lexLt b.l a.l=true then b.l else a.l)=(if bV.lt b a=true then b else a).l:=by
      have:bV.lt b a=lexLt b.l a.l:=ve _ _;rw [this];split <;> rfl
     rw [e]; exact ih _
   rw [this r a];exact k _ h1 h2
namespace HH
open K2.P K2.LV K2.T
open K2.Y (fk)
noncomputable def nJ:kN:=TM T2
theorem Km(ds:List D)(G:Gp)(Q:DK)(h:nJ ds G Q fun _ _=>False):uZ (fun _ _=>False) (ends Q) (bb 7 ds) G:=Yu ds G Q h
theorem HG(ds:List D)(G:Gp)(Q:DK)(E:mO)(h:nJ ds G Q E):ds.length=2:=by
 obtain⟨_,_,rfl,_⟩:=h;rfl
noncomputable def NQ(n w:Int):List (T3×T3):=if w=0 then [(⟨n,0,0⟩,⟨n,1,1⟩),(⟨n,1,0⟩,⟨n,0,1⟩)] else [(⟨n,0,0⟩,⟨n,1,0⟩),(⟨n,0,1⟩,⟨n,1,1⟩)]
noncomputable def Cb:ie :=
 (bO (mr (ml (bo (FI false) (au 1) (dC (.int 0)))) (cy (cZ (gF (ay (gv (ay (gv (ay (au 0) (ay (dC (.int 0)) (ay (dC (.int 0)) aX)))) (ay (gv (ay (au 0) (ay (dC (.int 1)) (ay (dC (.int 1)) aX)))) aX))) (ay (gv (ay (gv (ay (au 0) (ay (dC (.int 1)) (ay (dC (.int 0)) aX)))) (ay (gv (ay (au 0) (ay (dC (.int 0)) (ay (dC (.int 1)) aX)))) aX))) aX))))) gm)
 (cy (cZ (gF (ay (gv (ay (gv (ay (au 0) (ay (dC (.int 0)) (ay (dC (.int 0)) aX)))) (ay (gv (ay (au 0) (ay (dC (.int 1)) (ay (dC (.int 0)) aX)))) aX))) (ay (gv (ay (gv (ay (au 0) (ay (dC (.int 0)) (ay (dC (.int 1)) aX)))) (ay (gv (ay (au 0) (ay (dC (.int 1)) (ay (dC (.int 1)) aX)))) aX))) aX))))))
noncomputable def tM:kN:=fun ds G Q _=>∃ n w:Int,ds=[.int n,.int w]/\Q (enc (NQ n w)) G
theorem NA(ds:List D)(G:Gp)(Q:DK)(h:tM ds G Q fun _ _=>False):Cb (fun _ _=>False) (ends Q) (bb 2 ds) G:=by
 obtain⟨n,w,rfl,q⟩:=h;unfold Cb;simp only [bO,mr,bb,av,aQ,ai,aB,aL,aO,cy,cZ,gF,ay,gv,au,aa,dC,aX,ends,gm,fm,bo,ae];refine⟨_,_,.int _,.int _,?_⟩;simp only [aJ,oe,if_false,cV];by_cases c:w=0
 ·subst c;simp only [beq_self_eq_true,if_true];refine⟨by decide,by decide,by decide,by decide,by decide,by decide,by decide,fun p hp=>?_⟩;exact kH (xs:=NQ n 0) (.new hp) hp aA q
 ·have:(w == 0)=false:=by simpa using c
  simp only [this,aJ,if_false];refine⟨by decide,by decide,by decide,by decide,by decide,by decide,by decide,fun p hp=>?_⟩;refine kH (xs:=NQ n w) (.new hp) hp ?_ q;rw [aA];unfold NQ;rw [if_neg c]; rfl
noncomputable def ya:ie :=
 (cy (cZ (Ye (ml (bo (FI false) (au 1) (dC (.int 0)))) (au 0) (Ih Ds (au 0)))))
noncomputable def Mm(h w:Int):Int:=if w=0 then h else -h
noncomputable def oQ:kN:=fun ds G Q _=>∃ h w:Int,ds=[.int h,.int w]/\Q (.int (Mm h w)) G
theorem HA(ds:List D)(G:Gp)(Q:DK)(h:oQ ds G Q fun _ _=>False):ya (fun _ _=>False) (ends Q) (bb 2 ds) G:=by
 obtain⟨n,w,rfl,q⟩:=h;unfold ya;simp only [cy,cZ,Ye,bb,av,aQ,ai,aB,aL,aO,au,aa,ends,Ih,lZ,fm,bo,ae,dC];refine⟨_,_,.int _,.int _,?_⟩;simp only [aJ,oe,if_false,cV];by_cases c:w=0
 ·subst c;simp only [beq_self_eq_true,if_true];exact fO q
 ·have:(w == 0)=false:=by simpa using c
  simp only [this,aJ,if_false];refine fO ?_;have e:Mm n w=-n:=if_neg c;rw [<-e]; exact q
noncomputable def uM:ie :=
 (bO (bq (BN (au 1) fZ (rG (dC (.int 2)))) (aC 2))
 (cy (cZ (Ye (ml (bo (FI false) (bo jm (au 1) (dC (.int 2))) (dC (.int 0)))) (bo jm (au 0) (au 2)) (au 2)))))
noncomputable def jJ:kN:=fun ds G Q _=>∃ (l:List (T2×T2)) (e:T3) (s:T2),ds=[.gZ (aR l),enc e]/\((e.c=0->cB l e.s=some s)/\(e.c≠0->s=e.s))/\Q (enc s) G
theorem BU(ds:List D)(G:Gp)(Q:DK)(h:jJ ds G Q fun _ _=>False):uM (fun _ _=>False) (ends Q) (bb 3 ds) G:=by
 obtain⟨l,e,s,rfl,⟨h1,h2⟩,q⟩:=h;unfold uM;simp only [ends,bb,pK,av,aQ,ai,aB,aU,aL,aO,cM,bq,BN,au,ae,aa,fZ,aC,cy,cZ,Ye,aj,ah,bo,fm,dC,fJ,oU,jc,fP,Yg];refine⟨by decide,?_⟩;show FI false (D.int e.c) (.int 0) G _;refine⟨_,_,.int _,.int _,?_⟩;simp only [aJ,oe,if_false,cV];by_cases c:e.c=0
 ·rw [c];simp only [beq_self_eq_true,if_true];show jm (.gZ (aR l)) (enc e.s) G _;simp only [lL,i9,h1 c,iE];exact⟨fA _ _,fO q⟩
 ·have:(e.c == 0)=false:=by simpa using c
  simp only [this,aJ,if_false];refine fO ?_;have:=h2 c;subst this;exact q
variable {rows:Rows}
noncomputable def jps(rows:Rows)(n w:Int):List (T2×T2):=if w=0 then [(yE rows ⟨n,0⟩,⟨n,1⟩),(yE rows ⟨n,1⟩,⟨n,0⟩)] else [(yE rows ⟨n,0⟩,yE rows ⟨n,1⟩),(⟨n,0⟩,⟨n,1⟩)]
noncomputable def vw(rows:Rows)(ch:List (Int×Int)):List (T2×T2):=ch.flatMap fun p=>jps rows p.1 p.2
theorem Ka(d:Dr rows){s:T2}(h:s∈rows.flatten.map T3.s):cB (ni (jN (pairsOf rows))) s=some (yE rows s)/\yE rows s∈rows.flatten.map T3.s:=by
 obtain⟨q,hq,rfl⟩:=List.mem_map.mp h;obtain⟨p,hp,hpf⟩:=GD hq;rw [J9 d];have:=QN d hp;exact⟨by rw [this.2]; exact this.1,by rw [this.2]; exact bg hpf⟩
theorem FZ(d:Dr rows){n:Int}(h:n∈names rows){w:Int}(hw:w=0\/w=1):(⟨n,w⟩:T2)∈rows.flatten.map T3.s:=by
 obtain⟨p,hp,e1,e2⟩:=tZ.mp h;rcases hw with rfl | rfl
 ·exact List.mem_map.mpr ⟨p,hp,by rw [<-e2,<-e1]; rfl⟩
 ·have:=d.Px p hp;refine List.mem_map.mpr ⟨_,this,?_⟩;rw [e1,e2]; rfl
theorem Jt(d:Dr rows){n w:Int}(h:n∈names rows):∀ p∈jps rows n w,p.1∈rows.flatten.map T3.s/\p.2∈rows.flatten.map T3.s:=by
 have h0:=FZ d h (.inl rfl);have h1:=FZ d h (.inr rfl);have c0:=(Ka d h0).2;have c1:=(Ka d h1).2;intro p hp;unfold jps at hp;split at hp
 ·rcases List.mem_cons.mp hp with rfl | hp
  ·exact⟨c0,h1⟩
  ·rw [bN] at hp; subst hp; exact⟨c1,h0⟩
 ·rcases List.mem_cons.mp hp with rfl | hp
  ·exact⟨c0,c1⟩
  ·rw [bN] at hp; subst hp; exact⟨h0,h1⟩
theorem O0(d:Dr rows){ch:List (Int×Int)}(h:∀ p∈ch,p.1∈names rows):∀ p∈vw rows ch,p.1∈rows.flatten.map T3.s/\p.2∈rows.flatten.map T3.s:=by
 intro p hp;obtain⟨c,hc,q⟩:=List.mem_flatMap.mp hp;exact Jt d (h c hc) p q
theorem SI(rows:Rows)(n w:Int):(jps rows n w).length=2:=by unfold jps; split <;> rfl
theorem Dv(rows:Rows):∀ ch:List (Int×Int),(vw rows ch).length=2 * ch.length
 | []=>rfl
 | p :: ch=>by
  show (jps rows p.1 p.2++vw rows ch).length=_;rw [ar,SI,Dv rows ch,ai]; lia
theorem OL(d:Dr rows):(jw rows).Nodup:=by
 unfold jw;rw [(nI _).nodup_iff,(ji rows 0).nodup_iff,cE];exact⟨d.nd,A0 rows 0,fun x hx y hy e=>LN d y hy (e ▸ hx)⟩
noncomputable def cv(rows:Rows)(e:T3):T2:=if e.c=0 then yE rows e.s else e.s
theorem Vo(rows:Rows)(n w:Int):(NQ n w).map (fun p=>(cv rows p.1,cv rows p.2))=jps rows n w:=by
 unfold NQ jps;split <;> rfl
theorem SH{n w:Int}{p:T3×T3}(h:p∈NQ n w):(p.1.a=n/\(p.1.b=0\/p.1.b=1))/\(p.2.a=n/\(p.2.b=0\/p.2.b=1)):=by
 unfold NQ at h;split at h
 ·rcases List.mem_cons.mp h with rfl | h
  ·exact⟨⟨rfl,.inl rfl⟩,⟨rfl,.inr rfl⟩⟩
  ·rw [bN] at h; subst h; exact⟨⟨rfl,.inr rfl⟩,⟨rfl,.inl rfl⟩⟩
 ·rcases List.mem_cons.mp h with rfl | h
  ·exact⟨⟨rfl,.inl rfl⟩,⟨rfl,.inr rfl⟩⟩
  ·rw [bN] at h; subst h; exact⟨⟨rfl,.inl rfl⟩,⟨rfl,.inr rfl⟩⟩
theorem Ul(d:Dr rows){e:T3}{n:Int}(hn:n∈names rows)(ha:e.a=n)(hb:e.b=0\/e.b=1):(e.c=0->cB (ni (jN (pairsOf rows))) e.s=some (cv rows e))/\(e.c≠0->cv rows e=e.s):=by
 have h:e.s∈rows.flatten.map T3.s:=by subst ha; exact FZ d hn hb
 unfold cv;exact⟨fun c=>by rw [if_pos c]; exact(Ka d h).1,fun c=>by rw [if_neg c]⟩
noncomputable def FA:ie :=
 (bO (bq (bB mV (ay (au 0) aX)) (aC 2))
 (bO (bq (gF aX) (aC 3))
 (bO (cO (ib (au 1)) (j7 (eA (aC 4) (eA (aC 5) jP))) (cO (kR (bB tM (ay (au 4) (ay (au 5) aX)))) (j7 (eA (aC 6) (eA (aC 7) jP))) (jQ (vB C8 qL (au 3) (ay (gv (ay (bB jJ (ay (au 2) (ay (au 6) aX))) (ay (bB jJ (ay (au 2) (ay (au 7) aX))) aX))) aX)))))
 (cy (cZ (qW AW (ay (bB nJ (ay (cZ (bB oP (ay (au 0) aX))) (ay (cZ (au 3)) aX))) aX)))))))
noncomputable def lV:kN:=fun ds G Q _=>∃ (rows:Rows) (ch:List (Int×Int)),ds=[enc rows,.gZ (aR ch)]/\(Dr rows/\ch.length<=24/\∀ p∈ch,p.1∈names rows)/\∀ k:Nat,Nc (jw rows) (Cn (vw rows ch)) k->Q (.int (k:Int)) G
theorem Q5(ds:List D)(G:Gp)(Q:DK)(h:lV ds G Q fun _ _=>False):FA (fun _ _=>False) (ends Q) (bb 8 ds) G:=by
 obtain⟨rows,ch,rfl,⟨d,hl,hc⟩,q⟩:=h;have oG:=d.oG;have str:=d.str;unfold FA;simp only [ends,bb,av,aQ,ai,aB,aU,aL,aO,cM,bq,bB,ay,au,aa,aX,aC,aj,ah,gF];refine⟨rows,rfl,by lia,?_⟩;simp only [cZ,bb,ends,fm,bo,Ih,au,qW,vB,ay,aX,cy,Hk,jQ,bq,aC,dC,gm,gv,gF,iq,qV,QJ,RA,wY,oh,wX,qj,BN,jc,fZ,dF,ja,bB,gO,dE,sT,nR,l6,lY,jL,kE,pW,lZ,tQ,wg,wj,wm,fJ,nQ,oU,tO,tP,ot,tE,ql,iA,iz,l8,iK,ko,lJ,vO,vN,true_and,and_true,jo,t7,fP,cV,hX,qg,wH,sY,av,aQ,aL,aO,aa,ae,ah,aj,ai,aB,aU,if_true,if_false,dg,fT,aJ,cM,sE,fX,ib,gC,sS,k9,uT,j7,eA,jP];refine⟨by decide,fun p hp=>?_⟩;refine eS (fun τ G'=>(∃ a b c e,τ=[some (enc rows),some (.gZ (aR ch)),some (.gZ (aR (ni (jN (pairsOf rows))))),some (.ref p),a,b,c,e])/\eY G G'/\G' p=some (.lst ((vw rows ch).map enc))) ?_ ?_
 ·intro N hN;simp only [cO,ib,au,ae,aa];refine jb (l:=ch) (G0:=G) rfl (.new hp) fun ok cN=>?_;refine cu (xs:=ch) (fun pre τ G'=>(∃ a b c e,τ=[some (enc rows),some (.gZ (aR ch)),some (.gZ (aR (ni (jN (pairsOf rows))))),some (.ref p),a,b,c,e])/\eY G G'/\G' p=some (.lst ((vw rows pre).map enc))) ⟨⟨_,_,_,_,rfl⟩,.new hp,aA⟩ (fun pre τ G' h=>cN _ h.2.1) ?_ ?_
  ·rintro pre x post τ G' N2 e ⟨⟨a,b,c,e',rfl⟩,le,gp⟩ ke;simp only [j7,eA,aC,jP,cO,aj,ah,yV,dF,bB,ay,au,ae,aa,aX];have hx:x.1∈names rows:=hc x (by rw [e]; simp);have Av:=fk e;refine⟨x.1,x.2,rfl,jq ?_⟩;refine cu (xs:=NQ x.1 x.2) (fun lh τ G2=>(∃ c e,τ=[some (enc rows),some (.gZ (aR ch)),some (.gZ (aR (ni (jN (pairsOf rows))))),some (.ref p),some (.int x.1),some (.int x.2),c,e])/\eY G G2/\G2 p=some (.lst ((vw rows pre++lh.map fun p=>(cv rows p.1,cv rows p.2)).map enc))) ⟨⟨_,_,rfl⟩,le,by rw [aQ,cX]; exact gp⟩ (fun _ _ _ _=>trivial) ?_ ?_
   ·rintro lh y zS τ G2 N3 e2 ⟨⟨c,e',rfl⟩,Gn,Ie⟩ yp;have hy:y∈NQ x.1 x.2:=by rw [e2]; simp
    obtain⟨⟨y1,y2⟩,y3,y4⟩:=SH hy;have h2:=fk e2;have hj:(NQ x.1 x.2).length=2:=by unfold NQ; split <;> rfl
    simp only [j7,wW,eA,aC,jP,jQ,vB,au,aj,ah,ae,aa,ko,Ie,ay,gv,bB,aX,ai,aB,iA,true_and];refine⟨_,y.1,cv rows y.1,rfl,Ul d hx y1 y2,?_⟩;refine⟨_,y.2,cv rows y.2,rfl,Ul d hx y3 y4,?_⟩;refine⟨by decide,?_⟩;simp only [Ie];refine⟨RY (by rw [ao,ar,ao,Dv]; lia),?_⟩;refine yp _ _ ⟨⟨_,_,rfl⟩,Gn.put hp,?_⟩;rw [aA];simp only [aT,av,aQ,cf];rfl
   ·rintro τ G2 ⟨⟨c,e',rfl⟩,Gn,Ie⟩;refine ke _ _ ⟨⟨_,_,_,_,rfl⟩,Gn,?_⟩;rw [Ie,Vo];show some (GO.lst ((vw rows pre++jps rows x.1 x.2).map enc))=_;unfold vw;rw [i0,ju]
  ·rintro τ G' ⟨⟨a,b,c,e,rfl⟩,le,gp⟩;exact hN _ _ ⟨⟨_,_,_,_,rfl⟩,le,gp⟩
 ·rintro _ G' ⟨⟨a,b,c,e,rfl⟩,le,gp⟩;simp only [cy,cZ,qW,ay,bB,au,aa,aX,ae];have sl:=zq rows;refine⟨rows,rfl,⟨by lia,fun r hr=>?_⟩,fO (kH le hp gp ?_)⟩
  ·have:r.length<=rows.flatten.length:=by
    obtain⟨l,m,e⟩:=List.append_of_mem hr;rw [e,gU,cG,ar,ar]; lia
   lia
  have sn:=OL d;have inn:∀ p∈vw rows ch,p.1∈jw rows/\p.2∈jw rows:=fun p hp=>by
   have:=O0 d hc p hp;unfold jw;rw [(nI _).mem_iff,(nI _).mem_iff,(ji rows 0).mem_iff,(ji rows 0).mem_iff];exact⟨eO _ this.1,eO _ this.2⟩
  refine⟨jw rows,vw rows ch,rfl,⟨sn,by unfold jw; rw [De]; lia,by rw [Dv]; lia,inn⟩,⟨by decide,by decide,by decide⟩,fun gr XJ=>?_⟩;have nc:=RW sn (fun m hm=>(XJ m hm).2) inn;have:(enc (told (jw rows) gr):D)=.ez ((told (jw rows) gr).map enc):=rfl;rw [this];simp only [ot,ao];exact fO (q _ nc)
noncomputable def FC:ie :=
 (cy (cZ (qW VY (ay (gO 2 [0] (ib (au 1)) (j7 (eA (aC 0) (eA (aC 1) jP))) none (bB oQ (ay (bB k7 (ay (au 2) (ay (au 0) aX))) (ay (au 1) aX)))) aX))))
noncomputable def IU(rows:Rows)(ch:List (Int×Int)):Int:=(ch.map fun p=>Mm (handOf rows p.1) p.2).sum
noncomputable def lW:kN:=fun ds G Q _=>∃ (rows:Rows) (ch:List (Int×Int)),ds=[enc rows,.gZ (aR ch)]/\(Dr rows/\ch.length<=24/\∀ p∈ch,p.1∈names rows)/\Q (.int (IU rows ch)) G
theorem SW(d:Dr rows){n:Int}(h:n∈names rows):(handOf rows n=1\/handOf rows n=-1)/\∃ p∈rows.flatten,p.a=n:=by
 obtain⟨p,hp,_,e⟩:=tZ.mp h;subst e;rw [Lu d hp];exact⟨d.hand p hp,p,hp,rfl⟩
theorem Q6(ds:List D)(G:Gp)(Q:DK)(h:lW ds G Q fun _ _=>False):FC (fun _ _=>False) (ends Q) (bb 2 ds) G:=by
 obtain⟨rows,ch,rfl,⟨d,hl,hc⟩,q⟩:=h;have oG:=d.oG;unfold FC;simp only [cy,cZ,qW,ay,gO,ib,au,bb,av,aQ,ai,aB,aL,aO,ae,aa,aX,ends];refine jb (l:=ch) (G0:=G) rfl (.refl G) fun ok cN=>?_;refine⟨ET (by rw [ao]; lia),?_⟩;refine kK (xs:=ch) (fun pre acc τ G'=>G=G'/\(∃ a b,τ=[a,b,some (enc rows)])/\acc=(pre.map fun p=>Mm (handOf rows p.1) p.2).map D.int) ⟨rfl,⟨_,_,rfl⟩,rfl⟩ (fun _ _ _ _ h=>cN _ (h.1 ▸ .refl _)) ?_ ?_
 ·rintro pre n post acc τ G' N e ⟨rfl,⟨a,b,rfl⟩,rfl⟩ hN;have hn:n.1∈names rows:=hc n (by rw [e]; simp);simp only [j7,eA,aC,jP,bB,ay,au,ah,yV,aj,ae,aa,aX];refine⟨rows,n.1,rfl,⟨by lia,(SW d hn).2⟩,?_⟩;refine⟨_,_,rfl,?_⟩;refine hN _ _ _ ⟨rfl,⟨_,_,rfl⟩,?_⟩;rw [aT,aT]; rfl
 ·rintro acc τ G' ⟨rfl,⟨a,b,rfl⟩,rfl⟩ p hp;refine⟨ch.map fun p:Int×Int=>Mm (handOf rows p.1) p.2,ID (IsL.ref aA),qQ (IsL.ref aA),⟨by rw [ao]; lia,fun n hn=>?_⟩,D4 (.new hp) q⟩;obtain⟨m,hm,rfl⟩:=List.mem_map.mp hn;have:=(SW d (hc m hm)).1;unfold Mm;split <;> lia
end HH
end K2
end
section
namespace K2
open PySem (Str)
open Enc (enc)
namespace HH
open K2.P K2.T
open K2.Kn (CR Cr AL gh i7 Y4 kI lN)
open K2.Y (oq pick oW oX eG fV dN iS fk)
theorem Jz{c:yv}{a b:ie}{E:mO}{K:mP}{τ:iX}{G:Gp}:mr c a b E K τ G=c E τ G fun k G1=>if k=true then a E K τ G1 else b E K τ G1:=rfl
noncomputable def fu:kN:=Kn.fu
noncomputable def pI(L:List T3):List (Int×Int):=L.foldl (fun l p=>dJ l p.a p.c) []
noncomputable def wd:ie :=
 (bO (bq iq (aC 1))
 (bO (cO (kR (au 0)) (aC 2) (cO (kR (au 2)) (aC 3) (bq (bo jm (au 3) (dC (.int 2))) (fX (au 1) (bo jm (au 3) (dC (.int 0)))))))
 (cy (cZ (au 1)))))
noncomputable def jl:kN:=fun ds G Q _=>∃ rows:Rows,ds=[enc rows]/\rows.flatten.length<=500/\Q (.gZ (aR (pI rows.flatten))) G
theorem Tt{κ β:Type} [DecidableEq κ](l:List (κ×β))(k:κ)(v:β):(dJ l k v).length<=l.length+1:=by
 by_cases h:∃ p∈l,p.1=k
 ·rw [xf h]; lia
 ·rw [gQ (fun z=>by obtain⟨p,hp,e⟩:=List.mem_map.mp z; exact h ⟨p,hp,e⟩),ar]; exact aF _
theorem Aw:∀ (L:List T3) (l:List (Int×Int)),(L.foldl (fun l p=>dJ l p.a p.c) l).length<=l.length+L.length
 | [],l=>by simp
 | p :: L,l=>by
  rw [bF];have h1:=Aw L (dJ l p.a p.c);have h2:=Tt l p.a p.c;rw [ai]; lia
theorem EI(ds:List D)(G:Gp)(Q:DK)(h:jl ds G Q fun _ _=>False):wd (fun _ _=>False) (ends Q) (bb 4 ds) G:=by
 obtain⟨rows,rfl,hl,q⟩:=h;unfold wd;simp only [ends,bb,av,aQ,ai,aB,aU,aL,aO,cM,bq,iq,gx,aC,aj,ah];intro p hp;refine eS (fun τ G'=>(∃ a b,τ=[some (enc rows),some (.ref p),a,b])/\eY G G'/\G' p=some (.dI (aR (pI rows.flatten)))) ?_ ?_
 ·intro N hN;simp only [cO,dF,au,aa];refine jq ?_;refine cu (xs:=rows) (fun pre τ G'=>(∃ a b,τ=[some (enc rows),some (.ref p),a,b])/\eY G G'/\G' p=some (.dI (aR (pI pre.flatten)))) ⟨⟨_,_,rfl⟩,.new hp,aA⟩ (fun _ _ _ _=>trivial) ?_ ?_
  ·rintro pre r post τ G' N2 e ⟨⟨a,b,rfl⟩,l,gp⟩ ke;have hlen:pre.flatten.length+r.length<=rows.flatten.length:=by
    rw [e]; simp only [gU,cG,ar]; lia
   simp only [aC,cO,aj,ah,dF,au,ae,aa];refine jq ?_;refine cu (xs:=r) (fun pp τ G'=>(∃ a b,τ=[some (enc rows),some (.ref p),a,b])/\eY G G'/\G' p=some (.dI (aR (pI (pre.flatten++pp))))) ⟨⟨_,_,rfl⟩,l,by rw [cX]; exact gp⟩ (fun _ _ _ _=>trivial) ?_ ?_
   ·rintro pp t pt τ G4 N3 e4 ⟨⟨a,b,rfl⟩,l4,Wu⟩ yp;have hpp:pp.length < r.length:=by have:=congrArg dh e4; simp at this; lia
    have hz:=Aw (pre.flatten++pp) [];rw [ar] at hz;simp only [aC,bq,bo,au,pK,aj,ah,ae,aa,dC,fX,fJ,NU,at2];refine P.dB (k:=t.a) (v:=t.c) Wu (by show (pI (pre.flatten++pp)).length<=1000; rw [aB] at hz; unfold pI; lia) ?_;refine yp _ _ ⟨⟨_,_,rfl⟩,l4.put hp,?_⟩;have eh:pI (pre.flatten++(pp++[t]))=dJ (pI (pre.flatten++pp)) t.a t.c:=by
     rw [<-cf]; unfold pI; exact cF ..
    rw [aA,eh]
   ·rintro τ G4 ⟨⟨a,b,rfl⟩,l4,Wu⟩;refine ke _ _ ⟨⟨_,_,rfl⟩,l4,?_⟩;rw [Wu,gU,List.flatten_singleton]
  ·rintro τ G' ⟨⟨a,b,rfl⟩,l,gp⟩;exact hN _ _ ⟨⟨_,_,rfl⟩,l,gp⟩
 ·rintro _ G' ⟨⟨a,b,rfl⟩,l,gp⟩;simp only [cy,cZ,au,ae,aa];exact fY l hp gp q
theorem Nw{κ β:Type} [DecidableEq κ]{l:List (κ×β)}{k:κ}{v w:β}(h:k∉l.map (·.1)):dJ (l++[(k,v)]) k w=l++[(k,w)]:=by
 unfold dJ;rw [if_pos (by rw [List.any_append]; simp),aT,av,aQ,if_pos rfl];congr 1;have:l.map (fun p=>if p.1=k then (p.1,w) else p)=l.map id:=gR fun p hp=>if_neg fun e=>h (by rw [<-e]; exact bg hp);rw [this,uI]
noncomputable def vd(l:List (T2×T2))(x y:T2):List (T2×T2):=l.map fun p=>(p.1,if p.2=x then y else p.2)
noncomputable def uN:ie :=
 (bO (bq (bo jm (au 0) (au 1)) (aC 3))
 (bO (bq (bo jm (au 0) (au 2)) (aC 4))
 (bO (bq iq (aC 5))
 (bO (cO (gC (au 0)) (aC 6) (bO (bq (bo jm (au 0) (au 6)) (fX (au 5) (au 6)))
 (mr (ml (bo (FI false) (bo jm (au 0) (au 6)) (au 3))) (bq (au 4) (fX (au 5) (au 6))) gm)))
 (cy (cZ (au 5)))))))
noncomputable def iQ:kN:=fun ds G Q _=>∃ (l:List (T2×T2)) (a b x y:T2),ds=[.gZ (aR l),enc a,enc b]/\(cB l a=some x/\cB l b=some y/\(l.map (·.1)).Nodup/\l.length<=500)/\Q (.gZ (aR (vd l x y))) G
theorem BV(ds:List D)(G:Gp)(Q:DK)(h:iQ ds G Q fun _ _=>False):uN (fun _ _=>False) (ends Q) (bb 7 ds) G:=by
 obtain⟨l,a,b,x,y,rfl,⟨ha,hb,nd,hl⟩,q⟩:=h;unfold uN;simp only [ends,bb,av,aQ,ai,aB,aU,aL,aO,cM,bq,bo,au,aa,ae,aC,aj,ah,iq,lL,i9,hb,iE,ha];refine⟨fA _ _,fA _ _,?_⟩;simp only [gx];intro p hp;refine eS (fun τ G'=>(∃ c,τ=[some (.gZ (aR l)),some (enc a),some (enc b),some (enc x),some (enc y),some (.ref p),c])/\eY G G'/\G' p=some (.dI (aR (vd l x y)))) ?_ ?_
 ·intro N hN;simp only [cO,gC,au,aa,mZ];have ek:(aR l).map (·.1)=l.map fun p=>enc p.1:=by unfold aR; rw [bA]; rfl
  rw [ek];refine cu (xs:=l) (fun pre τ G'=>(∃ c,τ=[some (.gZ (aR l)),some (enc a),some (enc b),some (enc x),some (enc y),some (.ref p),c])/\eY G G'/\G' p=some (.dI (aR (vd pre x y)))) ⟨⟨_,rfl⟩,.new hp,aA⟩ (fun _ _ _ _=>trivial) ?_ ?_
  ·rintro pre z post τ G' N2 e ⟨⟨c,rfl⟩,le,gp⟩ ke;have hz:z∈l:=by rw [e]; simp
   have hv:=jd nd hz;have Av:=fk e;have Bw:z.1∉(vd pre x y).map (·.1):=fun w=>by
    unfold vd at w;rw [bA] at w;obtain⟨u,hu,eu⟩:=List.mem_map.mp w;rw [e,aT,av,cE] at nd;exact nd.2.2 u.1 (bg hu) z.1 (by simp) eu
   simp only [aC,aj,ah,gK,bq,bo,au,aa,ae,fX,lL,i9,hv,iE];refine⟨fA _ _,?_⟩;refine P.dB (k:=z.1) (v:=z.2) gp (by unfold vd; rw [ao]; lia) ?_;have g1:(c7 G' p (.dI (aR (dJ (vd pre x y) z.1 z.2)))) p=some (.dI (aR (dJ (vd pre x y) z.1 z.2))):=aA;have YO:eY G (c7 G' p (.dI (aR (dJ (vd pre x y) z.1 z.2)))):=le.put hp;generalize c7 G' p (.dI (aR (dJ (vd pre x y) z.1 z.2)))=G1 at g1 YO;simp only [Jz,bq,au,ae,aa,gm,fm,bo,lL,i9,hv,iE];refine⟨fA _ _,?_⟩;refine Dt (by decide) ?_;simp only [aJ,if_false,cV];by_cases c1:z.2=x
   ·simp only [c1,decide_true,if_true];simp only [fX,au,ae,aa];refine P.dB (k:=z.1) (v:=y) g1 (by rw [gQ Bw,ar]; unfold vd; rw [ao]; simp; lia) ?_;refine ke _ _ ⟨⟨_,rfl⟩,YO.put hp,?_⟩;rw [aA,gQ Bw,Nw Bw];unfold vd;rw [aT,av,aQ,if_pos c1]
   ·simp only [c1,decide_false,aJ,if_false];refine ke _ _ ⟨⟨_,rfl⟩,YO,?_⟩;rw [g1,gQ Bw];unfold vd;rw [aT,av,aQ,if_neg c1]
  ·rintro τ G' ⟨⟨c,rfl⟩,le,gp⟩;exact hN _ _ ⟨⟨_,rfl⟩,le,gp⟩
 ·rintro _ G' ⟨⟨c,rfl⟩,le,gp⟩;simp only [cy,cZ,au,ae,aa];exact fY le hp gp q
theorem SO{G G2:Gp}{d:D}{ds:List D}{R:List D->(Gp->Prop)->Gp->Prop}(h:IsL G d ds)(l:eY G G2)(k:∀ ok:Gp->Prop,(∀ G',eY G G'->ok G')->R ds ok G2):T9 d G2 R:=by
 rcases h with rfl | ⟨a,rfl,e⟩
 ·exact k _ fun _ _=>trivial
 ·rw [DT (l _ _ e)];exact k _ fun G' le=>le _ _ e
theorem R6{S:Nat}{rows:Rows}{cs:List Cr}(cr:CR S rows cs)(SX:S<=3):∀ r∈rows,r.length<=24:=fun r hr=>by
 have:=(cr.dr SX).oG;obtain⟨l,m,e⟩:=List.append_of_mem hr;have:r.length<=rows.flatten.length:=by rw [e,gU,cG,ar,ar]; lia
 lia
noncomputable def i8:ie :=
 (bO (Np 3 (bq (gO 1 [] (uQ (au 1)) (aC 0) none (gF aX)) (aC 3)))
 (bO (bq (gF aX) (aC 4))
 (bO (cO (kR (au 0)) (aC 5) (bO (bq (bB fu (ay (au 4) (ay (bo iH (dC (.int 1)) (bB dN (ay (au 5) (ay (dC (.int 10007)) (ay (au 2) aX))))) aX))) (aC 6))
 (bO (jQ (vB C8 qL (au 4) (ay (au 6) aX)))
 (bO (bq (bo IT (dC (.int 1)) (bo zO (dC (.int 2)) (bB dN (ay (au 5) (ay (dC (.int 10009)) (ay (dC (.int 2)) aX)))))) (aC 7))
 (cO (uQ (dC (.int 2))) (aC 8) (bO (bq (bo iH (dC (.int 10037)) (bo zO (dC (.int 24)) (au 8))) (aC 9))
 (bO (bq (bB dN (ay (au 5) (ay (bo iH (dC (.int 10039)) (bo zO (dC (.int 28)) (au 8))) (ay (dC (.int 10000)) aX)))) (aC 10))
 (bq (cZ (bB i7 (ay (cZ (au 3)) (ay (cZ (bB dN (ay (au 5) (ay (au 9) (ay (au 1) aX))))) (ay (cZ (au 10)) (ay (cZ (gF (ay (gv (ay (au 6) (ay (au 8) (ay (au 7) aX)))) aX))) aX)))))) (aC 3)))))))))
 (cy (cZ (au 3))))))
noncomputable def fI:kN:=fun ds G Q _=>∃ (d:D) (cells:List Int) (S:Nat) (sp:Int),ds=[d,.int S,.int sp]/\IsL G d (cells.map D.int)/\(cells.length<=12/\(1<=S/\S<=3)/\1<=sp/\sp<=999) /\
 ∀ (rows:Rows) (cs:List Cr),CR S rows cs->cs.length=cells.length->Q (enc rows) G
theorem kL(ds:List D)(G:Gp)(Q:DK)(h:fI ds G Q fun _ _=>False):i8 (fun _ _=>False) (ends Q) (bb 11 ds) G:=by
 obtain⟨d,cells,S,sp,rfl,hd,⟨DZ,⟨hS1,SX⟩,sp1,sp2⟩,q⟩:=h;unfold i8;simp only [ends,bb,av,aQ,ai,aB,aU,aL,aO,gK,lN,bq,gO,aC,aj,ah,ae,aa,gF,aX,ja,au,hX,eF];have Xz:(-(2 ^ 62):Int)<=(S:Int)/\(S:Int) < 2 ^ 62:=by lia
 refine⟨Xz.1,Xz.2,ET (by simp [gH]; lia),?_⟩;refine Tf (fun pre acc τ G'=>(∃ a,τ=[a])/\∃ as:List Nat,acc=as.map D.ref/\AL G G' as (aU pre.length [])) ⟨⟨_,rfl⟩,[],rfl,.nil G⟩ (fun _ _ _ _ _=>trivial) ?_ ?_
 ·rintro pre x post acc τ G' N e ⟨⟨a,rfl⟩,as,rfl,al⟩ hN;simp only [aC,gF,aX,aB,ah];refine⟨by decide,fun p hp=>hN _ _ _ ⟨⟨_,rfl⟩,as++[p],by simp,?_⟩⟩;rw [ar,cW,RL];exact al.push hp []
 rintro acc τ G' ⟨⟨a,rfl⟩,as,rfl,al⟩ p3 f3;refine(al.top f3).fz ?_;have e3:D.ez ((aU (gH 0 S).length ([]:List D)).map D.ez)=enc (aU S ([]:List T3)):=by
  rw [kI]; simp [gH]
 rw [e3];clear al f3 p3 as G' a e3;refine⟨by decide,fun p6 f6=>?_⟩;simp only [cO];simp only [dF,au,aa];refine SO hd (.new f6) fun ok cN=>?_;refine cu (xs:=cells) (f:=D.int) (fun pre τ G'=>eY G G'/\∃ (rows:Rows) (cs:List Cr) (a1 a2 a3 a4 a5 a6:Option D),CR S rows cs/\cs.length=pre.length/\G' p6=some (.lst ((cs.map Cr.n).map D.int)) /\
  τ=[some d,some (.int S),some (.int sp),some (enc rows),some (.ref p6),a1,a2,a3,a4,a5,a6]) ⟨.new f6,_,[],_,_,_,_,_,_,CR.nil S,rfl,aA,rfl⟩ (fun _ _ _ h=>cN _ h.1) ?_ ?_
 ·rintro pre x post τ G' N2 e ⟨le,rows,cs,a1,a2,a3,a4,a5,a6,cr,VA,g6',rfl⟩ ke;have XD:=fk e;simp only [aC,aj,ah,gK,bq,bB,ay,au,ae,aa,bo,dC,aX,jQ,vB,ko,iA];refine⟨_,_,_,rfl,⟨by decide,by lia⟩,?_⟩;simp only [dE];have q1:=oW x 10007 (m:=sp) (by lia);have q2:=oX x 10007 (m:=sp) (by lia);refine⟨.ref p6,cs.map Cr.n,_,rfl,IsL.ref g6',⟨by rw [ao]; lia,by lia,by lia⟩,fun m m1 m2 m3=>?_⟩;simp only [g6',true_and];refine⟨RY (by rw [ao,ao]; lia),?_⟩;have Gn:eY G (c7 G' p6 (.lst ((cs.map Cr.n).map D.int++[.int m]))):=le.put f6;have g62:(c7 G' p6 (.lst ((cs.map Cr.n).map D.int++[.int m]))) p6=some (.lst ((cs.map Cr.n).map D.int++[.int m])):=aA;generalize c7 G' p6 (.lst ((cs.map Cr.n).map D.int++[.int m]))=G2 at Gn g62;refine⟨_,_,_,rfl,by decide,?_⟩;simp only [jL,lY];have h1:=oW x 10009 (m:=2) (by decide);have h2:=oX x 10009 (m:=2) (by decide);refine⟨.inl ⟨by decide,by decide⟩,?_⟩;have hh:(1 - 2 * pick x 10009 2)=1\/(1 - 2 * pick x 10009 2)=-1:=by lia
  generalize (1 - 2 * pick x 10009 2)=hd at hh;simp only [cO];simp only [ja,dC,hX];refine⟨by decide,by decide,?_⟩;have er:gH 0 (Int.toNat 2)=([0,1]:List Int).map D.int:=rfl;rw [er];have rl:=R6 cr SX;have fw:=(cr.dr SX).oG;refine cu (xs:=([0,1]:List Int)) (f:=D.int) (fun lh τ G3=>G2=G3/\∃ (R:Rows) (b1 b2 b3:Option D),((lh=[]/\R=rows)\/(∃ (i:Nat) (r:List T3) (k:Nat),lh=[0]/\i < S/\rows[i]?=some r/\R=rows.set i (r.take k++⟨m,0,hd⟩ :: r.drop k))\/(∃ c:Cr,lh=[0,1]/\c.n=m/\CR S R (cs++[c]))) /\
   τ=[some d,some (.int S),some (.int sp),some (enc R),some (.ref p6),some (.int x),some (.int m),some (.int hd),b1,b2,b3]) ⟨rfl,rows,_,_,_,.inl ⟨rfl,rfl⟩,rfl⟩ (fun _ _ _ _=>trivial) ?_ ?_
  ·rintro lh w zS τ G3 N3 e2 ⟨rfl,R,b1,b2,b3,J,rfl⟩ yp;have VX:(lh=[]/\w=0)\/(lh=[0]/\w=1):=by
    cases lh with
    | nil=>cases e2; exact .inl ⟨rfl,rfl⟩
    | cons u lh =>
     cases lh with
     | nil=>cases e2; exact .inr ⟨rfl,rfl⟩
     | cons v lh =>
      have:=congrArg dh e2;simp at this
   rcases VX with ⟨rfl,rfl⟩ | ⟨rfl,rfl⟩
   ·have eR:R=rows:=by
     rcases J with ⟨_,z⟩ | ⟨_,_,_,z,_⟩ | ⟨_,z,_⟩
     ·exact z
     ·cases z
     ·cases z
    subst eR;simp only [aC,aj,ah,gK,bq,bo,dC,au,ae,aa,bB,ay,aX,cZ,gF,gv,ai,aB,jL,dE];refine⟨.inl ⟨by decide,by decide⟩,?_⟩;refine⟨.inl ⟨by decide,by decide⟩,?_⟩;refine⟨_,_,_,rfl,⟨by decide,by decide⟩,?_⟩;refine fO ⟨_,_,_,rfl,⟨by decide,by lia⟩,fO ?_⟩;have i1:=oW x (10037+24 * 0) (m:=S) (by lia);have i2:=oX x (10037+24 * 0) (m:=S) (by lia);generalize pick x (10037+24 * 0) S=oi at i1 i2;obtain⟨i,rfl⟩:∃ i:Nat,oi=(i:Int):=⟨oi.toNat,by lia⟩;refine fO ⟨by decide,by decide,fun pa fa=>?_⟩;refine kH (xs:=[(⟨m,0,hd⟩:T3)]) (.new fa) fa aA ?_;refine⟨R,i,_,_,rfl,⟨by rw [cr.len]; lia,by rw [cr.len]; lia,fun r hr=>by have:=rl r hr; lia⟩,fun r k hr hk=>fO ?_⟩;exact yp _ _ ⟨rfl,_,_,_,_,.inr (.inl ⟨i,r,k,rfl,by lia,hr,rfl⟩),rfl⟩
   ·obtain⟨i,r,k,hi,hr,rfl⟩:∃ (i:Nat) (r:List T3) (k:Nat),i < S/\rows[i]?=some r/\R=rows.set i (r.take k++⟨m,0,hd⟩ :: r.drop k):=by
     rcases J with ⟨z,_⟩ | ⟨i,r,k,_,z⟩ | ⟨_,z,_⟩
     ·cases z
     ·exact⟨i,r,k,z⟩
     ·cases z
    simp only [aC,aj,ah,gK,bq,bo,dC,au,ae,aa,bB,ay,aX,cZ,gF,gv,ai,aB,jL,dE];refine⟨.inl ⟨by decide,by decide⟩,?_⟩;refine⟨.inl ⟨by decide,by decide⟩,?_⟩;refine⟨_,_,_,rfl,⟨by decide,by decide⟩,?_⟩;refine fO ⟨_,_,_,rfl,⟨by decide,by lia⟩,fO ?_⟩;have i1:=oW x (10037+24 * 1) (m:=S) (by lia);have i2:=oX x (10037+24 * 1) (m:=S) (by lia);generalize pick x (10037+24 * 1) S=oj at i1 i2;obtain⟨j,rfl⟩:∃ i:Nat,oj=(i:Int):=⟨oj.toNat,by lia⟩;refine fO ⟨by decide,by decide,fun pa fa=>?_⟩;refine kH (xs:=[(⟨m,1,hd⟩:T3)]) (.new fa) fa aA ?_;refine⟨_,j,_,_,rfl,⟨by rw [gT,cr.len]; lia,by rw [gT,cr.len]; lia,fun r2 hr2=>?_⟩,fun r' k' Vr P6=>fO ?_⟩
    ·rcases KA hr2 with z | z
     ·have:=rl r2 z; lia
     ·have:=rl r (fy hr);rw [z,ar,ai,eB,cI]; lia
    have crn:=cr.step (c:=⟨m,i,j,hd⟩) (by lia) m1 hh hi (by show j < S; lia) hr Vr (k:=k) (k':=k');exact yp _ _ ⟨rfl,_,_,_,_,.inr (.inr ⟨⟨m,i,j,hd⟩,rfl,rfl,crn⟩),rfl⟩
  ·rintro τ G3 ⟨rfl,R,b1,b2,b3,J,rfl⟩;obtain⟨c,ec,crn⟩:∃ c:Cr,c.n=m/\CR S R (cs++[c]):=by
    rcases J with ⟨z,_⟩ | ⟨_,_,_,z,_⟩ | ⟨c,_,z⟩
    ·cases z
    ·cases z
    ·exact⟨c,z⟩
   refine ke _ _ ⟨Gn,R,cs++[c],_,_,_,_,_,_,crn,by rw [ar,ar,VA]; rfl,?_,rfl⟩;rw [g62,aT,aT,av,aQ,ec]; rfl
 ·rintro τ G' ⟨le,rows,cs,a1,a2,a3,a4,a5,a6,cr,VA,g6',rfl⟩;simp only [cy,cZ,au,ae,aa];exact D4 le (q rows cs cr VA)
end HH
end K2
end
section
namespace K2
open PySem (Str)
open Enc (enc)
namespace HH
open K2.P K2.T
open K2.LV (Nc)
open K2.RC (NO yf tR pZ Dy K4 FL Dx Ez Ey j8 AU z3)
open K2.Kn (CR Cr lN)
open K2.Y (fk)
variable {rows:Rows}
noncomputable def yC(ps:List (T3×T3)):List (T2×T2):=ps.foldl (fun l p=>dJ l p.2.s p.2.s) []
noncomputable def ks(rows:Rows):List T2:=(tR rows).map fun p=>p.2.s
theorem PH(d:Dr rows):(ks rows).Nodup:=((pZ rows).map _).nodup_iff.mpr (Dg d)
theorem An(d:Dr rows){s:T2}:s∈ks rows↔s∈rows.flatten.map T3.s:=by
 unfold ks;rw [((pZ rows).map fun p=>p.2.s).mem_iff];constructor
 ·intro h;obtain⟨p,hp,rfl⟩:=List.mem_map.mp h;exact bg ((tW rows).mem_iff.mp (bg hp))
 ·intro h;obtain⟨p,hp,rfl⟩:=List.mem_map.mp h;obtain⟨q,hq,e⟩:=List.mem_map.mp ((tW rows).mem_iff.mpr hp);exact List.mem_map.mpr ⟨q,hq,by rw [e]⟩
theorem Jr(rows:Rows):(ks rows).length<=rows.flatten.length:=by unfold ks; rw [ao]; exact Dx rows
theorem SM(d:Dr rows):yC (tR rows)=(ks rows).map fun s=>(s,s):=by
 unfold yC;rw [tq (fun p:T3×T3=>p.2.s) (fun p=>p.2.s) _ _ (by rw [aQ,aO]; exact PH d),aO];unfold ks;rw [bA]; rfl
theorem LH(d:Dr rows){s:T2}(h:s∈rows.flatten.map T3.s):cB (j8 (tR rows)) s=some (yE rows s):=by
 obtain⟨q,hq,rfl⟩:=List.mem_map.mp h;obtain⟨p,hp,_⟩:=GD hq;rw [AU d hp,(QN d hp).2]
noncomputable def Jl(rows:Rows)(m:T2->T2):List (T2×T2):=(ks rows).map fun s=>(s,m s)
theorem Gb(rows:Rows)(m:T2->T2):(Jl rows m).map (·.1)=ks rows:=by
 unfold Jl;rw [bA];exact uI _
theorem wx{m:T2->T2}(d:Dr rows){s:T2}(h:s∈ks rows):cB (Jl rows m) s=some (m s) :=
 jd (p:=(s,m s)) (by rw [Gb]; exact PH d) (List.mem_map.mpr ⟨s,h,rfl⟩)
theorem Le(rows:Rows)(m:T2->T2)(x y:T2):vd (Jl rows m) (m x) (m y)=Jl rows (YN m x y):=by
 unfold vd Jl YN;rw [bA]; rfl
theorem Pt(d:Dr rows)(m:T2->T2):((Jl rows m).map (·.1)).Nodup:=by rw [Gb]; exact PH d
theorem Lf(rows:Rows)(m:T2->T2):(Jl rows m).length=(ks rows).length:=by unfold Jl; rw [ao]
theorem Hb{α:Type} [DecidableEq α] [Enc α]:∀ (l acc:List α),(l.map (enc:α->D)).foldl (fun acc d=>if acc.any (i5 · d)=true then acc else acc++[d]) (acc.map enc)=(l.foldl (fun acc x=>if x∈acc then acc else acc++[x]) acc).map enc
 | [],_=>rfl
 | k :: l,acc=>by
  rw [av,bF,bF];have ha:(acc.map (enc:α->D)).any (i5 · (enc k))=decide (k∈acc):=EB acc k;rw [ha];have:(if decide (k∈acc)=true then acc.map (enc:α->D) else acc.map enc++[enc k])=(if k∈acc then acc else acc++[k]).map enc:=by
   by_cases c:k∈acc
   ·rw [if_pos c,if_pos (decide_eq_true c)]
   ·rw [if_neg c,if_neg (by simpa using c),aT]; rfl
  rw [this];exact Hb l _
theorem S7{α:Type} [DecidableEq α] [Enc α](l:List α):(S8 (l.map enc)).length=(dd l).length:=by
 have:=Hb l [];rw [aQ] at this;unfold S8 dd;rw [this,ao]
theorem Mj(d:Dr rows){ps:List (T2×T2)}(P1:∀ p∈ps,p.1∈rows.flatten.map T3.s/\p.2∈rows.flatten.map T3.s){m:T2->T2}(k:N5 (ks rows) ps m) :
  Nc (jw rows) (Cn ps) ((dd ((ks rows).map m)).length+ou rows):=by
 have:=Nc.bare (Nc.Xl k.nc fun x=>An d) P1 (A0 rows 0) (LN d);rw [CT] at this;refine Nc.Xl this fun x=>?_;unfold jw;rw [(nI _).mem_iff,(ji rows 0).mem_iff]
noncomputable def wa:ie :=
 (bO (bq iq (aC 2))
 (bO (bq iq (aC 3))
 (bO (bq (dC (.int 0)) (aC 4))
 (bO (Np 2 (cO (kR (au 0)) (aC 5) (bO (bq (bo iH (au 4) (qW cInt (ay (bo (FI false) (au 5) (gF aX)) aX))) (aC 4))
 (cO (uQ (qW AW (ay (au 5) aX))) (aC 6) (bO (bq (gv (ay (bo jm (bo jm (au 5) (au 6)) (dC (.int 0))) (ay (bo jm (bo jm (au 5) (au 6)) (dC (.int 1))) aX))) (aC 7))
 (bO (bq (au 7) (fX (au 2) (au 7)))
 (bq (gv (ay (bo jm (bo jm (au 5) (bo IT (au 6) (dC (.int 1)))) (dC (.int 0))) (ay (bo jm (bo jm (au 5) (bo IT (au 6) (dC (.int 1)))) (dC (.int 1))) aX))) (fX (au 3) (au 7)))))))))
 (bO (cO (gC (au 1)) (aC 8) (bO (bq (gF (ay (gv (ay (bo jm (au 3) (gv (ay (au 8) (ay (dC (.int 0)) aX)))) (ay (gv (ay (au 8) (ay (dC (.int 1)) aX))) aX))) (ay (gv (ay (bo jm (au 3) (gv (ay (au 8) (ay (dC (.int 1)) aX)))) (ay (gv (ay (au 8) (ay (dC (.int 0)) aX))) aX))) aX))) (aC 9))
 (bO (mr (ml (bo (FI false) (bo jm (au 1) (au 8)) (dC (.int 1)))) (bq (gF (ay (gv (ay (bo jm (au 3) (gv (ay (au 8) (ay (dC (.int 0)) aX)))) (ay (bo jm (au 3) (gv (ay (au 8) (ay (dC (.int 1)) aX)))) aX))) (ay (gv (ay (gv (ay (au 8) (ay (dC (.int 0)) aX))) (ay (gv (ay (au 8) (ay (dC (.int 1)) aX))) aX))) aX))) (aC 9)) gm)
 (cO (kR (au 9)) (aC 10) (bq (bB iQ (ay (au 2) (ay (bo jm (au 10) (dC (.int 0))) (ay (bo jm (au 10) (dC (.int 1))) aX)))) (aC 2))))))
 (cy (cZ (bo iH (au 4) (qW Et (ay (gO 1 [2] (gC (au 2)) (aC 0) none (bo jm (au 1) (au 0))) aX))))))))))
noncomputable def jj:kN:=fun ds G Q _=>∃ (rows:Rows) (ch:List (Int×Int)),ds=[enc rows,.gZ (aR ch)]/\(Dr rows/\ch.length<=24/\(ch.map (·.1)).Nodup/\∀ p∈ch,p.1∈names rows/\(p.2=0\/p.2=1))/\∀ k:Nat,Nc (jw rows) (Cn (vw rows ch)) k->Q (.int (k:Int)) G
theorem EF(ds:List D)(G:Gp)(Q:DK)(h:jj ds G Q fun _ _=>False):wa (fun _ _=>False) (ends Q) (bb 11 ds) G:=by
 obtain⟨rows,ch,rfl,⟨d,hl,nd,hc⟩,q⟩:=h;have oG:=d.oG;unfold wa;simp only [ends,bb,av,aQ,ai,aB,aU,aL,aO,cM,bq,iq,gx,aC,aj,ah,dC];intro p2 f2 p3 f3;have Xj:p2≠p3:=fun z=>by rw [<-z,aA] at f3; cases f3
 have f3':G p3=none:=by rw [c6 Xj.symm] at f3; exact f3
 simp only [gK,lN,cO,dF,au,aa];refine jq ?_;refine cu (xs:=rows) (fun pre τ G'=>(∃ a b c,τ=[some (enc rows),some (.gZ (aR ch)),some (.ref p2),some (.ref p3),some (.int (ou pre:Int)),a,b,c,none,none,none])/\eY G G'/\G' p2=some (.dI (aR (yC (tR pre))))/\G' p3=some (.dI (aR (j8 (tR pre)))))
  ⟨⟨_,_,_,rfl⟩,(eY.new f2).trans (.new f3),by rw [c6 Xj,aA]; rfl,aA⟩ (fun _ _ _ _=>trivial) ?_ ?_
 ·rintro pre r post τ G1 N2 e ⟨⟨a,b,c,rfl⟩,l1,g2,g3⟩ ke;have hz:=K4 e;simp only [aC,aj,ah,gK,bq,bo,au,ae,aa,qW,ay,gF,aX,aB,cO,ja];refine⟨by decide,fun pe fe=>?_⟩;refine⟨enc r,enc ([]:List T3),Enc.sn _ _ _ (by decide),.ref aA .IS,?_⟩;rw [Enc.eqv];have e2:p2≠pe:=fun z=>by rw [<-z,g2] at fe; cases fe
  have e3:p3≠pe:=fun z=>by rw [<-z,g3] at fe; cases fe
  have l2:eY G (c7 G1 pe (.lst [])):=l1.trans (.new fe);have Uh:(c7 G1 pe (.lst [])) p2=some (.dI (aR (yC (tR pre)))):=by rw [c6 e2]; exact g2
  have g3':(c7 G1 pe (.lst [])) p3=some (.dI (aR (j8 (tR pre)))):=by rw [c6 e3]; exact g3
  generalize c7 G1 pe (.lst [])=G2 at l2 Uh g3';show cInt [.bl (if false=true then !decide (r=[]) else decide (r=[]))] G2 _;unfold cInt;dsimp only;have eb:(ou pre:Int)+(if decide (r=[])=true then 1 else 0)=(ou (pre++[r]):Int):=by
   unfold ou;rw [ik,ar];by_cases hr:r=[] <;> simp [hr]
  simp only [aJ,if_false,dE,eb];refine LK (IsL.enc r) ?_;simp only [hX];rw [ao];refine⟨by lia,by lia,?_⟩;unfold gH;refine cu (xs:=c9 (r.length:Int).toNat) (fun kz τ G'=>(∃ b c,τ=[some (enc rows),some (.gZ (aR ch)),some (.ref p2),some (.ref p3),some (.int (ou (pre++[r]):Int)),some (enc r),b,c,none,none,none])/\eY G G'/\G' p2=some (.dI (aR (yC (tR pre++yf r kz))))/\G' p3=some (.dI (aR (j8 (tR pre++yf r kz)))))
   ⟨⟨_,_,rfl⟩,l2,by rw [Uh]; simp [yf],by rw [g3']; simp [yf]⟩ (fun _ _ _ _=>trivial) ?_ ?_
  ·rintro kz k zS τ G3 N3 e3' ⟨⟨b,c,rfl⟩,l3,h2,h3⟩ yp;have hk:k < r.length:=by
    have:k∈c9 (r.length:Int).toNat:=by rw [e3']; simp
    have:=List.mem_range.mp this; lia
   have hks:kz.length<=r.length:=by
    have:=congrArg dh e3';rw [ka,ar,ai] at this; lia
   have aaP:(yC (tR pre++yf r kz)).length<=1000:=a9 (RC.GH _ _ _) (by rw [ar,Dy]; lia);have aaQ:(j8 (tR pre++yf r kz)).length<=1000:=a9 (RC.GH _ _ _) (by rw [ar,Dy]; lia);simp only [aC,aj,ah,gK,bq,gv,ay,bo,au,ae,aa,dC,aX,ai,aB,fX,lY];refine u3 (IsL.enc r) (Ez hk) ?_;simp only [pK,fJ,NU];refine u3 (IsL.enc r) (Ez hk) ?_;simp only [pK,fJ,NT];refine⟨by decide,?_⟩;refine P.dB (k:=(r.getD k z3).s) (v:=(r.getD k z3).s) h2 aaP ?_;have Lv:(c7 G3 p2 (.dI (aR (dJ (yC (tR pre++yf r kz)) (r.getD k z3).s (r.getD k z3).s)))) p2=some (.dI (aR (dJ (yC (tR pre++yf r kz)) (r.getD k z3).s (r.getD k z3).s))):=aA;have h3':(c7 G3 p2 (.dI (aR (dJ (yC (tR pre++yf r kz)) (r.getD k z3).s (r.getD k z3).s)))) p3=some (.dI (aR (j8 (tR pre++yf r kz)))):=by rw [c6 Xj.symm]; exact h3
   have l3':eY G (c7 G3 p2 (.dI (aR (dJ (yC (tR pre++yf r kz)) (r.getD k z3).s (r.getD k z3).s)))):=l3.put f2;generalize c7 G3 p2 (.dI (aR (dJ (yC (tR pre++yf r kz)) (r.getD k z3).s (r.getD k z3).s)))=G4 at Lv h3' l3';refine u3 (IsL.enc r) (Ey hk) ?_;simp only [pK,fJ,NU];refine u3 (IsL.enc r) (Ey hk) ?_;simp only [pK,fJ,NT];refine⟨by decide,?_⟩;refine P.dB (k:=(r.getD k z3).s) (v:=(NO r k).s) h3' aaQ ?_;have ep:tR pre++yf r (kz++[k])=(tR pre++yf r kz)++[(NO r k,r.getD k z3)]:=by unfold yf; simp
   refine yp _ _ ⟨⟨_,_,rfl⟩,l3'.put f3',?_,?_⟩
   ·rw [c6 Xj,Lv,ep];unfold yC;rw [cF (l':=[(NO r k,r.getD k z3)])];rfl
   ·rw [aA,ep];unfold j8;rw [cF (l':=[(NO r k,r.getD k z3)])];rfl
  ·rintro τ G3 ⟨⟨b,c,rfl⟩,l3,h2,h3⟩;refine ke _ _ ⟨⟨_,_,_,rfl⟩,l3,?_⟩;rw [FL]; exact⟨h2,h3⟩
 ·rintro τ G1 ⟨⟨a,b,c,rfl⟩,l1,g2,g3⟩;simp only [ae,aa,aj,ah];have lc:eY (c7 G p3 (.dI (aR (j8 (tR rows))))) G1:=fun x o hx=>by
   by_cases z:x=p3
   ·subst z; rw [aA] at hx; rw [g3]; exact hx
   ·rw [c6 z] at hx; exact l1 x o hx
  refine fY lc (by rw [c6 Xj]; exact f2) g2 ?_;have gc:(c7 G p3 (.dI (aR (j8 (tR rows))))) p3=some (.dI (aR (j8 (tR rows)))):=aA;have lG:eY G (c7 G p3 (.dI (aR (j8 (tR rows))))):=.new f3';generalize c7 G p3 (.dI (aR (j8 (tR rows))))=Gc at gc lG;clear lc l1 g2 g3;rw [SM d];simp only [gC,au,ae,aa,mZ];have ek:(aR ch).map (·.1)=ch.map fun p=>enc p.1:=by unfold aR; rw [bA]; rfl
  rw [ek];refine cu (xs:=ch) (fun pre τ G'=>(∃ (m:T2->T2) (a b c e f g:Option D),N5 (ks rows) (vw rows pre) m/\τ=[some (enc rows),some (.gZ (aR ch)),some (.gZ (aR (Jl rows m))),some (.ref p3),some (.int (ou rows:Int)),a,b,c,e,f,g])/\eY Gc G') ⟨⟨id,_,_,_,_,_,_,N5.nil _,rfl⟩,.refl _⟩ (fun _ _ _ _=>trivial) ?_ ?_
  ·rintro pre x post τ G2 N2 e ⟨⟨m,a,b,c,e1,f,g,YS,rfl⟩,l2⟩ ke;have hx:x∈ch:=by rw [e]; simp
   have hxv:=jd nd hx;obtain⟨hn,hw⟩:=hc x hx;have k0:=FZ d hn (.inl rfl);have k1:=FZ d hn (.inr rfl);have c0:=LH d k0;have c1:=LH d k1;have g3:=l2 _ _ gc;simp only [aC,aj,ah,gK,bq,gF,ay,gv,bo,au,ae,aa,dC,aX,ai,aB];refine⟨by decide,?_⟩;refine kF (k:=(⟨x.1,0⟩:T2)) g3 c0 ?_;refine⟨by decide,by decide,by decide,?_⟩;refine kF (k:=(⟨x.1,1⟩:T2)) g3 c1 ?_;refine⟨by decide,by decide,by decide,fun p9 f9=>?_⟩;have n39:p3≠p9:=fun z=>by rw [<-z,g3] at f9; cases f9
   have l9:eY Gc (c7 G2 p9 (.lst [D.tup [enc (yE rows ⟨x.1,0⟩),D.tup [enc x.1,D.int 1]],D.tup [enc (yE rows ⟨x.1,1⟩),D.tup [enc x.1,D.int 0]]])):=l2.trans (.new f9);have g9:(c7 G2 p9 (.lst [D.tup [enc (yE rows ⟨x.1,0⟩),D.tup [enc x.1,D.int 1]],D.tup [enc (yE rows ⟨x.1,1⟩),D.tup [enc x.1,D.int 0]]])) p9=some (.lst [D.tup [enc (yE rows ⟨x.1,0⟩),D.tup [enc x.1,D.int 1]],D.tup [enc (yE rows ⟨x.1,1⟩),D.tup [enc x.1,D.int 0]]]):=aA;generalize c7 G2 p9 (.lst [D.tup [enc (yE rows ⟨x.1,0⟩),D.tup [enc x.1,D.int 1]],D.tup [enc (yE rows ⟨x.1,1⟩),D.tup [enc x.1,D.int 0]]])=G5 at l9 g9;have g35:=l9 _ _ gc;simp only [Jz];have hlk:look (aR ch) (enc x.1)=some (enc x.2):=by rw [i9,hxv]; rfl
   simp only [bq,gF,ay,gv,bo,au,ae,aa,dC,aX,ai,aB,aC,aj,ah,gm,fm,lL,hlk];refine⟨fA _ _,?_⟩;refine Dt (α:=Int) (y:=1) (by decide) ?_;simp only [aJ,if_false,cV];rcases hw with e0 | e0
   ·have ne:¬ x.2=1:=by lia
    simp only [ne,decide_false,aJ,if_false];have HQ:G5 p9=some (.lst ((jps rows x.1 x.2).map enc)):=by rw [g9]; unfold jps; rw [if_pos e0]; rfl
    have LQ:=l9;simp only [cO,dF,au,ae,aa];rw [DT HQ];refine cu (xs:=jps rows x.1 x.2) (fun lh τ G'=>(∃ (m':T2->T2) (g':Option D),N5 (ks rows) (vw rows pre++lh) m'/\τ=[some (enc rows),some (.gZ (aR ch)),some (.gZ (aR (Jl rows m'))),some (.ref p3),some (.int (ou rows:Int)),a,b,c,some (.int x.1),some (.ref p9),g'])/\eY Gc G'/\G' p9=some (.lst ((jps rows x.1 x.2).map enc)))
     ⟨⟨m,_,by rw [cX]; exact YS,rfl⟩,LQ,HQ⟩ (fun _ _ _ h=>h.2.2) ?_ ?_
    ·rintro lh y zS τ G4 N3 e4 ⟨⟨m',g',DP,rfl⟩,l4,h4⟩ yp;have hy:y∈jps rows x.1 x.2:=by rw [e4]; simp
     obtain⟨y1,y2⟩:=Jt d hn y hy;have y1:=(An d).mpr y1;have y2:=(An d).mpr y2;have kl:=Jr rows;simp only [aC,bq,bB,ay,au,wW,aj,ah,ae,aa,bo,dC,aX,fJ,NT,NU];refine⟨_,y.1,y.2,m' y.1,m' y.2,rfl,⟨wx d y1,wx d y2,Pt d m',by rw [Lf]; lia⟩,?_⟩;rw [Le];exact yp _ _ ⟨⟨_,_,by rw [<-cf]; exact DP.step y1 y2,rfl⟩,l4,h4⟩
    ·rintro τ G4 ⟨⟨m',g',DP,rfl⟩,l4,h4⟩;refine ke _ _ ⟨⟨m',_,_,_,_,_,_,?_,rfl⟩,l4⟩;unfold vw at DP ⊢;rw [i0,ju]; exact DP
   ·simp only [e0,decide_true,if_true];refine⟨by decide,?_⟩;refine kF (k:=(⟨x.1,0⟩:T2)) g35 c0 ?_;refine⟨by decide,?_⟩;refine kF (k:=(⟨x.1,1⟩:T2)) g35 c1 ?_;refine⟨by decide,by decide,by decide,by decide,by decide,fun q9 h9=>?_⟩;have HQ:(c7 G5 q9 (.lst [D.tup [enc (yE rows ⟨x.1,0⟩),enc (yE rows ⟨x.1,1⟩)],D.tup [D.tup [enc x.1,D.int 0],D.tup [enc x.1,D.int 1]]])) q9=some (.lst ((jps rows x.1 x.2).map enc)):=by
     rw [aA]; unfold jps; rw [if_neg (by lia)]; rfl
    have LQ:eY Gc (c7 G5 q9 (.lst [D.tup [enc (yE rows ⟨x.1,0⟩),enc (yE rows ⟨x.1,1⟩)],D.tup [D.tup [enc x.1,D.int 0],D.tup [enc x.1,D.int 1]]])):=l9.trans (.new h9);generalize c7 G5 q9 (.lst [D.tup [enc (yE rows ⟨x.1,0⟩),enc (yE rows ⟨x.1,1⟩)],D.tup [D.tup [enc x.1,D.int 0],D.tup [enc x.1,D.int 1]]])=G6 at HQ LQ;simp only [cO,dF,au,ae,aa];rw [DT HQ];refine cu (xs:=jps rows x.1 x.2) (fun lh τ G'=>(∃ (m':T2->T2) (g':Option D),N5 (ks rows) (vw rows pre++lh) m'/\τ=[some (enc rows),some (.gZ (aR ch)),some (.gZ (aR (Jl rows m'))),some (.ref p3),some (.int (ou rows:Int)),a,b,c,some (.int x.1),some (.ref q9),g'])/\eY Gc G'/\G' q9=some (.lst ((jps rows x.1 x.2).map enc)))
     ⟨⟨m,_,by rw [cX]; exact YS,rfl⟩,LQ,HQ⟩ (fun _ _ _ h=>h.2.2) ?_ ?_
    ·rintro lh y zS τ G4 N3 e4 ⟨⟨m',g',DP,rfl⟩,l4,h4⟩ yp;have hy:y∈jps rows x.1 x.2:=by rw [e4]; simp
     obtain⟨y1,y2⟩:=Jt d hn y hy;have y1:=(An d).mpr y1;have y2:=(An d).mpr y2;have kl:=Jr rows;simp only [aC,bq,bB,ay,au,wW,aj,ah,ae,aa,bo,dC,aX,fJ,NT,NU];refine⟨_,y.1,y.2,m' y.1,m' y.2,rfl,⟨wx d y1,wx d y2,Pt d m',by rw [Lf]; lia⟩,?_⟩;rw [Le];exact yp _ _ ⟨⟨_,_,by rw [<-cf]; exact DP.step y1 y2,rfl⟩,l4,h4⟩
    ·rintro τ G4 ⟨⟨m',g',DP,rfl⟩,l4,h4⟩;refine ke _ _ ⟨⟨m',_,_,_,_,_,_,?_,rfl⟩,l4⟩;unfold vw at DP ⊢;rw [i0,ju]; exact DP
  ·rintro τ G2 ⟨⟨m,a,b,c,e1,f,g,YS,rfl⟩,l2⟩;have kl:=Jr rows;simp only [cy,cZ,bo,au,ae,aa,qW,ay,gO,gC,mZ,aX];have ek2:(aR (Jl rows m)).map (·.1)=(ks rows).map enc:=by unfold aR Jl; rw [bA,bA]; rfl
   rw [ek2];refine⟨ET (by rw [ao]; lia),?_⟩;refine kK (xs:=ks rows) (fun pre acc τ G'=>G2=G'/\(∃ a,τ=[a,some (.gZ (aR (Jl rows m)))])/\acc=(pre.map m).map enc) ⟨rfl,⟨_,rfl⟩,rfl⟩ (fun _ _ _ _ _=>trivial) ?_ ?_
   ·rintro pre s post acc τ G' N e ⟨rfl,⟨a,rfl⟩,rfl⟩ hN;have hs:s∈ks rows:=by rw [e]; simp
    simp only [aC,bo,au,ah,ae,aa,lL,i9,wx d hs,iE];refine⟨fA _ _,hN _ _ _ ⟨rfl,⟨_,rfl⟩,?_⟩⟩;rw [aT,aT]; rfl
   ·rintro acc τ G' ⟨rfl,⟨a,rfl⟩,rfl⟩ p hp;refine⟨((ks rows).map m).map enc,ID (IsL.ref aA),qQ (IsL.ref aA),⟨by rw [ao,ao]; lia,?_⟩,?_⟩
    ·rw [fB];intro z hz;obtain⟨s,_,rfl⟩:=List.mem_map.mp hz;rfl
    ·simp only [S7,dE];have en:(ou rows:Int)+((dd ((ks rows).map m)).length:Int)=(((dd ((ks rows).map m)).length+ou rows:Nat):Int):=by lia
     rw [en];exact D4 ((lG.trans l2).trans (.new hp)) (q _ (Mj d (O0 d fun p hp=>(hc p hp).1) YS))
end HH
end K2
end
section
namespace K2
open PySem (Str)
open Enc (enc)
namespace HH
open K2.P K2.T
open K2.LV (Nc Um)
open K2.Kn (CR Cr lN kI gh Ej)
open K2.Y (oq pick oW oX eG fV dN fk CD)
variable {rows:Rows}
theorem yU:∀ (L:List T3) (l:List (Int×Int)) (n:Int),cB (L.foldl (fun l p=>dJ l p.a p.c) l) n=(((L.reverse.find? fun p=>decide (p.a=n)).map (·.c)).or (cB l n))
 | [],l,n=>by simp
 | p :: L,l,n=>by
  rw [bF,yU L,List.reverse_cons,B0];cases h:L.reverse.find? fun p=>decide (p.a=n) with
  | some q=>simp
  | none =>
   simp only [Option.map_none,Option.none_or,di,List.find?_nil];rw [uv];by_cases c:p.a=n
   ·simp [c]
   ·simp [c]
theorem DX(d:Dr rows){n:Int}(h:n∈names rows):cB (pI rows.flatten) n=some (handOf rows n):=by
 unfold pI;rw [yU];obtain⟨p,hp,_,e⟩:=tZ.mp h;cases q:rows.flatten.reverse.find? fun p=>decide (p.a=n) with
 | none =>
  have:=List.find?_eq_none.mp q p (List.mem_reverse.mpr hp);simp [e] at this
 | some r =>
  have h1:=List.mem_reverse.mp (eW q);have h2:r.a=n:=by have:=mz q; simpa using this
  subst h2;rw [Lu d h1];rfl
theorem Du{h w:Int}(hw:w=0\/w=1):Mm h w=h * (1 - 2 * w):=by
 unfold Mm;rcases hw with rfl | rfl
 ·simp
 ·simp
end HH
end K2
end
section
namespace K2
open PySem (Str)
open Enc (enc)
namespace K31
open K2.Y
noncomputable def qE:ie :=
 (bO (bq (qW AY (ay (au 0) aX)) (aC 2))
 (bO (cO (gC (au 1)) (aC 3) (bq (bo iH (vB Ow DM (au 2) (ay (au 3) (ay (dC (.int 0)) aX))) (bo jm (au 1) (au 3))) (fX (au 2) (au 3))))
 (cy (cZ (bB fC (ay (cZ (au 2)) aX))))))
noncomputable def k6:kN:=pV
theorem vr(ds:List D)(G:Gp)(Q:DK)(h:k6 ds G Q fun _ _=>False):qE (fun _ _=>False) (ends Q) (bb 4 ds) G:=by
 obtain⟨d,e,l,m,rfl,hd,he,hl,q⟩:=h;unfold qE;simp only [ends,bb,av,aQ,ai,aB,aU,aL,aO,cM,bq,qW,ay,au,aa,aX,aC,aj,ah];refine AX hd.is.p (by lia) fun p hp=>?_;refine eS (fun τ G'=>(∃ a,τ=[some d,some e,some (.ref p),a])/\eY G G'/\G' p=some (.dI (aR (nV l m)))) ?_ ?_
 ·intro N hN;simp only [cO,gC,au,ae,aa];refine lz he.is (.new hp) fun ok cN=>?_;refine cu (xs:=m) (fun pre τ G'=>(∃ a,τ=[some d,some e,some (.ref p),a])/\eY G G'/\G' p=some (.dI (aR (nV l pre)))) ⟨⟨_,rfl⟩,.new hp,aA⟩ (fun pre τ G' h=>cN G' h.2.1) ?_ ?_
  ·rintro pre x post τ G' N2 e2 ⟨⟨a,rfl⟩,le,gp⟩ ke;have hm:x∈m:=by rw [e2]; simp
   have hlen:(nV l pre).length < SZ:=by
    have:=qc l pre;have:=fk e2; lia
   simp only [aC,bq,bo,vB,au,aj,ah,ae,aa,lJ,ay,dC,aX,fX];refine⟨C9 (tG.ref gp),Lh (tG.ref gp) ?_⟩;refine uP he.is.p (iN he.nd hm) ?_;simp only [mf,dE];refine dB (α:=Int) gp hlen ?_;refine ke _ _ ⟨⟨_,rfl⟩,le.put hp,?_⟩;rw [aA];unfold nV plus;rw [cF]; rfl
  ·rintro τ G' ⟨⟨a,rfl⟩,le,gp⟩;exact hN _ _ ⟨⟨_,rfl⟩,le,gp⟩
 ·rintro _ G' ⟨⟨a,rfl⟩,le,gp⟩;simp only [cy,cZ,bB,ay,au,ae,aa,aX];refine fY le hp gp ?_;refine⟨_,nV l m,rfl,⟨rfl,zW hd.nd⟩,by have:=qc l m; lia,fun p2 qr=>?_⟩;exact j4 (.new qr) qr aA q
end K31
end K2
end
section
namespace K2
open PySem (Str)
open Enc (enc)
namespace K33
open K2.Y
noncomputable def mW:ie :=
 (bO (bq iq (aC 3))
 (bO (cO (gC (au 0)) (aC 4) (bq (bo zN (bo jm (au 0) (au 4)) (au 2)) (fX (au 3) (bo iH (au 4) (au 1)))))
 (cy (cZ (bB fC (ay (cZ (au 3)) aX))))))
noncomputable def jk:kN:=kZ
theorem rn(ds:List D)(G:Gp)(Q:DK)(h:jk ds G Q fun _ _=>False):mW (fun _ _=>False) (ends Q) (bb 5 ds) G:=by
 obtain⟨d,l,b,f,rfl,hd,hl,⟨hb,hf⟩,q⟩:=h;unfold mW;simp only [ends,bb,av,aQ,ai,aB,aU,aL,aO,cM,bq,iq,aC,aj,ah];intro p hp;refine eS (fun τ G'=>(∃ u,τ=[some d,some (.int b),some (.int f),some (.ref p),u])/\eY G G'/\G' p=some (.dI (aR (Fi b f l)))) ?_ ?_
 ·intro N hN;simp only [cO,gC,au,aa];refine lz hd.is (.new hp) fun ok cN=>?_;refine cu (xs:=l) (fun pre τ G'=>(∃ u,τ=[some d,some (.int b),some (.int f),some (.ref p),u])/\eY G G'/\G' p=some (.dI (aR (Fi b f pre)))) ⟨⟨_,rfl⟩,.new hp,aA⟩ (fun pre τ G' h=>cN G' h.2.1) ?_ ?_
  ·rintro pre x post τ G' N2 e ⟨⟨u,rfl⟩,le,gp⟩ ke;have hlen:(Fi b f pre).length < SZ:=by
    have:=fk e;unfold Fi; rw [ao]; lia
   have hm:x∈l:=by rw [e]; simp
   have hx:x.2.natAbs < oH:=cL (tY hm) hb;simp only [aC,bq,bo,au,aj,ah,aa,ae,fX,dE];refine uP hd.is.p (iN hd.nd hm) ?_;refine⟨⟨hx,hf⟩,?_⟩;refine dB (α:=Int) gp hlen ?_;exact ke _ _ ⟨⟨_,rfl⟩,le.put hp,by rw [aA,<-zt b f hd.nd e]⟩
  ·rintro τ G' ⟨⟨u,rfl⟩,le,gp⟩;exact hN _ _ ⟨⟨_,rfl⟩,le,gp⟩
 ·rintro _ G' ⟨⟨u,rfl⟩,le,gp⟩;simp only [cy,cZ,bB,ay,au,ae,aa,aX];refine fY le hp gp ?_;refine⟨_,Fi b f l,rfl,⟨rfl,zu hd.nd b f⟩,by unfold Fi; rw [ao]; exact hl,fun p2 qr=>?_⟩;exact j4 (.new qr) qr aA q
end K33
end K2
end
section
namespace K2
open PySem (Str)
open Enc (enc)
namespace RB
open K2.P K2.T
open K2.LV (Nc Um)
open K2.Y
open K2.HH (vw jps IU Mm)
variable {rows:Rows}
noncomputable abbrev Ch:=List (Int×Int)
noncomputable def two(n:Int)(c:Ch):List Ch:=[c++[(n,0)],c++[(n,1)]]
noncomputable def xT(l:List Int):List Ch:=l.foldl (fun acc n=>acc.flatMap (two n)) [[]]
noncomputable def TH(a:List Int):List (List Int):=[a++[0],a++[1]]
noncomputable def Df:Nat->List (List Int)
 | 0=>[[]]
 | k+1=>(Df k).flatMap TH
theorem yL:∀ (k:Nat),(Df k).length=2 ^ k
 | 0=>rfl
 | k+1=>by
  have go:∀ l:List (List Int),(l.flatMap TH).length=2 * l.length:=fun l=>by
   induction l with
   | nil=>rfl
   | cons a l ih=>rw [cR,ar,ih,ai]; show 2+_=_; lia
  show ((Df k).flatMap TH).length=_;rw [go,yL k,xt]; lia
theorem vS:∀ (k:Nat) (a:List Int),a∈Df k->a.length=k
 | 0,a,h=>by rw [List.mem_singleton.mp h]; rfl
 | k+1,a,h=>by
  obtain⟨b,hb,hm⟩:=List.mem_flatMap.mp h;have:=vS k b hb;rcases List.mem_cons.mp hm with rfl | hm
  ·rw [ar,this]; rfl
  ·rw [List.mem_singleton.mp hm,ar,this]; rfl
theorem w5(l:List Int)(n:Int):xT (l++[n])=(xT l).flatMap (two n):=by
 unfold xT; rw [cF]; rfl
theorem snoc_ind{P:List Int->Prop}(h0:P [])(h1:∀ l n,P l->P (l++[n])):∀ l,P l:=fun l=>by
 have:∀ m:List Int,P m.reverse:=fun m=>by
  induction m with
  | nil=>exact h0
  | cons a m ih=>rw [List.reverse_cons]; exact h1 _ _ ih
 have:=this l.reverse
 rwa [List.reverse_reverse] at this
theorem LJ:∀ l:List Int,xT l=(Df l.length).map fun a=>l.zip a:=by
 refine snoc_ind rfl fun l n ih=>?_;rw [w5,ih,ar,cW];show _=((Df l.length).flatMap TH).map _;have go:∀ s:List (List Int),(∀ a∈s,a.length=l.length)->(s.map fun a=>l.zip a).flatMap (two n)=(s.flatMap TH).map fun a=>(l++[n]).zip a:=fun s=>by
  induction s with
  | nil=>intro _; rfl
  | cons a s ih =>
   intro h;rw [av,cR,cR,aT,ih fun b hb=>h b (aK _ hb)];congr 1;have e:=h a bJ;show [l.zip a++[(n,0)],l.zip a++[(n,1)]]=[(l++[n]).zip (a++[0]),(l++[n]).zip (a++[1])];rw [HN e.symm,HN e.symm]; rfl
 exact go _ (vS _)
theorem w6(l:List Int):(xT l).length=2 ^ l.length:=by rw [LJ,ao,yL]
theorem w7:∀ (l:List Int) (c:Ch),c∈xT l->c.map (·.1)=l/\∀ p∈c,p.2=0\/p.2=1:=by
 refine snoc_ind (fun c h=>?_) fun l n ih c h=>?_
 ·rw [List.mem_singleton.mp h]; exact⟨rfl,fun p hp=>by cases hp⟩
 ·rw [w5] at h;obtain⟨b,hb,hm⟩:=List.mem_flatMap.mp h;obtain⟨h1,h2⟩:=ih b hb;have go:∀ w:Int,(w=0\/w=1)->c=b++[(n,w)]->c.map (·.1)=l++[n]/\∀ p∈c,p.2=0\/p.2=1:=fun w hw e=>by
   subst e;refine⟨by rw [aT,h1]; rfl,fun p hp=>?_⟩;rcases List.mem_append.mp hp with hp | hp
   ·exact h2 p hp
   ·rw [List.mem_singleton.mp hp]; exact hw
  rcases List.mem_cons.mp hm with e | hm
  ·exact go 0 (.inl rfl) e
  ·exact go 1 (.inr rfl) (List.mem_singleton.mp hm)
noncomputable def SS:List Int->(Ch->Int)->Int
 | [],F=>F []
 | n :: l,F=>SS l (fun c=>F ((n,0) :: c))+SS l fun c=>F ((n,1) :: c)
theorem ED:∀ (l:List Int) (n:Int) (F:Ch->Int),SS (l++[n]) F=SS l fun c=>F (c++[(n,0)])+F (c++[(n,1)])
 | [],n,F=>rfl
 | m :: l,n,F=>by
  show SS (l++[n]) _+SS (l++[n]) _=SS l _+SS l _;rw [ED l,ED l]; rfl
theorem qz:∀ (a b:List Int),(a++b).sum=a.sum+b.sum
 | [],b=>by simp
 | x :: a,b=>by rw [aL,fQ,fQ,qz a b]; lia
theorem KL(n:Int)(F:Ch->Int):∀ s:List Ch,((s.flatMap (two n)).map F).sum=(s.map fun c=>F (c++[(n,0)])+F (c++[(n,1)])).sum
 | []=>rfl
 | c :: s=>by
  rw [cR,aT,qz,KL n F s,av,fQ];show (F (c++[(n,0)])+(F (c++[(n,1)])+0))+_=_;lia
theorem KN:∀ (l:List Int) (F:Ch->Int),((xT l).map F).sum=SS l F:=by
 refine snoc_ind (fun F=>?_) fun l n ih F=>?_
 ·show F []+0=F []; lia
 ·rw [w5,KL,ih,ED]
theorem abX(a b c d:Int):(a+b)+(c+d)=(a+c)+(b+d):=by lia
theorem Tw{l l':List Int}(h:l.Perm l'):∀ F:Ch->Int,(∀ c c':Ch,c.Perm c'->F c=F c')->SS l F=SS l' F:=by
 induction h with
 | nil=>exact fun F _=>rfl
 | cons n _ ih =>
  intro F hF;show SS _ _+SS _ _=SS _ _+SS _ _;rw [ih _ fun c c' p=>hF _ _ (p.cons _),ih _ fun c c' p=>hF _ _ (p.cons _)]
 | swap a b l =>
  intro F hF;show (SS l (fun c=>F ((b,0) :: (a,0) :: c))+SS l fun c=>F ((b,0) :: (a,1) :: c))+(SS l (fun c=>F ((b,1) :: (a,0) :: c))+SS l fun c=>F ((b,1) :: (a,1) :: c)) =
   (SS l (fun c=>F ((a,0) :: (b,0) :: c))+SS l fun c=>F ((a,0) :: (b,1) :: c))+(SS l (fun c=>F ((a,1) :: (b,0) :: c))+SS l fun c=>F ((a,1) :: (b,1) :: c))
  have e:∀ x y:Int×Int,(fun c:Ch=>F (x :: y :: c))=fun c=>F (y :: x :: c):=fun x y=>funext fun c=>hF _ _ (.swap y x c);rw [e (b,0) (a,0),e (b,0) (a,1),e (b,1) (a,0),e (b,1) (a,1)];exact abX _ _ _ _
 | trans _ _ i1 i2=>exact fun F hF=>(i1 F hF).trans (i2 F hF)
open Classical in
noncomputable def R(rows:Rows)(c:Ch):Nat:=if h:∃ k,Nc (jw rows) (Cn (vw rows c)) k then zj h else 0
theorem Ys{c:Ch}{k:Nat}(h:Nc (jw rows) (Cn (vw rows c)) k):R rows c=k:=by
 unfold R;rw [dif_pos ⟨k,h⟩];exact Nc.uniq (Um _) (uD (⟨k,h⟩:∃ k,Nc (jw rows) (Cn (vw rows c)) k)) h
theorem Cn.mono{α:Type}{ps qs:List (α×α)}(h:∀ p∈ps,p∈qs){x y:α}(c:Cn ps x y):Cn qs x y:=by
 induction c with
 | refl x=>exact .refl x
 | pair q=>exact .pair (h _ q)
 | symm _ ih=>exact .symm ih
 | trans _ _ a b=>exact .trans a b
theorem V7{c c':Ch}(h:c.Perm c'):R rows c=R rows c':=by
 have m:∀ p,p∈vw rows c↔p∈vw rows c':=fun p=>by
  unfold vw;rw [EO,EO];exact⟨fun ⟨q,hq,e⟩=>⟨q,h.mem_iff.mp hq,e⟩,fun ⟨q,hq,e⟩=>⟨q,h.mem_iff.mpr hq,e⟩⟩
 have e:Cn (vw rows c)=Cn (vw rows c'):=by
  funext x y;exact propext ⟨Cn.mono fun p=>(m p).mp,Cn.mono fun p=>(m p).mpr⟩
 unfold R;rw [e]
theorem OH{a b:List Int}(h:a.Perm b):a.sum=b.sum:=by
 induction h with
 | nil=>rfl
 | cons x _ ih=>rw [fQ,fQ,ih]
 | swap x y l=>rw [fQ,fQ,fQ,fQ]; lia
 | trans _ _ a b=>exact a.trans b
theorem OZ{c c':Ch}(h:c.Perm c'):IU rows c=IU rows c':=OH (h.map _)
noncomputable def LP:Po:=[(2,-1),(-2,-1)]
noncomputable def term(rows:Rows)(g:Int->Int)(c:Ch):Int:=L (fun i=>g (i+IU rows c)) (eI LP (R rows c))
noncomputable def BS(rows:Rows)(l:List Int)(g:Int->Int):Int:=SS l (term rows g)
theorem TG{l l':List Int}(h:l.Perm l')(g:Int->Int):BS rows l g=BS rows l' g :=
 Tw h _ fun c c' p=>by unfold term; rw [V7 p,OZ p]
noncomputable def cn(h:T2->Int)(l:List (T2×Int)):Int:=(l.map fun p=>p.2 * h p.1).sum
theorem QM(h:T2->Int)(k:T2)(v:Int):∀ (l:List (T2×Int)),(l.map (·.1)).Nodup->k∈l.map (·.1)->cn h (l.map fun p=>if p.1=k then (p.1,v) else p)=cn h l+(v - (cB l k).getD 0) * h k
 | [],_,m=>by cases m
 | p :: l,nd,m=>by
  rw [av,eV] at nd;have ag:cB (p :: l) k=if p.1=k then some p.2 else cB l k:=by
   unfold cB; rw [di]; by_cases c:p.1=k <;> simp [c]
  by_cases c:p.1=k
  ·have same:(l.map fun q=>if q.1=k then (q.1,v) else q)=l:=by
    conv=>rhs; rw [<-uI l]
    refine gR fun q hq=>?_;rw [if_neg fun z=>nd.1 (by rw [c,<-z]; exact bg hq)]; rfl
   rw [av,same,ag,if_pos c,if_pos c];show v * h p.1+cn h l=(p.2 * h p.1+cn h l)+(v - p.2) * h k;rw [c,Int.sub_mul]; lia
  ·have m':k∈l.map (·.1):=by
    rw [av] at m;rcases List.mem_cons.mp m with e | m
    ·exact absurd e.symm c
    ·exact m
   rw [av,ag,if_neg c,if_neg c];show p.2 * h p.1+cn h (l.map fun p=>if p.1=k then (p.1,v) else p)=(p.2 * h p.1+cn h l)+_;rw [QM h k v l nd.2 m']; lia
theorem Tu{l:List (T2×Int)}{k:T2}(h:k∉l.map (·.1)):cB l k=none:=by
 unfold cB;rw [Option.map_eq_none_iff,ij];intro p hp z;exact h (by rw [<-of_decide_eq_true z]; exact bg hp)
noncomputable def QL(l:List (T2×Int))(k:T2):List (T2×Int):=dJ l k ((cB l k).getD 0+1)
theorem VW(h:T2->Int){l:List (T2×Int)}(nd:(l.map (·.1)).Nodup)(k:T2):cn h (QL l k)=cn h l+h k:=by
 unfold QL;by_cases m:k∈l.map (·.1)
 ·rw [tF m,QM h k _ l nd m,Int.add_comm _ 1,Int.add_sub_cancel,Int.one_mul]
 ·rw [Y.gQ m,Tu m];unfold cn;rw [aT,qz];show _+((0+1) * h k+0)=_;lia
structure Ct(l:List (T2×Int))(n:Nat)(B:Nat):Prop where
 nd:(l.map (·.1)).Nodup
 len:l.length<=n
 num:∀ p∈l,p.2.natAbs<=n
 key:∀ p∈l,∃ k:Nat,p.1.b=k/\k<=B
theorem Ct.nil(B:Nat):Ct [] 0 B:=⟨dv,aF _,(fun p h=>by cases h),(fun p h=>by cases h)⟩
theorem Tv{l:List (T2×Int)}{k:T2}{v:Int}(h:cB l k=some v):∃ p∈l,p.2=v:=by
 unfold cB at h;obtain⟨p,hp,e⟩:=Option.map_eq_some_iff.mp h;exact⟨p,eW hp,e⟩
theorem Ct.put{l:List (T2×Int)}{n B:Nat}(c:Ct l n B){k:T2}(hk:∃ j:Nat,k.b=j/\j<=B):Ct (QL l k) (n+1) B:=by
 have hv:((cB l k).getD 0+1).natAbs<=n+1:=by
  cases e:cB l k with
  | none=>show (0+1:Int).natAbs<=n+1; lia
  | some v =>
   obtain⟨p,hp,ev⟩:=Tv e;have:=c.num p hp;rw [ev] at this;show (v+1).natAbs<=n+1;lia
 unfold QL;by_cases m:k∈l.map (·.1)
 ·rw [tF m];refine⟨?_,by rw [ao]; exact C1 c.len,fun p hp=>?_,fun p hp=>?_⟩
  ·rw [bA];have:(((·.1):T2×Int->T2)∘fun p=>if p.1=k then (p.1,(cB l k).getD 0+1) else p)=(·.1):=by
    funext p; show (if p.1=k then (p.1,(cB l k).getD 0+1) else p).1=p.1; split <;> rfl
   rw [this]; exact c.nd
  ·obtain⟨q,hq,rfl⟩:=List.mem_map.mp hp;by_cases z:q.1=k
   ·rw [if_pos z]; exact hv
   ·rw [if_neg z]; exact C1 (c.num q hq)
  ·obtain⟨q,hq,rfl⟩:=List.mem_map.mp hp;by_cases z:q.1=k
   ·rw [if_pos z,z]; exact hk
   ·rw [if_neg z]; exact c.key q hq
 ·rw [Y.gQ m];refine⟨?_,by rw [ar]; exact pA c.len,fun p hp=>?_,fun p hp=>?_⟩
  ·rw [aT,cE];refine⟨c.nd,by simp,fun a ha b hb e=>?_⟩;rw [List.mem_singleton.mp hb] at e;have e:a=k:=e;exact m (e ▸ ha)
  ·rcases List.mem_append.mp hp with hp | hp
   ·exact C1 (c.num p hp)
   ·rw [List.mem_singleton.mp hp]; exact hv
  ·rcases List.mem_append.mp hp with hp | hp
   ·exact c.key p hp
   ·rw [List.mem_singleton.mp hp]; exact hk
end RB
end K2
end
section
namespace K2
open PySem (Str)
open Enc (enc)
namespace RB
open K2.P K2.T
open K2.LV (Nc Um)
open K2.Kn (lN)
open K2.Y
open K2.HH (vw jps IU Mm lV lW)
variable {rows:Rows}
noncomputable def Bu(a:List Int):D:=.ez (a.map D.int)
noncomputable def EV(c:Ch):D:=.gZ (aR c)
noncomputable def vP:D:=.tup [.int 0,.int 1]
noncomputable def sN:ie :=
 (bO (bq (cZ (gF (ay (gF aX) aX))) (aC 1))
 (bO (cO (kR (au 0)) (aC 2) (bO (bq (gF aX) (aC 3))
 (bO (cO (kR (au 1)) (aC 4) (jQ (vB C8 t4 (au 3) (ay (gO 1 [4] (kR (au 2)) (aC 0) none (cZ (bo iH (au 1) (gF (ay (au 0) aX))))) aX))))
 (bq (cZ (au 3)) (aC 1)))))
 (cy (cZ (au 1)))))
noncomputable def kq:kN:=fun ds G Q _=>∃ k:Nat,ds=[.ez (aU k vP)]/\k<=6/\Q (.ez ((Df k).map Bu)) G
theorem u6{k:Nat}(h:k<=6):2 ^ k<=64:=pQ (by decide) h
theorem Ox:∀ l:List (List Int),(l.flatMap TH).length=2 * l.length
 | []=>rfl
 | a :: l=>by rw [cR,ar,Ox l,ai]; show 2+_=_; lia
theorem A7(ds:List D)(G:Gp)(Q:DK)(h:kq ds G Q fun _ _=>False):sN (fun _ _=>False) (ends Q) (bb 5 ds) G:=by
 obtain⟨k,rfl,hk,q⟩:=h;unfold sN;simp only [ends,bb,av,aQ,ai,aB,aU,aL,aO,cM,bq,cZ,gF,ay,aX,aC,aj,ah];refine⟨by decide,fun pa fa=>⟨by decide,fun pb fb=>?_⟩⟩;have la:eY G (c7 (c7 G pa (.lst [])) pb (.lst [.ref pa])):=(eY.new fa).trans (.new fb);have fb':G pb=none:=by
  cases e:G pb with
  | none=>rfl
  | some o=>have:=(eY.new (o:=.lst []) fa) _ _ e; rw [this] at fb; cases fb
 refine qR la fb' aA (.cons (.ref ((eY.new fb) _ _ aA) (by simp [fa]) .nil) .nil) ?_;refine eS (fun τ G'=>G=G'/\∃ a b c,τ=[some (.ez (aU k vP)),some (.ez ((Df k).map Bu)),a,b,c]) ?_ ?_
 ·intro N hN;simp only [cO,dF,au,aa,jo];refine JG (fun pre τ G'=>G=G'/\∃ a b c,τ=[some (.ez (aU k vP)),some (.ez ((Df pre.length).map Bu)),a,b,c]) ⟨rfl,_,_,_,rfl⟩ (fun _ _ _ _=>trivial) ?_ ?_
  ·rintro pre x post τ G' N2 e ⟨rfl,a,b,c,rfl⟩ ke;have hx:x=vP:=List.eq_of_mem_replicate (n:=k) (by rw [e]; simp);have hj:pre.length < k:=by have:=congrArg dh e; simp at this; lia
   subst hx;simp only [aC,aj,ah,gK,bq,gF,aX,aB];refine⟨by decide,fun p3 f3=>?_⟩;simp only [cO];simp only [dF,au,ae,aa,jo];have hz:=yL pre.length;have Wm:=u6 (k:=pre.length) (by lia);refine cu (xs:=Df pre.length) (f:=Bu) (fun lh τ G2=>eY G G2/\G2 p3=some (.lst ((lh.flatMap TH).map Bu))/\∃ c,τ=[some (.ez (aU k vP)),some (.ez ((Df pre.length).map Bu)),some vP,some (.ref p3),c]) ⟨.new f3,aA,_,rfl⟩ (fun _ _ _ _=>trivial) ?_ ?_
   ·rintro lh a2 zS τ G2 N3 e2 ⟨l2,g2,c,rfl⟩ yp;have XD:=fk e2;have hal:a2.length=pre.length:=vS _ _ (by rw [e2]; simp);simp only [aC,jQ,vB,au,aj,ah,ae,aa,ko,g2,ay,gO,aX,iz,dF,true_and];unfold vP;simp only [t7,ai,aB];refine⟨by decide,?_⟩;refine kK (xs:=([0,1]:List Int)) (f:=D.int) (fun pr acc τ G3=>G2=G3/\(∃ a,τ=[a,some (Bu a2)])/\acc=(pr.map fun w=>a2++[w]).map Bu) ⟨rfl,⟨_,rfl⟩,rfl⟩ (fun _ _ _ _ _=>trivial) ?_ ?_
    ·rintro pr w po acc τ G3 N4 e3 ⟨rfl,⟨a,rfl⟩,rfl⟩ XY;unfold Bu;simp only [aC,cZ,bo,au,ah,ae,aa,gF,ay,aX,ai,aB,l6];refine⟨by decide,fun pc fc=>?_⟩;refine LS IsL.ez (IsL.ref aA) (ET (by rw [ao,hal]; show _+1<=1000; lia)) fun pd fd=>?_;have fd':G2 pd=none:=by
      cases e:G2 pd with
      | none=>rfl
      | some o=>have:=(eY.new (o:=.lst [.int w]) fc) _ _ e; rw [this] at fd; cases fd
     refine qR ((eY.new fc).trans (.new fd)) fd' aA (EY.same _) ?_;refine XY _ _ _ ⟨rfl,⟨_,rfl⟩,?_⟩;rw [aT,aT];unfold Bu;simp only [av,aQ,aT]
    ·rintro acc τ G3 ⟨rfl,⟨a,rfl⟩,rfl⟩ pc fc;have n3:p3≠pc:=fun z=>by rw [<-z,g2] at fc; cases fc
     have g3:(c7 G2 pc (.lst [Bu (a2++[0]),Bu (a2++[1])])) p3=some (.lst ((lh.flatMap TH).map Bu)):=by rw [c6 n3]; exact g2
     have lo:ma (.ref pc) (c7 G2 pc (.lst [Bu (a2++[0]),Bu (a2++[1])]))=some [Bu (a2++[0]),Bu (a2++[1])]:=by unfold ma; simp only [aA]
     simp only [av,aQ,g3,lo,ai,aB];refine⟨ET ?_,?_⟩
     ·rw [ao,Ox]; show _+2<=1000; lia
     ·refine yp _ _ ⟨(l2.trans (.new fc)).put f3,?_,_,rfl⟩;rw [aA,i0,ju,aT]; rfl
   ·rintro τ G2 ⟨l2,g2,c,rfl⟩;simp only [bq,cZ,au,ae,aa,aC,aj,ah];refine qR l2 f3 g2 (EY.same _) ?_;refine ke _ _ ⟨rfl,some vP,some (.ref p3),c,?_⟩;rw [ar]; rfl
  ·rintro τ G' ⟨rfl,a,b,c,rfl⟩;rw [ft];exact hN _ _ ⟨rfl,_,_,_,rfl⟩
 ·rintro _ _ ⟨rfl,a,b,c,rfl⟩;simp only [cy,cZ,au,ae,aa];exact fO q
noncomputable def uO:ie :=
 (cy (cZ (gO 1 [0] (kR (bB kq (ay (cZ (gO 1 [] (kR (au 0)) (aC 0) none (cZ (gv (ay (dC (.int 0)) (ay (dC (.int 1)) aX)))))) aX))) (aC 0) none (cZ (QH (au 1) (au 0))))))
noncomputable def lK:kN:=fun ds G Q _=>∃ l:List Int,ds=[Bu l]/\(l.Nodup/\l.length<=6)/\Q (.ez ((xT l).map EV)) G
theorem BW(ds:List D)(G:Gp)(Q:DK)(h:lK ds G Q fun _ _=>False):uO (fun _ _=>False) (ends Q) (bb 1 ds) G:=by
 obtain⟨l,rfl,⟨nd,hl⟩,q⟩:=h;unfold uO Bu;simp only [cy,cZ,gO,bb,av,aQ,ai,aB,aL,aO,ends,dF,bB,ay,aX,au,aa,jo];refine⟨ET (by rw [ao]; lia),?_⟩;refine kK (xs:=l) (f:=D.int) (fun pr acc τ G3=>G=G3/\(∃ a,τ=[a])/\acc=aU pr.length vP) ⟨rfl,⟨_,rfl⟩,rfl⟩ (fun _ _ _ _ _=>trivial) ?_ ?_
 ·rintro pr w po acc τ G3 N e3 ⟨rfl,⟨a,rfl⟩,rfl⟩ hN;simp only [aC,cZ,gv,ay,dC,aX,ai,aB,ah];refine⟨by decide,fO (hN _ _ _ ⟨rfl,⟨_,rfl⟩,?_⟩)⟩;rw [ar,cW,RL]; rfl
 ·rintro acc τ G3 ⟨rfl,⟨a,rfl⟩,rfl⟩ pa fa;refine qR (.new fa) fa aA (EY.same _) ?_;refine⟨l.length,rfl,hl,?_⟩;simp only [jo];refine⟨ET (by rw [ao,yL]; have:=u6 hl; lia),?_⟩;refine kK (xs:=Df l.length) (f:=Bu) (fun pr acc τ G3=>G=G3/\(∃ a,τ=[a,some (.ez (l.map D.int))])/\acc=(pr.map fun a=>l.zip a).map EV) ⟨rfl,⟨_,rfl⟩,rfl⟩ (fun _ _ _ _ _=>trivial) ?_ ?_
  ·rintro pr a2 po acc τ G3 N e3 ⟨rfl,⟨a,rfl⟩,rfl⟩ hN;have hal:a2.length=l.length:=vS _ _ (by rw [e3]; simp);unfold Bu;simp only [aC,cZ,QH,au,ah,ae,aa];refine⟨l,a2,rfl,rfl,⟨nd,hal.symm,by lia⟩,fun p hp=>?_⟩;refine fY (.new hp) hp aA (hN _ _ _ ⟨rfl,⟨_,rfl⟩,?_⟩);rw [aT,aT]; rfl
  ·rintro acc τ G3 ⟨rfl,⟨a,rfl⟩,rfl⟩ pb fb;refine qR (.new fb) fb aA (EY.same _) ?_;rw [<-LJ]; exact q
end RB
end K2
end
section
namespace K2
open PySem (Str)
open Enc (enc)
namespace RB
open K2.P K2.T
open K2.LV (Nc Um)
open K2.Kn (lN)
open K2.Y
open K2.HH (vw jps IU Mm lV lW)
variable {rows:Rows}
theorem Xi{V:List T2}{ps:List (T2×T2)}{k:Nat}(h:Nc V (Cn ps) k):k<=V.length:=by
 obtain⟨A,a,rfl⟩:=h;have nd:A.Nodup:=List.nodup_iff_pairwise_ne.mpr (a.pw.imp fun {x y} h e=>h (by rw [e]; exact .refl _));exact mB nd fun x hx=>a.H0 x hx
theorem B5(rows:Rows):(jw rows).length<=rows.flatten.length+rows.length:=by
 unfold jw; rw [De]; exact zq rows
theorem Yt{c:Ch}:R rows c<=(jw rows).length:=by
 unfold R;split
 ·rename_i h; exact Xi (uD h)
 ·exact cq _
theorem EL:mL LP=2:=rfl
theorem Rb:ND LP:=by unfold ND LP; decide
theorem zR{r:Nat}(h:r<=15):(eI LP r).length<=32768:=a9 (qF LP r) (by show 2 ^ r<=2 ^ 15; exact pQ (by decide) h)
theorem LL{n:Nat}(h:n<=100):2 ^ n < oH:=by
 unfold oH;exact Nat.pow_lt_pow_right (by decide) (by lia)
theorem O3{r:Nat}(h:r<=15):mL (eI LP r) < oH:=cL (qI LP r) (by rw [EL]; exact LL (by lia))
theorem FE{r:Nat}(h:r<=15):r<=1000/\∀ k,k < r->LP.length ^ k * LP.length<=SZ/\mL LP ^ k < oH:=by
 refine⟨by lia,fun k hk=>⟨?_,by rw [EL]; exact LL (by lia)⟩⟩;show 2 ^ k * 2<=16777216;rw [<-xt];exact pQ (n:=2) (by decide) (show k+1<=24 by lia)
theorem tN{n:Nat}(h:n<=1000):n < oH:=cL h (bD (show 1000 < 2 ^ 10 by decide) (by unfold oH; exact pQ (by decide) (by decide)))
structure Tp(T:Po)(n:Nat)(f:(Int->Int)->Int):Prop where
 nd:ND T
 nz:NZ T
 len:T.length<=n * 32768
 val:∀ g,L g T=f g
theorem Tp.nil:Tp [] 0 (fun _=>0):=⟨.nil,fun p h=>(by cases h),aF _,fun _=>rfl⟩
theorem Tp.add{T:Po}{n r:Nat}{f:(Int->Int)->Int}(t:Tp T n f)(hr:r<=15)(b c:Int):Tp (Mw T (nS (eI LP r) b c)) (n+1) (fun g=>f g+c * L (fun i=>g (i+b)) (eI LP r)):=by
 refine⟨Sm t.nd,Pd _,?_,fun g=>?_⟩
 ·have h1:=Pe T (nS (eI LP r) b c);have h2:(nS (eI LP r) b c).length<=(eI LP r).length:=a9 (lr _) (by rw [ao]; exact aF _);have h3:=zR hr;have h4:=t.len;lia
 ·rw [Wc g t.nd,t.val,Q9]
noncomputable def ky(rows:Rows)(c:Ch):T2:=⟨IU rows c,(R rows c:Int)⟩
noncomputable def oT:ie :=
 (bO (bq iq (aC 1))
 (bO (Np 1 (cO (kR (bB lK (ay (cZ (bB kc (ay (au 0) aX))) aX))) (aC 2) (bO (bq (gv (ay (bB lW (ay (au 0) (ay (au 2) aX))) (ay (bB lV (ay (au 0) (ay (au 2) aX))) aX))) (aC 3))
 (bq (bo iH (vB Ow Lg (au 1) (ay (au 3) (ay (dC (.int 0)) aX))) (dC (.int 1))) (fX (au 1) (au 3))))))
 (bO (bq iq (aC 4))
 (bO (cO (DS (au 1)) (j7 (eA (aC 3) (eA (aC 5) jP))) (bq (bB pV (ay (cZ (au 4)) (ay (cZ (bB kZ (ay (cZ (bB tL (ay (cZ (QI [(2,-1),(-2,-1)])) (ay (cZ (bo jm (au 3) (dC (.int 1)))) aX)))) (ay (cZ (bo jm (au 3) (dC (.int 0)))) (ay (cZ (au 5)) aX))))) aX))) (aC 4)))
 (cy (cZ (au 4)))))))
noncomputable def gJ:kN:=fun ds G Q _=>∃ rows:Rows,ds=[enc rows]/\(Dr rows/\(names rows).length<=6/\(names rows).Nodup/\rows.flatten.length<=12)/\∀ T:Po,Tp T 64 (fun g=>BS rows (names rows) g)->gx G (.dI (aR T)) Q
theorem xh(ds:List D)(G:Gp)(Q:DK)(h:gJ ds G Q fun _ _=>False):oT (fun _ _=>False) (ends Q) (bb 6 ds) G:=by
 obtain⟨rows,rfl,⟨d,hn,nn,hf⟩,q⟩:=h;have str:=d.str;have oG:=d.oG;have Rv:=B5 rows;have hR:∀ c:Ch,R rows c<=15:=fun c=>a9 Yt (by lia);unfold oT;simp only [ends,bb,av,aQ,ai,aB,aU,aL,aO,cM,bq,iq,aC,aj,ah];intro p1 f1;refine eS (fun τ G'=>G=G'/\∃ (l:List (T2×Int)) (a b c e:Option D),Ct l (xT (names rows)).length 15/\(∀ h,cn h l=((xT (names rows)).map fun c=>h (ky rows c)).sum)/\τ=[some (enc rows),some (.gZ (aR l)),a,b,c,e]) ?_ ?_
 ·intro N hN;simp only [lN,cO,dF,bB,ay,cZ,au,aa,aX];refine⟨rows,rfl,(show rows.flatten.length < 64 by lia),fO ⟨names rows,rfl,⟨nn,hn⟩,?_⟩⟩;simp only [jo];have Qc:(xT (names rows)).length<=64:=by rw [w6]; exact u6 hn
  refine cu (xs:=xT (names rows)) (f:=EV) (fun pre τ G'=>eY G G'/\∃ (l:List (T2×Int)) (a b c e:Option D),Ct l pre.length 15/\(∀ h,cn h l=(pre.map fun c=>h (ky rows c)).sum)/\G' p1=some (.dI (aR l))/\τ=[some (enc rows),some (.ref p1),a,b,c,e])
   ⟨.new f1,[],_,_,_,_,Ct.nil 15,fun _=>rfl,aA,rfl⟩ (fun _ _ _ _=>trivial) ?_ ?_
  ·rintro pre c post τ G' N2 e ⟨le,l,a1,a2,a3,a4,ct,hv,gp,rfl⟩ ke;have XD:=fk e;obtain⟨c1,c2⟩:=w7 (names rows) c (by rw [e]; simp);have cl:c.length<=24:=by have:=congrArg dh c1; rw [ao] at this; lia
   have cm:∀ p∈c,p.1∈names rows:=fun p hp=>by rw [<-c1]; exact bg hp
   unfold EV;simp only [aC,aj,ah,gK,bq,gv,ay,bB,au,aa,ae,aX,ai,aB,bo,vB,lJ,dC,fX];refine⟨rows,c,rfl,⟨d,cl,cm⟩,?_⟩;refine⟨rows,c,rfl,⟨d,cl,cm⟩,fun k nc=>?_⟩;have ek:R rows c=k:=Ys nc;subst ek;refine⟨by decide,?_⟩;simp only [gp,true_and];refine Py (k:=ky rows c) (e:=(0:Int)) gp ?_;simp only [mf,dE];refine P.dB (k:=ky rows c) (v:=(cB l (ky rows c)).getD 0+1) gp (a9 ct.len (by lia)) ?_;have ct2:=ct.put (k:=ky rows c) ⟨R rows c,rfl,hR c⟩;refine ke _ _ ⟨le.put f1,QL l (ky rows c),_,_,_,_,by rw [ar]; exact ct2,fun h=>?_,by rw [aA]; rfl,rfl⟩;rw [VW h ct.nd,hv,aT,qz];simp
  ·rintro τ G' ⟨le,l,a1,a2,a3,a4,ct,hv,gp,rfl⟩;simp only [ae,aa,aj,ah];exact fY le f1 gp (hN _ _ ⟨rfl,l,_,_,_,_,ct,hv,rfl⟩)
 rintro _ _ ⟨rfl,l,a,b,c,e,ct,hv,rfl⟩;have Qc:(xT (names rows)).length<=64:=by rw [w6]; exact u6 hn
 generalize (xT (names rows)).length=M at ct Qc;clear f1;simp only [cM,bq,iq,aC,aj,ah];intro p4 f4;refine eS (fun τ G'=>∃ (T:Po) (p:Nat) (a b c:Option D),Tp T l.length (fun g=>cn (fun k=>L (fun i=>g (i+k.a)) (eI LP k.b.toNat)) l)/\G p=none/\eY G G'/\G' p=some (.dI (aR T))/\τ=[some (enc rows),some (.gZ (aR l)),a,b,some (.ref p),c]) ?_ ?_
 ·intro N hN;simp only [cO,DS,au,ae,aa];have hk:(((aR l).all fun p=>mH p.1)=true):=by
   unfold aR; rw [xl,fB]; intro p _; rfl
  refine⟨hk,?_⟩;have em:((aR l).map fun p=>D.tup [p.1,p.2])=l.map fun p=>D.tup [enc p.1,enc p.2]:=by unfold aR; rw [bA]; rfl
  rw [em];refine cu (xs:=l) (f:=fun p=>D.tup [enc p.1,enc p.2]) (fun pre τ G'=>∃ (T:Po) (p:Nat) (a b c:Option D),Tp T pre.length (fun g=>cn (fun k=>L (fun i=>g (i+k.a)) (eI LP k.b.toNat)) pre)/\G p=none/\eY G G'/\G' p=some (.dI (aR T))/\τ=[some (enc rows),some (.gZ (aR l)),a,b,some (.ref p),c])
   ⟨[],p4,_,_,_,Tp.nil,f4,.new f4,aA,rfl⟩ (fun _ _ _ _=>trivial) ?_ ?_
  ·rintro pre x post τ G' N2 e ⟨T,p,a1,a2,a3,tp,fp,le,gp,rfl⟩ ke;have XD:=fk e;have hm:x∈l:=by rw [e]; simp
   obtain⟨r,er,hr⟩:=ct.key x hm;have hx:=ct.num x hm;have hl:=ct.len;simp only [j7,eA,aC,jP,bq,bB,ay,cZ,au,VP,aj,ah,mf,ae,aa,bo,dC,aX,fJ,NU,NT];refine fY le fp gp ?_;unfold QI;intro p5 f5;refine fY (.new f5) f5 aA (fO ?_);rw [er];refine⟨_,LP,r,rfl,⟨rfl,Rb⟩,FE hr,by rw [EL]; exact tN (by decide),fun p6 f6=>?_⟩;refine fY (.new f6) f6 aA (fO (fO ?_));refine⟨_,eI LP r,_,_,rfl,⟨rfl,nA _ _⟩,a9 (zR hr) (by decide),⟨O3 hr,tN (by lia)⟩,fun p7 f7=>?_⟩;refine fY (.new f7) f7 aA ?_;have P1:(nS (eI LP r) x.1.a x.2).length<=32768:=a9 (a9 (lr _) (by rw [ao]; exact aF _)) (zR hr);refine⟨_,_,T,nS (eI LP r) x.1.a x.2,rfl,⟨rfl,tp.nd⟩,⟨rfl,Cd (nA _ _) _ _⟩,?_,fun p8 f8=>?_⟩
   ·have h4:=tp.len;show _<=16777216;lia
   ·have t2:=tp.add hr x.1.a x.2;refine ke _ _ ⟨_,p8,_,_,_,?_,f8,.new f8,aA,rfl⟩;rw [ar];refine⟨t2.nd,t2.nz,t2.len,fun g=>?_⟩;rw [t2.val];unfold cn;rw [aT,qz];show _=_+(x.2 * L (fun i=>g (i+x.1.a)) (eI LP x.1.b.toNat)+0);rw [er,eF,RN]
  ·rintro τ G' ⟨T,p,a1,a2,a3,tp,fp,le,gp,rfl⟩;exact hN _ _ ⟨T,p,_,_,_,tp,fp,le,gp,rfl⟩
 ·rintro _ G' ⟨T,p,a1,a2,a3,tp,fp,le,gp,rfl⟩;simp only [cy,cZ,au,ae,aa];refine j4 le fp gp (q T ⟨tp.nd,tp.nz,a9 tp.len (gE _ (by have:=ct.len; lia)),fun g=>?_⟩);rw [tp.val,hv];show _=SS _ _;rw [<-KN];rfl
end RB
end K2
end
section
namespace K2
open PySem (Str)
open Enc (enc)
namespace RB
open K2.P K2.T
open K2.LV (Nc Um)
open K2.Kn (CR Cr lN kI gh i7 Ej)
open K2.Y
open K2.HH (vw jps IU Mm lV lW jl jj iQ pI DX Du)
variable {rows:Rows}
noncomputable def qE:ie :=
 (bO (bq (qW AY (ay (au 0) aX)) (aC 2))
 (bO (cO (gC (au 1)) (aC 3) (bq (bo iH (vB Ow DM (au 2) (ay (au 3) (ay (dC (.int 0)) aX))) (bo jm (au 1) (au 3))) (fX (au 2) (au 3))))
 (cy (cZ (bB fC (ay (cZ (au 2)) aX))))))
noncomputable def k6:kN:=pV
theorem vr(ds:List D)(G:Gp)(Q:DK)(h:k6 ds G Q fun _ _=>False):qE (fun _ _=>False) (ends Q) (bb 4 ds) G:=K31.vr ds G Q h
noncomputable def mW:ie :=
 (bO (bq iq (aC 3))
 (bO (cO (gC (au 0)) (aC 4) (bq (bo zN (bo jm (au 0) (au 4)) (au 2)) (fX (au 3) (bo iH (au 4) (au 1)))))
 (cy (cZ (bB fC (ay (cZ (au 3)) aX))))))
noncomputable def jk:kN:=kZ
theorem rn(ds:List D)(G:Gp)(Q:DK)(h:jk ds G Q fun _ _=>False):mW (fun _ _=>False) (ends Q) (bb 5 ds) G:=K33.rn ds G Q h
noncomputable def lX:ie :=
 (bO (J3 (ml (bo (NN false) (au 1) (au 0))) (bq (bo iH (bo zP (au 1) (dC (.int 999))) (dC (.int 1))) (aC 1)))
 (cy (cZ (au 1))))
noncomputable def fu:kN:=Kn.fu
theorem pf(ds:List D)(G:Gp)(Q:DK)(h:fu ds G Q fun _ _=>False):lX (fun _ _=>False) (ends Q) (bb 2 ds) G:=Kn.pf ds G Q h
noncomputable def i8:ie :=
 (bO (Np 3 (bq (gO 1 [] (uQ (au 1)) (aC 0) none (gF aX)) (aC 3)))
 (bO (bq (gF aX) (aC 4))
 (bO (cO (kR (au 0)) (aC 5) (bO (bq (bB fu (ay (au 4) (ay (bo iH (dC (.int 1)) (bB dN (ay (au 5) (ay (dC (.int 10007)) (ay (au 2) aX))))) aX))) (aC 6))
 (bO (jQ (vB C8 qL (au 4) (ay (au 6) aX)))
 (bO (bq (bo IT (dC (.int 1)) (bo zO (dC (.int 2)) (bB dN (ay (au 5) (ay (dC (.int 10009)) (ay (dC (.int 2)) aX)))))) (aC 7))
 (cO (uQ (dC (.int 2))) (aC 8) (bO (bq (bo iH (dC (.int 10037)) (bo zO (dC (.int 24)) (au 8))) (aC 9))
 (bO (bq (bB dN (ay (au 5) (ay (bo iH (dC (.int 10039)) (bo zO (dC (.int 28)) (au 8))) (ay (dC (.int 10000)) aX)))) (aC 10))
 (bq (cZ (bB i7 (ay (cZ (au 3)) (ay (cZ (bB dN (ay (au 5) (ay (au 9) (ay (au 1) aX))))) (ay (cZ (au 10)) (ay (cZ (gF (ay (gv (ay (au 6) (ay (au 8) (ay (au 7) aX)))) aX))) aX)))))) (aC 3)))))))))
 (cy (cZ (au 3))))))
noncomputable def fI:kN:=HH.fI
theorem kL(ds:List D)(G:Gp)(Q:DK)(h:fI ds G Q fun _ _=>False):i8 (fun _ _=>False) (ends Q) (bb 11 ds) G:=HH.kL ds G Q h
noncomputable def wc:ie :=
 (bO (bq (uT (dC (.int 0)) (dC (.int 1))) (aC 1))
 (bO (cO (uQ (au 0)) (aC 2) (bq (bB kr (ay (cZ (au 1)) (ay (cZ (Hl (dC (.int 2)) (Ih Ds (dC (.int 1))) (Ih Ds (dC (.int 2))) (Ih Ds (dC (.int 1))))) aX))) (aC 1)))
 (cy (cZ (au 1)))))
noncomputable def mU:kN:=fun ds G Q _=>∃ r:Nat,ds=[.int r]/\r<=15/\gx G (.dI (aR (eI LP r))) Q
theorem EH(ds:List D)(G:Gp)(Q:DK)(h:mU ds G Q fun _ _=>False):wc (fun _ _=>False) (ends Q) (bb 3 ds) G:=by
 obtain⟨n,rfl,hn,q⟩:=h;obtain⟨X1,hk⟩:=FE hn;unfold wc;simp only [ends,bb,av,aQ,ai,aB,aU,aL,aO,cM,bq,uT,dC,aC,aj,ah];refine⟨rfl,fun p0 MV=>?_⟩;refine eS (fun τ G'=>(∃ a p,τ=[some (.int n),some (.ref p),a]/\G p=none/\G' p=some (.dI (aR (eI LP n))))/\eY G G') ?_ ?_
 ·intro N hN;simp only [cO,ja,au,aa,hX];refine⟨by lia,by lia,?_⟩;rw [eF];refine JG (fun pre τ G'=>(∃ a p,τ=[some (.int n),some (.ref p),a]/\G p=none/\G' p=some (.dI (aR (eI LP pre.length))))/\eY G G') ⟨⟨_,p0,rfl,MV,aA⟩,.new MV⟩ (fun _ _ _ _=>trivial) ?_ ?_
  ·rintro pre x post τ G' N2 e1 ⟨⟨a,p,rfl,hp,gp⟩,le⟩ ke;obtain⟨rfl,xK⟩:=zM e1;obtain⟨h1,h2⟩:=hk pre.length xK;simp only [aC,bq,bB,ay,cZ,au,aj,ah,ae,aa,Hl,dC,Ih,aX,lZ];refine fY le hp gp ⟨⟨rfl,rfl,rfl⟩,fun p1 Wo=>fY (.new Wo) Wo aA ?_⟩;refine⟨_,_,eI LP pre.length,LP,rfl,⟨rfl,nA _ _⟩,⟨rfl,Rb⟩,a9 (gE _ (qF LP _)) h1,⟨cL (qI LP _) h2,by rw [EL]; exact tN (by decide)⟩,fun p2 qr=>?_⟩;refine ke _ _ ⟨⟨_,p2,rfl,qr,?_⟩,.new qr⟩;rw [aA,ar]; rfl
  ·rintro τ G' ⟨⟨a,p,rfl,hp,gp⟩,le⟩;rw [show (gH 0 n).length=n by simp [gH]] at gp;exact hN _ _ ⟨⟨_,p,rfl,hp,gp⟩,le⟩
 ·rintro _ G' ⟨⟨a,p,rfl,hp,gp⟩,le⟩;simp only [cy,cZ,au,ae,aa];exact j4 le hp gp q
theorem Th{l:List Int}{c:Ch}(h:c∈xT l){n:Int}(hn:n∉l)(w:Int):dJ c n w=c++[(n,w)]:=by
 rw [Y.gQ];rw [(w7 l c h).1]; exact hn
theorem KI(n:Int):∀ s:List Ch,(s.flatMap (two n)).length=2 * s.length
 | []=>rfl
 | a :: l=>by rw [cR,ar,KI n l,ai]; show 2+_=_; lia
noncomputable def sP:ie :=
 (bO (bq (cZ (gF (ay iq aX))) (aC 1))
 (bO (cO (gC (au 0)) (aC 2) (bO (bq (gF aX) (aC 3))
 (bO (cO (kR (au 1)) (aC 4) (cO (uQ (dC (.int 2))) (aC 5) (bO (bq (qW AY (ay (au 4) aX)) (aC 6))
 (bO (bq (au 5) (fX (au 6) (au 2)))
 (jQ (vB C8 qL (au 3) (ay (cZ (au 6)) aX)))))))
 (bq (cZ (au 3)) (aC 1)))))
 (cy (cZ (au 1)))))
noncomputable def kA:kN:=fun ds G Q _=>∃ H:List (Int×Int),ds=[.gZ (aR H)]/\((H.map (·.1)).Nodup/\H.length<=6)/\Q (.ez ((xT (H.map (·.1))).map EV)) G
theorem A9(ds:List D)(G:Gp)(Q:DK)(h:kA ds G Q fun _ _=>False):sP (fun _ _=>False) (ends Q) (bb 7 ds) G:=by
 obtain⟨H,rfl,⟨nd,hl⟩,q⟩:=h;unfold sP;simp only [ends,bb,av,aQ,ai,aB,aU,aL,aO,cM,bq,cZ,gF,ay,iq,gx,aX,aC,aj,ah];intro pa fa;refine⟨by decide,fun pb fb=>?_⟩;have la:eY G (c7 (c7 G pa (.dI [])) pb (.lst [.ref pa])):=(eY.new fa).trans (.new fb);have fb':G pb=none:=(eY.new fa).free fb;refine qR (ss:=[EV []]) la fb' aA (.cons (.dI ((eY.new fb) _ _ aA) (by simp [fa]) (.same _)) .nil) ?_;refine eS (fun τ G'=>G=G'/\∃ a b c d e,τ=[some (.gZ (aR H)),some (.ez ((xT (H.map (·.1))).map EV)),a,b,c,d,e]) ?_ ?_
 ·intro N hN;simp only [cO,gC,au,aa,mZ];have ek:(aR H).map (·.1)=(H.map (·.1)).map D.int:=by unfold aR; rw [bA,bA]; rfl
  rw [ek];have hl':(H.map (·.1)).length<=6:=by rw [ao]; exact hl
  generalize H.map (·.1)=ns at nd hl' hN;refine cu (xs:=ns) (f:=D.int) (fun pre τ G'=>G=G'/\∃ a b c d e,τ=[some (.gZ (aR H)),some (.ez ((xT pre).map EV)),a,b,c,d,e]) ⟨rfl,_,_,_,_,_,rfl⟩ (fun _ _ _ _=>trivial) ?_ ?_
  ·rintro pre n post τ G' N2 e ⟨rfl,a1,a2,a3,a4,a5,rfl⟩ ke;have XD:=fk e;have Bw:n∉pre:=fun z=>by
    rw [e,cE] at nd;exact nd.2.2 n z n (by simp) rfl
   have hz:=w6 pre;have Wm:=u6 (k:=pre.length) (by lia);simp only [aC,aj,ah,gK,bq,gF,aX,aB];refine⟨by decide,fun p3 f3=>?_⟩;simp only [cO];simp only [dF,au,ae,aa,jo];refine cu (xs:=xT pre) (f:=EV) (fun lh τ G2=>eY G G2/\G2 p3=some (.lst ((lh.flatMap (two n)).map EV))/\∃ a b c,τ=[some (.gZ (aR H)),some (.ez ((xT pre).map EV)),some (.int n),some (.ref p3),a,b,c]) ⟨.new f3,aA,_,_,_,rfl⟩ (fun _ _ _ _=>trivial) ?_ ?_
   ·rintro lh c2 zS τ G2 N3 e2 ⟨l2,g2,b1,b2,b3,rfl⟩ yp;have afi:=fk e2;have xq:c2∈xT pre:=by rw [e2]; simp
    have DZ:c2.length<=6:=by have:=congrArg dh (w7 pre c2 xq).1; rw [ao] at this; lia
    simp only [cO];simp only [aC,aj,ah,ja,dC,hX];refine⟨by decide,by decide,?_⟩;have er:gH 0 (Int.toNat 2)=([0,1]:List Int).map D.int:=rfl;rw [er];refine cu (xs:=([0,1]:List Int)) (f:=D.int) (fun U2 τ G3=>eY G G3/\G3 p3=some (.lst ((lh.flatMap (two n)++U2.map fun w=>c2++[(n,w)]).map EV))/\∃ a b,τ=[some (.gZ (aR H)),some (.ez ((xT pre).map EV)),some (.int n),some (.ref p3),some (EV c2),a,b]) ⟨l2,by rw [aQ,cX]; exact g2,_,_,rfl⟩ (fun _ _ _ _=>trivial) ?_ ?_
    ·rintro U2 w acu τ G3 N4 e3 ⟨l3,g3,b4,b5,rfl⟩ XY;have afh:U2.length<=1:=by have:=congrArg dh e3; simp at this; lia
     simp only [aC,aj,ah,gK,bq,qW,ay,au,ae,aa,aX,fX,jQ,vB,ko,cZ,iA];unfold EV;refine AX (l:=c2) rfl (ET (by lia)) fun p4 f4=>?_;have n34:p3≠p4:=fun z=>by rw [<-z,g3] at f4; cases f4
     refine P.dB (k:=n) (v:=w) aA (by lia) ?_;rw [Th xq Bw];have e5:∀ o o',c7 (c7 G3 p4 o) p4 o'=c7 G3 p4 o':=fun o o'=>by funext b; unfold c7; split <;> rfl
     rw [e5];have g4:(c7 G3 p4 (.dI (aR (c2++[(n,w)])))) p4=some (.dI (aR (c2++[(n,w)]))):=aA;have g34:(c7 G3 p4 (.dI (aR (c2++[(n,w)])))) p3=_:=(c6 n34).trans g3;simp only [g34];refine⟨trivial,fY (.new f4) f4 g4 ?_⟩;simp only [g3];refine⟨RY (by rw [ao,ar,KI,ao]; lia),XY _ _ ⟨l3.put f3,?_,_,_,rfl⟩⟩;rw [aA];unfold EV;simp only [aT,av,aQ,cf]
    ·rintro τ G3 ⟨l3,g3,b4,b5,rfl⟩;refine yp _ _ ⟨l3,?_,_,_,_,rfl⟩;rw [g3,i0,ju]; rfl
   ·rintro τ G2 ⟨l2,g2,b1,b2,b3,rfl⟩;simp only [bq,cZ,au,ae,aa,aC,aj,ah];refine qR l2 f3 g2 (EY.same _) ?_;refine ke _ _ ⟨rfl,some (.int n),some (.ref p3),b1,b2,b3,?_⟩;rw [w5]
  ·rintro τ G' ⟨rfl,a1,a2,a3,a4,a5,rfl⟩;exact hN _ _ ⟨rfl,_,_,_,_,_,rfl⟩
 ·rintro _ _ ⟨rfl,a,b,c,d,e,rfl⟩;simp only [cy,cZ,au,ae,aa];exact fO q
end RB
end K2
end
section
namespace K2
open PySem (Str)
open Enc (enc)
namespace RB
open K2.P K2.T
open K2.LV (Nc Um)
open K2.Kn (CR Cr lN kI gh i7 Ej)
open K2.Y
open K2.HH (vw jps IU Mm lV lW jl jj iQ pI Aw DX yU Du SW)
variable {rows:Rows}
theorem Qb:∀ (L:List T3) (l:List (Int×Int)),(l.map (·.1)).Nodup->((L.foldl (fun l p=>dJ l p.a p.c) l).map (·.1)).Nodup
 | [],l,h=>h
 | p :: L,l,h=>Qb L _ (ND.put h _ _)
theorem pF{l:List (Int×Int)}{n:Int}:n∈l.map (·.1)↔(cB l n).isSome=true:=by
 unfold cB;rw [rV,List.find?_isSome];constructor
 ·intro h;obtain⟨p,hp,e⟩:=List.mem_map.mp h;exact⟨p,hp,by simp [e]⟩
 ·rintro⟨p,hp,e⟩;have e:p.1=n:=by simpa using e
  rw [<-e]; exact bg hp
theorem Qa(d:Dr rows)(nn:(names rows).Nodup):((pI rows.flatten).map (·.1)).Perm (names rows):=by
 have knd:((pI rows.flatten).map (·.1)).Nodup:=Qb rows.flatten [] dv;rw [Iy knd nn];intro n;constructor
 ·intro h;have h:=pF.mp h;unfold pI at h;rw [yU] at h;cases e:(rows.flatten.reverse.find? fun p=>decide (p.a=n)) with
  | none=>rw [e] at h; exact bI (show false=true from h)
  | some p =>
   have h1:=List.mem_reverse.mp (eW e);have h2:p.a=n:=by have:=mz e; simpa using this
   rw [tZ];rcases d.way p h1 with h0 | h0
   ·exact⟨p,h1,h0,h2⟩
   ·exact⟨_,d.Px p h1,by show 1 - p.b=0; lia,h2⟩
 ·intro h;exact pF.mpr (by rw [DX d h]; rfl)
noncomputable def sR:ie :=
 (bO (bq (bB jl (ay (au 0) aX)) (aC 1))
 (bO (bq iq (aC 2))
 (bO (cO (kR (bB kA (ay (au 1) aX))) (aC 3) (bO (bq (dC (.int 0)) (aC 4))
 (bO (cO (gC (au 3)) (aC 5) (bq (bo iH (au 4) (bo zO (bo jm (au 1) (au 5)) (bo IT (dC (.int 1)) (bo zO (dC (.int 2)) (bo jm (au 3) (au 5)))))) (aC 4)))
 (bq (bB k6 (ay (cZ (au 2)) (ay (cZ (bB jk (ay (cZ (bB mU (ay (bB jj (ay (au 0) (ay (au 3) aX))) aX))) (ay (cZ (au 4)) (ay (cZ (dC (.int 1))) aX))))) aX))) (aC 2)))))
 (cy (cZ (au 2))))))
noncomputable def kB:kN:=fun ds G Q _=>∃ rows:Rows,ds=[enc rows]/\(Dr rows/\(names rows).length<=6/\(names rows).Nodup/\rows.flatten.length<=12)/\∀ T:Po,Tp T 64 (fun g=>BS rows (names rows) g)->gx G (.dI (aR T)) Q
theorem Bb(ds:List D)(G:Gp)(Q:DK)(h:kB ds G Q fun _ _=>False):sR (fun _ _=>False) (ends Q) (bb 6 ds) G:=by
 obtain⟨rows,rfl,⟨d,hn,nn,hf⟩,q⟩:=h;have str:=d.str;have Rv:=B5 rows;have hR:∀ c:Ch,R rows c<=15:=fun c=>a9 Yt (by lia);have kp:=Qa d nn;have knd:((pI rows.flatten).map (·.1)).Nodup:=kp.nodup_iff.mpr nn;have SG:(pI rows.flatten).length<=6:=by have:=kp.length_eq; rw [ao] at this; lia
 have Ib:∀ n∈(pI rows.flatten).map (·.1),cB (pI rows.flatten) n=some (handOf rows n):=fun n h=>DX d (kp.mem_iff.mp h);unfold sR;simp only [ends,bb,av,aQ,ai,aB,aU,aL,aO,cM,bq,bB,ay,au,aa,aX,aC,aj,ah,iq];refine⟨rows,rfl,by lia,?_⟩;generalize pI rows.flatten=H at kp knd SG Ib;intro p1 f1;refine eS (fun τ G'=>∃ (T:Po) (p:Nat) (a b c:Option D),Tp T (xT (H.map (·.1))).length (fun g=>((xT (H.map (·.1))).map (term rows g)).sum)/\G p=none/\eY G G'/\G' p=some (.dI (aR T))/\τ=[some (enc rows),some (.gZ (aR H)),some (.ref p),a,b,c]) ?_ ?_
 ·intro N hN;simp only [cO,dF,bB,ay,au,ae,aa,aX];refine⟨H,rfl,⟨knd,SG⟩,?_⟩;simp only [jo];have Qc:(xT (H.map (·.1))).length<=64:=by rw [w6]; exact u6 (by rw [ao]; exact SG)
  refine cu (xs:=xT (H.map (·.1))) (f:=EV) (fun pre τ G'=>∃ (T:Po) (p:Nat) (a b c:Option D),Tp T pre.length (fun g=>(pre.map (term rows g)).sum)/\G p=none/\eY G G'/\G' p=some (.dI (aR T))/\τ=[some (enc rows),some (.gZ (aR H)),some (.ref p),a,b,c])
   ⟨[],p1,_,_,_,Tp.nil,f1,.new f1,aA,rfl⟩ (fun _ _ _ _=>trivial) ?_ ?_
  ·rintro pre c post τ G' N2 e ⟨T,p,a1,a2,a3,tp,fp,le,gp,rfl⟩ ke;have XD:=fk e;obtain⟨c1,c2⟩:=w7 _ c (by rw [e]; simp);have cl:c.length<=6:=by have:=congrArg dh c1; rw [ao,ao] at this; lia
   have cnd:(c.map (·.1)).Nodup:=by rw [c1]; exact knd
   have cin:∀ p∈c,p.1∈H.map (·.1):=fun p hp=>by rw [<-c1]; exact bg hp
   unfold EV;simp only [aC,aj,ah,gK,bq,dC];refine eS (fun τ G2=>G'=G2/\∃ a,τ=[some (enc rows),some (.gZ (aR H)),some (.ref p),some (.gZ (aR c)),some (.int (IU rows c)),a]) ?_ ?_
   ·intro N3 yp;simp only [cZ,bb,ends,fm,bo,Ih,au,qW,vB,ay,aX,cy,Hk,jQ,bq,aC,dC,gm,gv,gF,iq,qV,QJ,RA,wY,oh,wX,qj,BN,jc,fZ,dF,ja,bB,gO,dE,sT,nR,l6,lY,jL,kE,pW,lZ,tQ,wg,wj,wm,fJ,nQ,oU,tO,tP,ot,tE,ql,iA,iz,l8,iK,ko,lJ,vO,vN,true_and,and_true,jo,t7,fP,cV,hX,qg,wH,sY,av,aQ,aL,aO,aa,ae,ah,aj,ai,aB,aU,if_true,if_false,dg,fT,aJ,cM,sE,fX,ib,gC,sS,k9,uT,j7,eA,jP,cO,mZ];have ek:(aR c).map (·.1)=c.map fun p=>D.int p.1:=by unfold aR; rw [bA]; rfl
    rw [ek];refine cu (xs:=c) (f:=fun p=>D.int p.1) (fun pr τ G2=>G'=G2/\∃ a,τ=[some (enc rows),some (.gZ (aR H)),some (.ref p),some (.gZ (aR c)),some (.int (IU rows pr)),a]) ⟨rfl,_,rfl⟩ (fun _ _ _ _=>trivial) ?_ ?_
    ·rintro pr x po τ G2 N4 e2 ⟨rfl,a,rfl⟩ XY;have hx:x∈c:=by rw [e2]; simp
     have hw:=c2 x hx;have hh:=(SW d (kp.mem_iff.mp (cin x hx))).1;simp only [aC,bq,bo,au,aj,ah,ae,aa,dC];refine uP (l:=H) tG.gZ (Ib _ (cin x hx)) ?_;refine uP (l:=c) tG.gZ (iN cnd hx) ?_;simp only [mf,jL,lY,dE];refine⟨.inl ⟨by decide,by decide⟩,.inl ⟨by lia,by lia⟩,XY _ _ ⟨rfl,some (.int x.1),?_⟩⟩;unfold IU;rw [aT,qz];simp only [av,aQ,fQ,Rl,RN];rw [Du hw]
    ·rintro τ G2 ⟨rfl,a,rfl⟩;exact yp _ _ ⟨rfl,_,rfl⟩
   ·rintro _ _ ⟨rfl,a,rfl⟩;simp only [bq,bB,ay,cZ,au,ae,aa,aX,dC,aC,aj,ah];refine fY le fp gp ?_;refine⟨rows,c,rfl,⟨d,by lia,cnd,fun p hp=>⟨kp.mem_iff.mp (cin p hp),c2 p hp⟩⟩,fun k nc=>?_⟩;have ek:R rows c=k:=Ys nc;subst ek;have hr:=hR c;have et:∀ g,term rows g c=L (fun i=>g (i+IU rows c)) (eI LP (R rows c)):=fun g=>rfl;generalize R rows c=r at hr et;generalize IU rows c=b at et;refine⟨r,rfl,hr,fun p6 f6=>?_⟩;refine fY (.new f6) f6 aA (fO (fO ?_));refine⟨_,eI LP r,_,_,rfl,⟨rfl,nA _ _⟩,a9 (zR hr) (by decide),⟨O3 hr,tN (by decide)⟩,fun p7 f7=>?_⟩;refine fY (.new f7) f7 aA ?_;have P1:(nS (eI LP r) b 1).length<=32768:=a9 (a9 (lr _) (by rw [ao]; exact aF _)) (zR hr);refine⟨_,_,T,nS (eI LP r) b 1,rfl,⟨rfl,tp.nd⟩,⟨rfl,Cd (nA _ _) _ _⟩,?_,fun p8 f8=>?_⟩
    ·have h4:=tp.len;show _<=16777216;lia
    ·have t2:=tp.add hr b 1;refine ke _ _ ⟨_,p8,_,_,_,?_,f8,.new f8,aA,rfl⟩;rw [ar];refine⟨t2.nd,t2.nz,t2.len,fun g=>?_⟩;rw [t2.val,aT,qz,Int.one_mul];simp only [av,aQ,fQ,Rl,RN];rw [et]
  ·rintro τ G' ⟨T,p,a1,a2,a3,tp,fp,le,gp,rfl⟩;exact hN _ _ ⟨T,p,_,_,_,tp,fp,le,gp,rfl⟩
 ·rintro _ G' ⟨T,p,a1,a2,a3,tp,fp,le,gp,rfl⟩;simp only [cy,cZ,au,ae,aa];have Qc:(xT (H.map (·.1))).length<=64:=by rw [w6]; exact u6 (by rw [ao]; exact SG)
  refine j4 le fp gp (q T ⟨tp.nd,tp.nz,a9 tp.len (gE _ Qc),fun g=>?_⟩);rw [tp.val,KN];exact TG kp g
theorem Tp.eq{T U:Po}{n m:Nat}{f:(Int->Int)->Int}(t:Tp T n f)(u:Tp U m f):rS T U=true:=VN t.nd u.nd t.nz u.nz fun g=>by rw [t.val,u.val]
noncomputable abbrev UO:kN:=B6
noncomputable def OV:ie :=
 (bO (bq (bo iH (dC (.int 1)) (bo zP (bB eG (ay (au 0) (ay (dC (.int 0)) aX))) (dC (.int 3)))) (aC 1))
 (bO (bq (dC (.int 12)) (aC 2))
 (bO (mr (ml (bo (FH false) (bo zP (bB eG (ay (au 0) (ay (dC (.int 1)) aX))) (dC (.int 2))) (dC (.int 1)))) (bq (dC (.int 999)) (aC 2)) gm)
 (bO (bq (bB fI (ay (BN (au 0) (rG (dC (.int 3))) (rG (bo iH (dC (.int 3)) (bo zP (bB eG (ay (au 0) (ay (dC (.int 2)) aX))) (dC (.int 6)))))) (ay (au 1) (ay (au 2) aX)))) (aC 3))
 (bO (bq (cZ (bB gh (ay (au 3) aX))) (aC 4))
 (bO (bq (bB kB (ay (au 3) aX)) (aC 5))
 (bO (bq (bB gJ (ay (au 4) aX)) (aC 6))
 (bO (mr (RA (wY (ml (J4 oR (ay (au 6) aX)))) (ml (bo (FH true) (au 6) (au 5)))) (cy (cZ (dC (.bl false)))) gm)
 (bO (bq (dC (.int 1)) (fX (au 6) (dC (.int 101))))
 (cy (cZ (CL (bo (FH false) (bB gJ (ay (au 4) aX)) (au 5)) (CL (bo (FH false) (au 4) (au 3)) (VR [(2,-1),(-2,-1)] (Hl (dC (.int 2)) (Ih Ds (dC (.int 1))) (Ih Ds (dC (.int 2))) (Ih Ds (dC (.int 1))))))))))))))))))
theorem Wa(ds:List D)(G:Gp)(Q:DK)(h:UO ds G Q fun _ _=>False):OV (fun _ _=>False) (ends Q) (bb 7 ds) G:=by
 obtain⟨ns,rfl,hl,hG,q⟩:=h;unfold OV;simp only [ends,bb,av,aQ,ai,aB,aU,aL,aO,cM,bq,bo,dC,bB,ay,au,aa,aX,aC,aj,ah];refine⟨ns,0,rfl,by decide,by decide,?_⟩;have s1:0<=oq ns 0 % 3:=mE _ (by decide);have s2:oq ns 0 % 3 < 3:=jF _ (by decide);generalize oq ns 0 % 3=s0 at s1 s2;obtain⟨S,hS⟩:∃ S:Nat,1+s0=(S:Int):=⟨(1+s0).toNat,by lia⟩;have hS1:1<=S:=by lia
 have SX:S<=3:=by lia
 simp only [dE,hS];refine eS (fun τ G'=>G=G'/\∃ sp:Int,(1<=sp/\sp<=999)/\τ=[some (.ez (ns.map D.int)),some (.int S),some (.int sp),none,none,none,none]) ?_ ?_
 ·intro N hN;simp only [mr,bq,dC,aC,aj,ah,gm,fm,bo,bB,ay,au,aa,aX];refine⟨ns,1,rfl,by decide,by decide,OX ?_⟩;simp only [aJ,if_false,cV];split
  ·exact hN _ _ ⟨rfl,999,by decide,rfl⟩
  ·exact hN _ _ ⟨rfl,12,by decide,rfl⟩
 rintro _ _ ⟨rfl,sp,⟨sp1,sp2⟩,rfl⟩;simp only [cM,bq,bB,ay,BN,au,aa,ae,aX,aC,aj,ah,cZ,tO,jc,bo,dC,fP];refine⟨ns,2,rfl,by decide,by decide,?_⟩;have d1:0<=oq ns 2 % 6:=mE _ (by decide);have d2:oq ns 2 % 6 < 6:=jF _ (by decide);generalize oq ns 2 % 6=j at d1 d2;simp only [dE,fP];rw [wZ];intro pS fS;have DZ:(cut ns (some 3) (some (3+j))).length<=5:=by
  unfold cut jZ;simp only;rw [if_neg (by lia),if_neg (by lia)];simp only [eB,cI]; lia
 generalize cut ns (some 3) (some (3+j))=cells at DZ;have gS:(c7 G pS (.lst (cells.map D.int))) pS=some (.lst (cells.map D.int)):=aA;generalize c7 G pS (.lst (cells.map D.int))=G1 at gS;refine⟨.ref pS,cells,S,sp,rfl,IsL.ref gS,⟨by lia,⟨hS1,SX⟩,sp1,sp2⟩,fun rows cs cr VA=>?_⟩;have dr:=cr.dr SX;have hnm:(names rows).length=cs.length:=by rw [cr.names.length_eq,ao]
 have nn:(names rows).Nodup:=cr.names.nodup_iff.mpr cr.nd;have hfl:rows.flatten.length<=12:=by rw [cr.perm.length_eq,Kn.AH]; lia
 have nY:Dr rows/\(names rows).length<=6/\(names rows).Nodup/\rows.flatten.length<=12:=⟨dr,by lia,nn,hfl⟩;simp only [cZ,bb,ends,fm,bo,Ih,au,qW,vB,ay,aX,cy,Hk,jQ,bq,aC,dC,gm,gv,gF,iq,qV,QJ,RA,wY,oh,wX,qj,BN,jc,fZ,dF,ja,bB,gO,dE,sT,nR,l6,lY,jL,kE,pW,lZ,tQ,wg,wj,wm,fJ,nQ,oU,tO,tP,ot,tE,ql,iA,iz,l8,iK,ko,lJ,vO,vN,true_and,and_true,jo,t7,fP,cV,hX,qg,wH,sY,av,aQ,aL,aO,aa,ae,ah,aj,ai,aB,aU,if_true,if_false,dg,fT,aJ,cM,sE,fX,ib,gC,sS,k9,uT,j7,eA,jP];refine⟨rows.map fun r=>r.map enc,by rw [kI],by rw [ao,cr.len]; lia,fun G3 p2 as2 h2=>h2.fz ?_⟩;rw [<-kI];refine⟨rows,rfl,nY,fun T tT p3 f3=>?_⟩;have due:tG (c7 G1 p3 (.dI (aR T))) (.ref p3) T:=tG.ref aA;generalize c7 G1 p3 (.dI (aR T))=G4 at due;simp only [cZ,bb,ends,fm,bo,Ih,au,qW,vB,ay,aX,cy,Hk,jQ,bq,aC,dC,gm,gv,gF,iq,qV,QJ,RA,wY,oh,wX,qj,BN,jc,fZ,dF,ja,bB,gO,dE,sT,nR,l6,lY,jL,kE,pW,lZ,tQ,wg,wj,wm,fJ,nQ,oU,tO,tP,ot,tE,ql,iA,iz,l8,iK,ko,lJ,vO,vN,true_and,and_true,jo,t7,fP,cV,hX,qg,wH,sY,av,aQ,aL,aO,aa,ae,ah,aj,ai,aB,aU,if_true,if_false,dg,fT,aJ,cM,sE,fX,ib,gC,sS,k9,uT,j7,eA,jP];refine⟨rows,rfl,nY,fun U tU p4 f4=>?_⟩;have le4:=fun o=>eY.new (o:=o) f4;simp only [cZ,bb,ends,fm,bo,Ih,au,qW,vB,ay,aX,cy,Hk,jQ,bq,aC,dC,gm,gv,gF,iq,qV,QJ,RA,wY,oh,wX,qj,BN,jc,fZ,dF,ja,bB,gO,dE,sT,nR,l6,lY,jL,kE,pW,lZ,tQ,wg,wj,wm,fJ,nQ,oU,tO,tP,ot,tE,ql,iA,iz,l8,iK,ko,lJ,vO,vN,true_and,and_true,jo,t7,fP,cV,hX,qg,wH,sY,av,aQ,aL,aO,aa,ae,ah,aj,ai,aB,aU,if_true,if_false,dg,fT,aJ,cM,sE,fX,ib,gC,sS,k9,uT,j7,eA,jP,mr,J4];refine⟨_,aA,_,_,rfl,⟨rfl,tU.nd⟩,tU.nz,.inl ⟨rfl,?_⟩⟩;simp only [cy,cZ,dC,gm,cM,bq,fX,au,ae,aa,oh,bo,bB,ay,aX,if_true,fm];refine FG (tG.ref aA) (due.mono (le4 _)) ?_;simp only [tU.eq tT,dg,if_true,cV,aJ,if_false];refine dB (α:=Int) (v:=1) aA (cL tU.len (by decide)) ?_;have e2:∀ o o',c7 (c7 G4 p4 o) p4 o'=c7 G4 p4 o':=fun o o'=>by funext b; unfold c7; split <;> rfl
 rw [e2];generalize (GO.dI (aR (dJ U 101 1)))=oo;have X8:=due.mono (le4 oo);generalize c7 G4 p4 oo=G5 at X8;refine⟨rows,rfl,nY,fun V tV p5 f5=>?_⟩;refine FG (tG.ref aA) (X8.mono (.new f5)) ?_;simp only [aJ,tV.eq tT,dg,if_false,cV,if_true];refine .inl ⟨_,_,Enc.sn _ _ _ (by decide),Enc.sn _ _ _ (by decide),?_⟩;simp only [aJ,Ej,dg,if_false,VR,Hl,dC,Ih,lZ,cV,if_true];refine⟨⟨rfl,rfl,rfl⟩,fun p6 f6=>⟨LP,tG.ref aA,?_⟩⟩;have:rS [(2,-1),(-2,-1)] LP=true:=CD Rb;rw [this];exact fO (q _)
end RB
end K2
end
namespace Fin
open PySem PySem.Spec PyProof.Rows L2 K2
open K2.Kn hiding fu pf lX
open K2.HH hiding fu fI kL i8
open K2.RB
open K2.P
open K2.Y
noncomputable def top(i:Nat):Stmt:=PySem.Challenge.pw_knotwise_k42_bracket_by_all_choices.main.body.getD i (.Pass ⟨0,0,0,0⟩)
section
variable {P:bG} {w:World} {K:aq} {mg:Str->Option Value} {base:Heap}
theorem zD:bU ["_law_script","_law_k"] ["_law_script","_law_k"] (a0 (top 33)):=qo
theorem AE {f:Addr} {fd:aH} (F:nB K "_law_cell_at" "_law_cell_at" (top 33) f fd) (lx:mg "len" = none):fK P w K mg base gu 1 f fd ["_law_script","_law_k"] (cD K eG) :=
 qS F zD Ba fun _ _ _ _ _ _ hr=>have hu:=hr.units; have hu0:=hr.Ou; (aG (lg (g6 (Vc hu0) (bw 1) (iR ue rfl lx AZ (ak (bw 0) aI)) (iW _)) (aN (bT (br (cw hu (bw 0) (bw 1) (fun _ _=>rfl))))) hZ)
 (aN (bT (br aS))))
theorem x5:bU ["_law_names","_law_name"] ["_law_names","_law_name"] (a0 (top 42)):=qo
theorem GR {f:Addr} {fd:aH} (F:nB K "_law_free" "_law_free" (top 42) f fd):fK P w K mg base gu 1 f fd ["_law_names","_law_name"] (cD K fu) :=
 qS F x5 pf fun _ _ _ _ _ _ hr=>have nd:=x5.nd; have hu:=hr.units; (aG (Mp aW (g6 (Vd hu) (bw 1) (bw 0) (by with_unfolding_all rfl)) (aN (jD (i:=1) nd rfl (cJ eM (cJ qG (bw 1) aS) aS))))
 (aN (bT (br (bw 1)))))
theorem Fq:bU ["_law_cell","_law_prime","_law_many"] ["_law_cell","_law_prime","_law_many"] (a0 (top 35)):=qo
theorem GQ {f:Addr} {fd:aH} (F:nB K "_law_pick" "_law_pick" (top 35) f fd):fK P w K mg base gu 1 f fd ["_law_cell","_law_prime","_law_many"] (cD K dN) :=
 qS F Fq HD fun _ _ _ _ _ _ hr=>(aN (bT (br (cJ qG (cJ qG (cJ tX (bw 0) aS) (bw 1)) (bw 2)))))
theorem Fs:bU ["_law_rows"] ["_law_rows"] (a0 (top 41)):=qo
theorem GS {f:Addr} {fd:aH} (F:nB K "_law_copy" "_law_copy" (top 41) f fd) (DH:mg "list" = none):fK P w K mg base gu 1 f fd ["_law_rows"] (cD K gh) :=
 qS F Fs HE fun _ _ _ _ _ _ hr=>(aN (bT (br (kG ["_law_row"] (sc:=a0 (top 41)) (XN:=["_law_rows"]) (eX (bw 0)) (fun _ _ _ _=>(j0 (i:=0) (show (["_law_row"]:List Str).Nodup by decide +kernel) rfl)) (fun _ _ _ _=>.none) (fun _ _ _ _=>(nT Kc rfl DH To (ak (bw 0) aI)))))))
theorem zC:bU ["_law_rows","_law_at","_law_place","_law_more","_law_made"] ["_law_rows","_law_at","_law_place","_law_more"] (a0 (top 43)):=qo
theorem JK {f:Addr} {fd:aH} (F:nB K "_law_put" "_law_put" (top 43) f fd) (lx:mg "len" = none) {vh:Addr} {vj:aH} (iD:oK P w K mg base gu 1 vh vj "_law_copy" ["_law_rows"] (cD K gh)):fK P w K mg base gu 2 f fd ["_law_rows","_law_at","_law_place","_law_more"] (cD K i7) :=
 qS F zC Kk fun _ _ _ _ _ _ hr=>have nd:=zC.nd; have hu:=hr.units; (aG (jD (i:=4) nd rfl (bp iD.ok (hr.mono (by decide)) rfl iD.mg iD.kp iD.bi (ak (bw 0) aI)))
 (aG (jD (i:=2) nd rfl (cJ qG (bw 2) (cJ eM (iR ue rfl lx AZ (ak (cw hu (bw 4) (bw 1) (fun _ _=>rfl)) aI)) aS)))
 (aG (fD (cJ eM (cJ eM (jn (cw hu (bw 4) (bw 1) (fun _ _=>rfl)) l7 (jM (bw 2))) (bw 3)) (jn (cw hu (bw 4) (bw 1) (fun _ _=>rfl)) (jM (bw 2)) l7)) (fE hu (bw 4) (bw 1)))
 (aN (bT (br (bw 4)))))))
theorem sI:bU ["_law_cells","_law_strings","_law_spread","_law_rows","_law_names","_law_cell","_law_name","_law_hand","_law_way","_law_prime","_law_place"] ["_law_cells","_law_strings","_law_spread"] (a0 (top 44)):=qo
theorem AB {f:Addr} {fd:aH} (F:nB K "_law_drawing" "_law_drawing" (top 44) f fd) (fU:mg "range" = none) {JT:Addr} {J2:aH} (rh:oK P w K mg base gu 1 JT J2 "_law_free" ["_law_names","_law_name"] (cD K fu)) {JS:Addr} {J1:aH} (eC:oK P w K mg base gu 1 JS J1 "_law_pick" ["_law_cell","_law_prime","_law_many"] (cD K dN)) {Na:Addr} {Nk:aH} (ui:oK P w K mg base gu 2 Na Nk "_law_put" ["_law_rows","_law_at","_law_place","_law_more"] (cD K i7)):fK P w K mg base gu 3 f fd ["_law_cells","_law_strings","_law_spread"] (cD K fI) :=
 qS F sI kL fun _ _ _ _ _ _ hr=>have nd:=sI.nd; (aG (Dw (O1 ["_law_k"] (sc:=a0 (top 44)) (XN:=["_law_cells","_law_strings","_law_spread","_law_rows","_law_names","_law_cell","_law_name","_law_hand","_law_way","_law_prime","_law_place"]) (i:=3) nd rfl rfl (lj rfl fU (bw 1)) (fun _ _ _ _=>(j0 (i:=0) (show (["_law_k"]:List Str).Nodup by decide +kernel) rfl)) (fun _ _ _ _=>.none) (fun _ _ _ _=>(fW aI))))
 (aG (jD (i:=4) nd rfl (fW aI))
 (aG (ck aW rfl (eX (bw 0)) (j0 (i:=5) nd rfl) (aG (jD (i:=6) nd rfl (bp rh.ok (hr.mono (by decide)) rfl rh.mg rh.kp rh.bi (ak (bw 4) (ak (cJ eM aS (bp eC.ok (hr.mono (by decide)) rfl eC.mg eC.kp eC.bi (ak (bw 5) (ak aS (ak (bw 2) aI))))) aI))))
 (aG (pY (nU gy rN rL pU vc (bw 4) (ak (bw 6) aI)))
 (aG (jD (i:=7) nd rfl (cJ yP aS (cJ tX aS (bp eC.ok (hr.mono (by decide)) rfl eC.mg eC.kp eC.bi (ak (bw 5) (ak aS (ak aS aI)))))))
 (aN (ck aW rfl (lj rfl fU aS) (j0 (i:=8) nd rfl) (aG (jD (i:=9) nd rfl (cJ eM aS (cJ tX aS (bw 8))))
 (aG (jD (i:=10) nd rfl (bp eC.ok (hr.mono (by decide)) rfl eC.mg eC.kp eC.bi (ak (bw 5) (ak (cJ eM aS (cJ tX aS (bw 8))) (ak aS aI)))))
 (aN (jD (i:=3) nd rfl (br (bp ui.ok (hr.mono (by decide)) rfl ui.mg ui.kp ui.bi (ak (br (bw 3)) (ak (br (bp eC.ok (hr.mono (by decide)) rfl eC.mg eC.kp eC.bi (ak (bw 5) (ak (bw 9) (ak (bw 1) aI))))) (ak (br (bw 10)) (ak (br (fW (ak (dq (ak (bw 6) (ak (bw 8) (ak (bw 7) aI)))) aI))) aI))))))))))))))))
 (aN (bT (br (bw 3)))))))
theorem vY:bU ["_law_rows","_law_hands_here","_law_row","_law_passing"] ["_law_rows"] (a0 (top 45)):=qo
theorem Ec {f:Addr} {fd:aH} (F:nB K "_law_hands" "_law_hands" (top 45) f fd):fK P w K mg base gu 1 f fd ["_law_rows"] (cD K jl) :=
 qS F vY EI fun _ _ _ _ _ _ hr=>have nd:=vY.nd; have hu:=hr.units; (aG (jD (i:=1) nd rfl gL)
 (aG (ck aW rfl (eX (bw 0)) (j0 (i:=2) nd rfl) (aN (ck aW rfl (eX (bw 2)) (j0 (i:=3) nd rfl) (aN (fD (cw hu (bw 3) aS (fun _ _=>rfl)) (fE hu (bw 1) (cw hu (bw 3) aS (fun _ _=>rfl))))))))
 (aN (bT (br (bw 1))))))
theorem sJ:bU ["_law_hands_here","_law_made","_law_name","_law_longer","_law_choice","_law_way","_law_more"] ["_law_hands_here"] (a0 (top 49)):=qo
theorem AD {f:Addr} {fd:aH} (F:nB K "_law_choices" "_law_choices" (top 49) f fd) (no_dict:mg "dict" = none) (fU:mg "range" = none):fK P w K mg base gu 1 f fd ["_law_hands_here"] (cD K kA) :=
 qS F sJ A9 fun _ _ _ _ _ _ hr=>have nd:=sJ.nd; have hu:=hr.units; (aG (jD (i:=1) nd rfl (br (fW (ak gL aI))))
 (aG (ck aW rfl (iI (bw 0)) (j0 (i:=2) nd rfl) (aG (jD (i:=3) nd rfl (fW aI))
 (aG (ck aW rfl (eX (bw 1)) (j0 (i:=4) nd rfl) (aN (ck aW rfl (lj rfl fU aS) (j0 (i:=5) nd rfl) (aG (jD (i:=6) nd rfl (nT vn rfl no_dict uo (ak (bw 4) aI)))
 (aG (fD (bw 5) (fE hu (bw 6) (bw 2)))
 (aN (pY (nU gy rN rL pU vc (bw 3) (ak (br (bw 6)) aI)))))))))
 (aN (jD (i:=1) nd rfl (br (bw 3)))))))
 (aN (bT (br (bw 1))))))
theorem vV:bU ["_law_one","_law_kept","_law_at"] ["_law_one"] (a0 (top 37)):=qo
theorem D9 {f:Addr} {fd:aH} (F:nB K "_law_pared" "_law_pared" (top 37) f fd):fK P w K mg base gu 1 f fd ["_law_one"] (cD K fC) :=
 qS F vV EG fun _ _ _ _ _ _ hr=>have nd:=vV.nd; have hu:=hr.units; (aG (jD (i:=1) nd rfl gL)
 (aG (ck aW rfl (iI (bw 0)) (j0 (i:=2) nd rfl) (aN (lg (g6 (Jc hu) (cw hu (bw 0) (bw 2) (fun _ _=>rfl)) aS (iW _)) (aN (fD (cw hu (bw 0) (bw 2) (fun _ _=>rfl)) (fE hu (bw 1) (bw 2)))) hZ)))
 (aN (bT (br (bw 1))))))
theorem zB:bU ["_law_one","_law_other","_law_total","_law_at"] ["_law_one","_law_other"] (a0 (top 38)):=qo
theorem JJ {f:Addr} {fd:aH} (F:nB K "_law_sum" "_law_sum" (top 38) f fd) (no_dict:mg "dict" = none) {md:Addr} {mj:aH} (eD:oK P w K mg base gu 1 md mj "_law_pared" ["_law_one"] (cD K fC)):fK P w K mg base gu 2 f fd ["_law_one","_law_other"] (cD K k6) :=
 qS F zB vr fun _ _ _ _ _ _ hr=>have nd:=zB.nd; have hu:=hr.units; (aG (jD (i:=2) nd rfl (nT vn rfl no_dict uo (ak (bw 0) aI)))
 (aG (ck aW rfl (iI (bw 1)) (j0 (i:=3) nd rfl) (aN (fD (cJ eM (nU fv fg jy nH yQ (bw 2) (ak (bw 3) (ak aS aI))) (cw hu (bw 1) (bw 3) (fun _ _=>rfl))) (fE hu (bw 2) (bw 3)))))
 (aN (bT (br (bp eD.ok (hr.mono (by decide)) rfl eD.mg eD.kp eD.bi (ak (br (bw 2)) aI)))))))
theorem vW:bU ["_law_one","_law_by","_law_factor","_law_made","_law_at"] ["_law_one","_law_by","_law_factor"] (a0 (top 40)):=qo
theorem Ea {f:Addr} {fd:aH} (F:nB K "_law_moved" "_law_moved" (top 40) f fd) {md:Addr} {mj:aH} (eD:oK P w K mg base gu 1 md mj "_law_pared" ["_law_one"] (cD K fC)):fK P w K mg base gu 2 f fd ["_law_one","_law_by","_law_factor"] (cD K jk) :=
 qS F vW rn fun _ _ _ _ _ _ hr=>have nd:=vW.nd; have hu:=hr.units; (aG (jD (i:=3) nd rfl gL)
 (aG (ck aW rfl (iI (bw 0)) (j0 (i:=4) nd rfl) (aN (fD (cJ wu (cw hu (bw 0) (bw 4) (fun _ _=>rfl)) (bw 2)) (fE hu (bw 3) (cJ eM (bw 4) (bw 1))))))
 (aN (bT (br (bp eD.ok (hr.mono (by decide)) rfl eD.mg eD.kp eD.bi (ak (br (bw 3)) aI)))))))
theorem sH:bU ["_law_one","_law_other","_law_total","_law_at","_law_more"] ["_law_one","_law_other"] (a0 (top 39)):=qo
theorem AA {f:Addr} {fd:aH} (F:nB K "_law_product" "_law_product" (top 39) f fd) {md:Addr} {mj:aH} (eD:oK P w K mg base gu 1 md mj "_law_pared" ["_law_one"] (cD K fC)):fK P w K mg base gu 2 f fd ["_law_one","_law_other"] (cD K kr) :=
 qS F sH A8 fun _ _ _ _ _ _ hr=>have nd:=sH.nd; have hu:=hr.units; (aG (jD (i:=2) nd rfl gL)
 (aG (ck aW rfl (iI (bw 0)) (j0 (i:=3) nd rfl) (aN (ck aW rfl (iI (bw 1)) (j0 (i:=4) nd rfl) (aN (fD (cJ eM (nU fv fg jy nH yQ (bw 2) (ak (cJ eM (bw 3) (bw 4)) (ak aS aI))) (cJ wu (cw hu (bw 0) (bw 3) (fun _ _=>rfl)) (cw hu (bw 1) (bw 4) (fun _ _=>rfl)))) (fE hu (bw 2) (cJ eM (bw 3) (bw 4))))))))
 (aN (bT (br (bp eD.ok (hr.mono (by decide)) rfl eD.mg eD.kp eD.bi (ak (br (bw 2)) aI)))))))
theorem vX:bU ["_law_count","_law_made","_law_k"] ["_law_count"] (a0 (top 48)):=qo
theorem Eb {f:Addr} {fd:aH} (F:nB K "_law_loops" "_law_loops" (top 48) f fd) (fU:mg "range" = none) {BB:Addr} {BI:aH} (lQ:oK P w K mg base gu 2 BB BI "_law_product" ["_law_one","_law_other"] (cD K kr)):fK P w K mg base gu 3 f fd ["_law_count"] (cD K mU) :=
 qS F vX EH fun _ _ _ _ _ _ hr=>have nd:=vX.nd; (aG (jD (i:=1) nd rfl (FT aS aS))
 (aG (ck aW rfl (lj rfl fU (bw 0)) (j0 (i:=2) nd rfl) (aN (jD (i:=1) nd rfl (bp lQ.ok (hr.mono (by decide)) rfl lQ.mg lQ.kp lQ.bi (ak (br (bw 1)) (ak (br (FR aS (va qw aS) (va qw aS) (va qw aS))) aI))))))
 (aN (bT (br (bw 1))))))
theorem uL:bU ["_law_marks","_law_one","_law_other","_law_old","_law_fresh","_law_made","_law_spot"] ["_law_marks","_law_one","_law_other"] (a0 (top 46)):=qo
theorem By {f:Addr} {fd:aH} (F:nB K "_law_merged" "_law_merged" (top 46) f fd):fK P w K mg base gu 1 f fd ["_law_marks","_law_one","_law_other"] (cD K iQ) :=
 qS F uL BV fun _ _ _ _ _ _ hr=>have nd:=uL.nd; have hu:=hr.units; (aG (jD (i:=3) nd rfl (cw hu (bw 0) (bw 1) (fun _ _=>rfl)))
 (aG (jD (i:=4) nd rfl (cw hu (bw 0) (bw 2) (fun _ _=>rfl)))
 (aG (jD (i:=5) nd rfl gL)
 (aG (ck aW rfl (iI (bw 0)) (j0 (i:=6) nd rfl) (aG (fD (cw hu (bw 0) (bw 6) (fun _ _=>rfl)) (fE hu (bw 5) (bw 6)))
 (aN (lg (g6 (nW hu) (cw hu (bw 0) (bw 6) (fun _ _=>rfl)) (bw 3) (iW _)) (aN (fD (bw 4) (fE hu (bw 5) (bw 6)))) hZ))))
 (aN (bT (br (bw 5))))))))
theorem vU:bU ["_law_rows","_law_choice","_law_marks","_law_come","_law_bare","_law_row","_law_k","_law_here","_law_name","_law_pairs","_law_pair"] ["_law_rows","_law_choice"] (a0 (top 47)):=qo
theorem D8 {f:Addr} {fd:aH} (F:nB K "_law_rings" "_law_rings" (top 47) f fd) (xI:mg "int" = none) (lx:mg "len" = none) (fU:mg "range" = none) (Jg:mg "set" = none) {Ef:Addr} {Eo:aH} (nk:oK P w K mg base gu 1 Ef Eo "_law_merged" ["_law_marks","_law_one","_law_other"] (cD K iQ)):fK P w K mg base gu 2 f fd ["_law_rows","_law_choice"] (cD K jj) :=
 qS F vU EF fun _ _ _ _ _ _ hr=>have nd:=vU.nd; have hu:=hr.units; (aG (jD (i:=2) nd rfl gL)
 (aG (jD (i:=3) nd rfl gL)
 (aG (jD (i:=4) nd rfl aS)
 (aG (Dw (ck aW rfl (eX (bw 0)) (j0 (i:=5) nd rfl) (aG (jD (i:=4) nd rfl (cJ eM (bw 4) (nT Nt rfl xI QV (ak (DB (nW hu) (bw 5) (fW aI) (iW _)) aI))))
 (aN (ck aW rfl (lj rfl fU (iR ue rfl lx AZ (ak (bw 5) aI))) (j0 (i:=6) nd rfl) (aG (jD (i:=7) nd rfl (dq (ak (cw hu (cw hu (bw 5) (bw 6) (fun _ _=>rfl)) aS (fun _ _=>rfl)) (ak (cw hu (cw hu (bw 5) (bw 6) (fun _ _=>rfl)) aS (fun _ _=>rfl)) aI))))
 (aG (fD (bw 7) (fE hu (bw 2) (bw 7)))
 (aN (fD (dq (ak (cw hu (cw hu (bw 5) (cJ yP (bw 6) aS) (fun _ _=>rfl)) aS (fun _ _=>rfl)) (ak (cw hu (cw hu (bw 5) (cJ yP (bw 6) aS) (fun _ _=>rfl)) aS (fun _ _=>rfl)) aI))) (fE hu (bw 3) (bw 7)))))))))))
 (aG (ck aW rfl (iI (bw 1)) (j0 (i:=8) nd rfl) (aG (jD (i:=9) nd rfl (fW (ak (dq (ak (cw hu (bw 3) (dq (ak (bw 8) (ak aS aI))) (fun _ _=>rfl)) (ak (dq (ak (bw 8) (ak aS aI))) aI))) (ak (dq (ak (cw hu (bw 3) (dq (ak (bw 8) (ak aS aI))) (fun _ _=>rfl)) (ak (dq (ak (bw 8) (ak aS aI))) aI))) aI))))
 (aG (lg (g6 (nW hu) (cw hu (bw 1) (bw 8) (fun _ _=>rfl)) aS (iW _)) (aN (jD (i:=9) nd rfl (fW (ak (dq (ak (cw hu (bw 3) (dq (ak (bw 8) (ak aS aI))) (fun _ _=>rfl)) (ak (cw hu (bw 3) (dq (ak (bw 8) (ak aS aI))) (fun _ _=>rfl)) aI))) (ak (dq (ak (dq (ak (bw 8) (ak aS aI))) (ak (dq (ak (bw 8) (ak aS aI))) aI))) aI))))) hZ)
 (aN (ck aW rfl (eX (bw 9)) (j0 (i:=10) nd rfl) (aN (jD (i:=2) nd rfl (bp nk.ok (hr.mono (by decide)) rfl nk.mg nk.kp nk.bi (ak (bw 2) (ak (cw hu (bw 10) aS (fun _ _=>rfl)) (ak (cw hu (bw 10) aS (fun _ _=>rfl)) aI)))))))))))
 (aN (bT (br (cJ eM (bw 4) (IZ rfl hu rfl lx rfl Jg (ak (kG ["_law_spot","_law_marks"] (sc:=a0 (top 47)) (XN:=["_law_rows","_law_choice","_law_marks","_law_come","_law_bare","_law_row","_law_k","_law_here","_law_name","_law_pairs","_law_pair"]) (iI (bw 2)) (fun _ _ _ _=>(j0 (i:=0) (show (["_law_spot","_law_marks"]:List Str).Nodup by decide +kernel) rfl)) (fun _ _ _ _=>.none) (fun _ _ _ _=>(cw hu (bw 1) (bw 0) (fun _ _=>rfl)))) aI)))))))))))
theorem sL:bU ["_law_rows","_law_hands_here","_law_total","_law_choice","_law_at","_law_name"] ["_law_rows"] (a0 (top 50)):=qo
theorem AF {f:Addr} {fd:aH} (F:nB K "_law_bracket" "_law_bracket" (top 50) f fd) {GY:Addr} {Hi:aH} (o7:oK P w K mg base gu 1 GY Hi "_law_hands" ["_law_rows"] (cD K jl)) {BD:Addr} {BK:aH} (lS:oK P w K mg base gu 1 BD BK "_law_choices" ["_law_hands_here"] (cD K kA)) {M9:Addr} {Nj:aH} (uh:oK P w K mg base gu 2 M9 Nj "_law_sum" ["_law_one","_law_other"] (cD K k6)) {GW:Addr} {Hg:aH} (o4:oK P w K mg base gu 2 GW Hg "_law_moved" ["_law_one","_law_by","_law_factor"] (cD K jk)) {GX:Addr} {Hh:aH} (o6:oK P w K mg base gu 3 GX Hh "_law_loops" ["_law_count"] (cD K mU)) {GV:Addr} {Hf:aH} (o3:oK P w K mg base gu 2 GV Hf "_law_rings" ["_law_rows","_law_choice"] (cD K jj)):fK P w K mg base gu 4 f fd ["_law_rows"] (cD K kB) :=
 qS F sL Bb fun _ _ _ _ _ _ hr=>have nd:=sL.nd; have hu:=hr.units; (aG (jD (i:=1) nd rfl (bp o7.ok (hr.mono (by decide)) rfl o7.mg o7.kp o7.bi (ak (bw 0) aI)))
 (aG (jD (i:=2) nd rfl gL)
 (aG (ck aW rfl (eX (bp lS.ok (hr.mono (by decide)) rfl lS.mg lS.kp lS.bi (ak (bw 1) aI))) (j0 (i:=3) nd rfl) (aG (jD (i:=4) nd rfl aS)
 (aG (ck aW rfl (iI (bw 3)) (j0 (i:=5) nd rfl) (aN (jD (i:=4) nd rfl (cJ eM (bw 4) (cJ tX (cw hu (bw 1) (bw 5) (fun _ _=>rfl)) (cJ yP aS (cJ tX aS (cw hu (bw 3) (bw 5) (fun _ _=>rfl)))))))))
 (aN (jD (i:=2) nd rfl (bp uh.ok (hr.mono (by decide)) rfl uh.mg uh.kp uh.bi (ak (br (bw 2)) (ak (br (bp o4.ok (hr.mono (by decide)) rfl o4.mg o4.kp o4.bi (ak (br (bp o6.ok (hr.mono (by decide)) rfl o6.mg o6.kp o6.bi (ak (bp o3.ok (hr.mono (by decide)) rfl o3.mg o3.kp o3.bi (ak (bw 0) (ak (bw 3) aI))) aI))) (ak (br (bw 4)) (ak (br aS) aI))))) aI))))))))
 (aN (bT (br (bw 2)))))))
theorem sG:bU ["lists","picked","members","longer","ahead"] ["lists"] (a0 (top 12)):=qo
theorem Az {f:Addr} {fd:aH} (F:nB K "one_of_each" "one_of_each" (top 12) f fd):fK P w K mg base gu 1 f fd ["lists"] (cD K kq) :=
 qS F sG A7 fun _ _ _ _ _ _ hr=>have nd:=sG.nd; (aG (jD (i:=1) nd rfl (br (fW (ak (fW aI) aI))))
 (aG (ck aW rfl (eX (bw 0)) (j0 (i:=2) nd rfl) (aG (jD (i:=3) nd rfl (fW aI))
 (aG (ck aW rfl (eX (bw 1)) (j0 (i:=4) nd rfl) (aN (pY (nU gy rM rK pU vb (bw 3) (ak (kG ["member","ahead"] (sc:=a0 (top 12)) (XN:=["lists","picked","members","longer","ahead"]) (eX (bw 2)) (fun _ _ _ _=>(j0 (i:=0) (show (["member","ahead"]:List Str).Nodup by decide +kernel) rfl)) (fun _ _ _ _=>.none) (fun _ _ _ _=>(br (cJ eM (bw 1) (fW (ak (bw 0) aI)))))) aI)))))
 (aN (jD (i:=1) nd rfl (br (bw 3)))))))
 (aN (bT (br (bw 1))))))
theorem Bs:bU ["names"] ["names"] (a0 (top 30)):=qo
theorem Bz {f:Addr} {fd:aH} (F:nB K "choices_of" "choices_of" (top 30) f fd) (no_dict:mg "dict" = none) (xH:mg "zip" = none) {xB:Tok} (J8:mg "AGAINST" = some (.int 1 xB)) {qy:Tok} (tD:mg "ALONG" = some (.int 0 qy)) {BA:Addr} {BH:aH} (lO:oK P w K mg base gu 1 BA BH "one_of_each" ["lists"] (cD K kq)):fK P w K mg base gu 2 f fd ["names"] (cD K lK) :=
 qS F Bs BW fun _ _ _ _ _ _ hr=>(aN (bT (br (kG ["splits","names"] (sc:=a0 (top 30)) (XN:=["names"]) (eX (bp lO.ok (hr.mono (by decide)) rfl lO.mg lO.kp lO.bi (ak (br (kG ["name"] (sc:=a0 (top 30)) (XN:=["names"]) (eX (bw 0)) (fun _ _ _ _=>(j0 (i:=0) (show (["name"]:List Str).Nodup by decide +kernel) rfl)) (fun _ _ _ _=>.none) (fun _ _ _ _=>(br (dq (ak (yO rfl tD) (ak (yO rfl J8) aI))))))) aI))) (fun _ _ _ _=>(j0 (i:=0) (show (["splits","names"]:List Str).Nodup by decide +kernel) rfl)) (fun _ _ _ _=>.none) (fun _ _ _ _=>(br (FQ rfl rfl no_dict rfl xH (bw 1) (bw 0))))))))
theorem sF:bU ["rows","passings","row"] ["rows"] (a0 (top 4)):=qo
theorem Ay {f:Addr} {fd:aH} (F:nB K "passings_of" "passings_of" (top 4) f fd):fK P w K mg base gu 1 f fd ["rows"] (cD K hV) :=
 qS F sF A6 fun _ _ _ _ _ _ hr=>have nd:=sF.nd; (aG (jD (i:=1) nd rfl (fW aI))
 (aG (ck aW rfl (eX (bw 0)) (j0 (i:=2) nd rfl) (aN (pY (nU gy rM rK pU vb (bw 1) (ak (bw 2) aI)))))
 (aN (bT (br (bw 1))))))
theorem Fp:bU ["drawing"] ["drawing"] (a0 (top 5)):=qo
theorem GN {f:Addr} {fd:aH} (F:nB K "names_of" "names_of" (top 5) f fd) (iT:mg "sorted" = none) {pJ:Addr} {pL:aH} (fF:oK P w K mg base gu 1 pJ pL "passings_of" ["rows"] (cD K hV)):fK P w K mg base gu 2 f fd ["drawing"] (cD K kc) :=
 qS F Fp HB fun _ _ _ _ _ _ hr=>have hu:=hr.units; (aN (bT (br (iR (nj rfl hu) rfl iT um (ak (kG ["passing"] (sc:=a0 (top 5)) (XN:=["drawing"]) (eX (bp fF.ok (hr.mono (by decide)) rfl fF.mg fF.kp fF.bi (ak (bw 0) aI))) (fun _ _ _ _=>(j0 (i:=0) (show (["passing"]:List Str).Nodup by decide +kernel) rfl)) (fun _ _ _ _=>(.some (g6 (nW hu) (cw hu (bw 0) aS (fun _ _=>rfl)) aS (iW _)))) (fun _ _ _ _=>(cw hu (bw 0) aS (fun _ _=>rfl)))) aI)))))
theorem zA:bU ["drawing","behind","row","passing","follower"] ["drawing"] (a0 (top 9)):=qo
theorem JI {f:Addr} {fd:aH} (F:nB K "next_of" "next_of" (top 9) f fd) (xH:mg "zip" = none):fK P w K mg base gu 1 f fd ["drawing"] (cD K qA) :=
 qS F zA Kj fun _ _ _ _ _ _ hr=>have nd:=zA.nd; have hu:=hr.units; (aG (jD (i:=1) nd rfl gL)
 (aG (ck aW rfl (eX (bw 0)) (j0 (i:=2) nd rfl) (aN (ck aW rfl (Sg rfl xH (bw 2) (cJ eM (jn (bw 2) (jM aS) l7) (jn (bw 2) l7 (jM aS)))) (j3 rfl (cS (j0 (i:=3) nd rfl) (cS (j0 (i:=4) nd rfl) iJ)) (cT (cT iM))) (aN (fD (jn (bw 4) l7 (jM aS)) (fE hu (bw 1) (jn (bw 3) l7 (jM aS))))))))
 (aN (bT (br (bw 1))))))
theorem vZ:bU ["drawing","behind","coming","spot"] ["drawing"] (a0 (top 21)):=qo
theorem Ed {f:Addr} {fd:aH} (F:nB K "coming_of" "coming_of" (top 21) f fd) {M8:Addr} {Ni:aH} (ug:oK P w K mg base gu 1 M8 Ni "next_of" ["drawing"] (cD K qA)):fK P w K mg base gu 2 f fd ["drawing"] (cD K mV) :=
 qS F vZ EJ fun _ _ _ _ _ _ hr=>have nd:=vZ.nd; have hu:=hr.units; (aG (jD (i:=1) nd rfl (bp ug.ok (hr.mono (by decide)) rfl ug.mg ug.kp ug.bi (ak (bw 0) aI)))
 (aG (jD (i:=2) nd rfl gL)
 (aG (ck aW rfl (iI (bw 1)) (j0 (i:=3) nd rfl) (aN (fD (bw 3) (fE hu (bw 2) (cw hu (bw 1) (bw 3) (fun _ _=>rfl))))))
 (aN (bT (br (bw 2)))))))
theorem Mg:bU ["name","split"] ["name","split"] (a0 (top 25)):=qo
theorem M6 {f:Addr} {fd:aH} (F:nB K "joints" "joints" (top 25) f fd) {qy:Tok} (tD:mg "ALONG" = some (.int 0 qy)):fK P w K mg base gu 1 f fd ["name","split"] (cD K tM) :=
 qS F Mg NA fun _ _ _ _ _ _ hr=>have hu:=hr.units; (aG (lg (g6 (nW hu) (bw 1) (yO rfl tD) (iW _)) (aN (bT (br (fW (ak (dq (ak (dq (ak (bw 0) (ak aS (ak aS aI)))) (ak (dq (ak (bw 0) (ak aS (ak aS aI)))) aI))) (ak (dq (ak (dq (ak (bw 0) (ak aS (ak aS aI)))) (ak (dq (ak (bw 0) (ak aS (ak aS aI)))) aI))) aI)))))) hZ)
 (aN (bT (br (fW (ak (dq (ak (dq (ak (bw 0) (ak aS (ak aS aI)))) (ak (dq (ak (bw 0) (ak aS (ak aS aI)))) aI))) (ak (dq (ak (dq (ak (bw 0) (ak aS (ak aS aI)))) (ak (dq (ak (bw 0) (ak aS (ak aS aI)))) aI))) aI)))))))
theorem uK:bU ["coming","end","spot"] ["coming","end"] (a0 (top 27)):=qo
theorem Bx {f:Addr} {fd:aH} (F:nB K "stretch_at" "stretch_at" (top 27) f fd):fK P w K mg base gu 1 f fd ["coming","end"] (cD K jJ) :=
 qS F uK BU fun _ _ _ _ _ _ hr=>have nd:=uK.nd; have hu:=hr.units; (aG (jD (i:=2) nd rfl (jn (bw 1) l7 (jM aS)))
 (aN (bT (br (O9 (g6 (nW hu) (cw hu (bw 1) aS (fun _ _=>rfl)) aS (iW _)) (cw hu (bw 0) (bw 2) (fun _ _=>rfl)) (bw 2))))))
theorem zF:bU ["members","pairs","group_of","member","one","other","joined"] ["members","pairs"] (a0 (top 11)):=qo
theorem JM {f:Addr} {fd:aH} (F:nB K "grouped" "grouped" (top 11) f fd) (Jh:mg "min" = none) (iT:mg "sorted" = none):fK P w K mg base gu 1 f fd ["members","pairs"] (cD K nJ) :=
 Ly F zF HG Km fun qk A outer s H E hr=>by
  have nd:=zF.nd;have hu:=hr.units;have hu0:=hr.Ou;exact(aG (jD (i:=2) nd rfl gL)
 (aG (ck aW rfl (eX (bw 0)) (j0 (i:=3) nd rfl) (aN (fD (br (fW (ak (bw 3) aI))) (fE hu (bw 2) (bw 3)))))
 (aG (ck aW rfl (eX (bw 1)) (j3 rfl (cS (j0 (i:=4) nd rfl) (cS (j0 (i:=5) nd rfl) iJ)) (cT (cT iM))) (aN (lg (g6 (Mx hu) (bw 5) (cw hu (bw 2) (bw 4) (fun _ _=>rfl)) (by with_unfolding_all rfl)) (aG (jD (i:=6) nd rfl (br (cJ eM (cw hu (bw 2) (bw 4) (fun _ _=>rfl)) (cw hu (bw 2) (bw 5) (fun _ _=>rfl)))))
 (aN (ck aW rfl (eX (bw 6)) (j0 (i:=3) nd rfl) (aN (fD (br (bw 6)) (fE hu (bw 2) (bw 3))))))) hZ)))
 (aN (bT (br (iR (nj rfl hu) rfl iT um (ak (kG ["member","group_of"] (sc:=a0 (top 11)) (XN:=["members","pairs","group_of","member","one","other","joined"]) (eX (bw 0)) (fun _ _ _ _=>(j0 (i:=0) (show (["member","group_of"]:List Str).Nodup by decide +kernel) rfl)) (fun _ _ _ _=>(.some (g6 (nW hu) (iR (Nr rfl hu) rfl Jh V2 (ak (cw hu (bw 1) (bw 0) (fun _ _=>rfl)) aI)) (bw 0) (iW _)))) (fun _ _ _ _=>(br (iR (nj rfl hu) rfl iT um (ak (cw hu (bw 1) (bw 0) (fun _ _=>rfl)) aI))))) aI))))))))
theorem Fm:bU ["row","string"] ["row","string"] (a0 (top 7)):=qo
theorem GJ {f:Addr} {fd:aH} (F:nB K "spots_on" "spots_on" (top 7) f fd):fK P w K mg base gu 1 f fd ["row","string"] (cD K oO) :=
 qS F Fm Hy fun _ _ _ _ _ _ hr=>(aG (lg (wo (pX (bw 0))) (aN (bT (br (fW (ak (dq (ak (bw 1) (ak aS aI))) aI))))) hZ)
 (aN (bT (br (kG ["passing"] (sc:=a0 (top 7)) (XN:=["row","string"]) (eX (bw 0)) (fun _ _ _ _=>(j0 (i:=0) (show (["passing"]:List Str).Nodup by decide +kernel) rfl)) (fun _ _ _ _=>.none) (fun _ _ _ _=>(jn (bw 0) l7 (jM aS))))))))
theorem x3:bU ["drawing","spots","string","row"] ["drawing"] (a0 (top 8)):=qo
theorem GK {f:Addr} {fd:aH} (F:nB K "spots_of" "spots_of" (top 8) f fd) (qJ:mg "enumerate" = none) (iT:mg "sorted" = none) {JN:Addr} {JW:aH} (qX:oK P w K mg base gu 1 JN JW "spots_on" ["row","string"] (cD K oO)):fK P w K mg base gu 2 f fd ["drawing"] (cD K oP) :=
 qS F x3 Hz fun _ _ _ _ _ _ hr=>have nd:=x3.nd; have hu:=hr.units; (aG (jD (i:=1) nd rfl (fW aI))
 (aG (ck aW rfl (O6 rfl qJ (bw 0)) (j3 rfl (cS (j0 (i:=2) nd rfl) (cS (j0 (i:=3) nd rfl) iJ)) (cT (cT iM))) (aN (pY (nU gy rM rK pU vb (bw 1) (ak (bp qX.ok (hr.mono (by decide)) rfl qX.mg qX.kp qX.bi (ak (bw 3) (ak (bw 2) aI))) aI)))))
 (aN (bT (br (iR (nj rfl hu) rfl iT um (ak (bw 1) aI)))))))
theorem Fn:bU ["drawing","choice","coming","joined","name","split","one","other"] ["drawing","choice"] (a0 (top 28)):=qo
theorem Qj {f:Addr} {fd:aH} (F:nB K "rings" "rings" (top 28) f fd) (lx:mg "len" = none) {GZ:Addr} {Hj:aH} (o8:oK P w K mg base gu 2 GZ Hj "coming_of" ["drawing"] (cD K mV)) {Qp:Addr} {QD:aH} (w9:oK P w K mg base gu 1 Qp QD "joints" ["name","split"] (cD K tM)) {Ee:Addr} {Em:aH} (gP:oK P w K mg base gu 1 Ee Em "stretch_at" ["coming","end"] (cD K jJ)) {Nd:Addr} {Nm:aH} (uk:oK P w K mg base gu 1 Nd Nm "grouped" ["members","pairs"] (cD K nJ)) {JO:Addr} {JX:aH} (qY:oK P w K mg base gu 2 JO JX "spots_of" ["drawing"] (cD K oP)):fK P w K mg base gu 3 f fd ["drawing","choice"] (cD K lV) :=
 qS F Fn Q5 fun _ _ _ _ _ _ hr=>have nd:=Fn.nd; (aG (jD (i:=2) nd rfl (bp o8.ok (hr.mono (by decide)) rfl o8.mg o8.kp o8.bi (ak (bw 0) aI)))
 (aG (jD (i:=3) nd rfl (fW aI))
 (aG (ck aW rfl (lq (bw 1)) (j3 rfl (cS (j0 (i:=4) nd rfl) (cS (j0 (i:=5) nd rfl) iJ)) (cT (cT iM))) (aN (ck aW rfl (eX (bp w9.ok (hr.mono (by decide)) rfl w9.mg w9.kp w9.bi (ak (bw 4) (ak (bw 5) aI)))) (j3 rfl (cS (j0 (i:=6) nd rfl) (cS (j0 (i:=7) nd rfl) iJ)) (cT (cT iM))) (aN (pY (nU gy rN rL pU vc (bw 3) (ak (dq (ak (bp gP.ok (hr.mono (by decide)) rfl gP.mg gP.kp gP.bi (ak (bw 2) (ak (bw 6) aI))) (ak (bp gP.ok (hr.mono (by decide)) rfl gP.mg gP.kp gP.bi (ak (bw 2) (ak (bw 7) aI))) aI))) aI)))))))
 (aN (bT (br (iR ue rfl lx AZ (ak (bp uk.ok (hr.mono (by decide)) rfl uk.mg uk.kp uk.bi (ak (br (bp qY.ok (hr.mono (by decide)) rfl qY.mg qY.kp qY.bi (ak (bw 0) aI))) (ak (br (bw 3)) aI))) aI))))))))
theorem Fo:bU ["hand","split"] ["hand","split"] (a0 (top 26)):=qo
theorem GL {f:Addr} {fd:aH} (F:nB K "power_at" "power_at" (top 26) f fd) {qy:Tok} (tD:mg "ALONG" = some (.int 0 qy)):fK P w K mg base gu 1 f fd ["hand","split"] (cD K oQ) :=
 qS F Fo HA fun _ _ _ _ _ _ hr=>have hu:=hr.units; (aN (bT (br (O9 (g6 (nW hu) (bw 1) (yO rfl tD) (iW _)) (bw 0) (va qw (bw 0))))))
theorem zE:bU ["drawing","name","passing"] ["drawing","name"] (a0 (top 6)):=qo
theorem JL {f:Addr} {fd:aH} (F:nB K "hand_of" "hand_of" (top 6) f fd) {pJ:Addr} {pL:aH} (fF:oK P w K mg base gu 1 pJ pL "passings_of" ["rows"] (cD K hV)):fK P w K mg base gu 2 f fd ["drawing","name"] (cD K k7) :=
 qS F zE Kl fun _ _ _ _ _ _ hr=>have nd:=zE.nd; have hu:=hr.units; (aG (ck aW rfl (eX (bp fF.ok (hr.mono (by decide)) rfl fF.mg fF.kp fF.bi (ak (bw 0) aI))) (j0 (i:=2) nd rfl) (aN (lg (g6 (nW hu) (cw hu (bw 2) aS (fun _ _=>rfl)) (bw 1) (iW _)) (aN (bT (br (cw hu (bw 2) aS (fun _ _=>rfl))))) hZ)))
 (aN Mq))
theorem OO:bU ["drawing","choice"] ["drawing","choice"] (a0 (top 29)):=qo
theorem Qk {f:Addr} {fd:aH} (F:nB K "power" "power" (top 29) f fd) (Jf:mg "sum" = none) {JP:Addr} {JY:aH} (qZ:oK P w K mg base gu 1 JP JY "power_at" ["hand","split"] (cD K oQ)) {Nb:Addr} {Nl:aH} (uj:oK P w K mg base gu 2 Nb Nl "hand_of" ["drawing","name"] (cD K k7)):fK P w K mg base gu 3 f fd ["drawing","choice"] (cD K lW) :=
 qS F OO Q6 fun _ _ _ _ _ _ hr=>(aN (bT (br (iR (Nq rfl) rfl Jf V1 (ak (kG ["name","split","drawing"] (sc:=a0 (top 29)) (XN:=["drawing","choice"]) (lq (bw 1)) (fun _ _ _ _=>(j3 rfl (cS (j0 (i:=0) (show (["name","split","drawing"]:List Str).Nodup by decide +kernel) rfl) (cS (j0 (i:=1) (show (["name","split","drawing"]:List Str).Nodup by decide +kernel) rfl) iJ)) (cT (cT iM)))) (fun _ _ _ _=>.none) (fun _ _ _ _=>(bp qZ.ok (hr.mono (by decide)) rfl qZ.mg qZ.kp qZ.bi (ak (bp uj.ok (hr.mono (by decide)) rfl uj.mg uj.kp uj.bi (ak (bw 2) (ak (bw 0) aI))) (ak (bw 1) aI))))) aI)))))
theorem nK:bU ["sums","kept","power","number"] ["sums"] (a0 (top 15)):=qo
theorem vg {f:Addr} {fd:aH} (F:nB K "without_noughts" "without_noughts" (top 15) f fd):fK P w K mg base gu 1 f fd ["sums"] (cD K dn) :=
 qS F nK vq fun _ _ _ _ _ _ hr=>have nd:=nK.nd; have hu:=hr.units; (aG (jD (i:=1) nd rfl gL)
 (aG (ck aW rfl (lq (bw 0)) (j3 rfl (cS (j0 (i:=2) nd rfl) (cS (j0 (i:=3) nd rfl) iJ)) (cT (cT iM))) (aN (lg (g6 (Jc hu) (bw 3) aS (iW _)) (aN (fD (bw 3) (fE hu (bw 1) (bw 2)))) hZ)))
 (aN (bT (br (bw 1))))))
theorem Ft:bU ["one","other","sums","power","number"] ["one","other"] (a0 (top 16)):=qo
theorem Ql {f:Addr} {fd:aH} (F:nB K "added" "added" (top 16) f fd) (no_dict:mg "dict" = none) {gM:Addr} {gN:aH} (bW:oK P w K mg base gu 1 gM gN "without_noughts" ["sums"] (cD K dn)):fK P w K mg base gu 2 f fd ["one","other"] (cD K pV) :=
 qS F Ft Q7 fun _ _ _ _ _ _ hr=>have nd:=Ft.nd; have hu:=hr.units; (aG (jD (i:=2) nd rfl (nT vn rfl no_dict uo (ak (bw 0) aI)))
 (aG (ck aW rfl (lq (bw 1)) (j3 rfl (cS (j0 (i:=3) nd rfl) (cS (j0 (i:=4) nd rfl) iJ)) (cT (cT iM))) (aN (fD (cJ eM (nU fv fg jy nH yQ (bw 2) (ak (bw 3) (ak aS aI))) (bw 4)) (fE hu (bw 2) (bw 3)))))
 (aN (bT (br (bp bW.ok (hr.mono (by decide)) rfl bW.mg bW.kp bW.bi (ak (br (bw 2)) aI)))))))
theorem zy:bU ["one","by","factor","sums","power","number"] ["one","by","factor"] (a0 (top 18)):=qo
theorem JH {f:Addr} {fd:aH} (F:nB K "shifted" "shifted" (top 18) f fd) {gM:Addr} {gN:aH} (bW:oK P w K mg base gu 1 gM gN "without_noughts" ["sums"] (cD K dn)):fK P w K mg base gu 2 f fd ["one","by","factor"] (cD K kZ) :=
 qS F zy Ki fun _ _ _ _ _ _ hr=>have nd:=zy.nd; have hu:=hr.units; (aG (jD (i:=3) nd rfl gL)
 (aG (ck aW rfl (lq (bw 0)) (j3 rfl (cS (j0 (i:=4) nd rfl) (cS (j0 (i:=5) nd rfl) iJ)) (cT (cT iM))) (aN (fD (cJ wu (bw 5) (bw 2)) (fE hu (bw 3) (cJ eM (bw 4) (bw 1))))))
 (aN (bT (br (bp bW.ok (hr.mono (by decide)) rfl bW.mg bW.kp bW.bi (ak (br (bw 3)) aI)))))))
theorem Fj:bU ["one","other","sums","power","number","other_power","other_number","both"] ["one","other"] (a0 (top 17)):=qo
theorem Qi {f:Addr} {fd:aH} (F:nB K "times" "times" (top 17) f fd) {gM:Addr} {gN:aH} (bW:oK P w K mg base gu 1 gM gN "without_noughts" ["sums"] (cD K dn)):fK P w K mg base gu 2 f fd ["one","other"] (cD K sC) :=
 qS F Fj Q4 fun _ _ _ _ _ _ hr=>have nd:=Fj.nd; have hu:=hr.units; (aG (jD (i:=2) nd rfl gL)
 (aG (ck aW rfl (lq (bw 0)) (j3 rfl (cS (j0 (i:=3) nd rfl) (cS (j0 (i:=4) nd rfl) iJ)) (cT (cT iM))) (aN (ck aW rfl (lq (bw 1)) (j3 rfl (cS (j0 (i:=5) nd rfl) (cS (j0 (i:=6) nd rfl) iJ)) (cT (cT iM))) (aG (jD (i:=7) nd rfl (cJ eM (bw 3) (bw 5)))
 (aN (fD (cJ eM (nU fv fg jy nH yQ (bw 2) (ak (bw 7) (ak aS aI))) (cJ wu (bw 4) (bw 6))) (fE hu (bw 2) (bw 7))))))))
 (aN (bT (br (bp bW.ok (hr.mono (by decide)) rfl bW.mg bW.kp bW.bi (ak (br (bw 2)) aI)))))))
theorem B8:bU ["one","count","product","step"] ["one","count"] (a0 (top 19)):=qo
theorem M5 {f:Addr} {fd:aH} (F:nB K "raised" "raised" (top 19) f fd) (fU:mg "range" = none) {S0:Addr} {Ta:aH} (yY:oK P w K mg base gu 2 S0 Ta "times" ["one","other"] (cD K sC)):fK P w K mg base gu 3 f fd ["one","count"] (cD K tL) :=
 qS F B8 Nz fun _ _ _ _ _ _ hr=>have nd:=B8.nd; (aG (jD (i:=2) nd rfl (FT aS aS))
 (aG (ck aW rfl (lj rfl fU (bw 1)) (j0 (i:=3) nd rfl) (aN (jD (i:=2) nd rfl (bp yY.ok (hr.mono (by decide)) rfl yY.mg yY.kp yY.bi (ak (br (bw 2)) (ak (br (bw 0)) aI))))))
 (aN (bT (br (bw 2))))))
theorem oS:bU ["drawing","counts","choice","key","total","count"] ["drawing"] (a0 (top 31)):=qo
theorem wV {f:Addr} {fd:aH} (F:nB K "bracket_by_all" "bracket_by_all" (top 31) f fd) (no_dict:mg "dict" = none) {nZ:Addr} (D3:mg "LOOP" = some (.ref nZ)) (t9:(nZ == dS)=false) (ua:AP K nZ [(2,-1),(-2,-1)]=true) {Eg:Addr} {Ep:aH} (nu:oK P w K mg base gu 2 Eg Ep "choices_of" ["names"] (cD K lK)) {JQ:Addr} {JZ:aH} (q5:oK P w K mg base gu 2 JQ JZ "names_of" ["drawing"] (cD K kc)) {S1:Addr} {Tc:aH} (yZ:oK P w K mg base gu 3 S1 Tc "rings" ["drawing","choice"] (cD K lV)) {S2:Addr} {Td:aH} (y0:oK P w K mg base gu 3 S2 Td "power" ["drawing","choice"] (cD K lW)) {S3:Addr} {Te:aH} (y7:oK P w K mg base gu 2 S3 Te "added" ["one","other"] (cD K pV)) {M7:Addr} {Ng:aH} (uf:oK P w K mg base gu 2 M7 Ng "shifted" ["one","by","factor"] (cD K kZ)) {Qo:Addr} {QC:aH} (w8:oK P w K mg base gu 3 Qo QC "raised" ["one","count"] (cD K tL)):fK P w K mg base gu 4 f fd ["drawing"] (cD K gJ) :=
 qS F oS xh fun _ _ _ _ _ _ hr=>have nd:=oS.nd; have hu:=hr.units; (aG (jD (i:=1) nd rfl gL)
 (aG (Dw (ck aW rfl (eX (bp nu.ok (hr.mono (by decide)) rfl nu.mg nu.kp nu.bi (ak (br (bp q5.ok (hr.mono (by decide)) rfl q5.mg q5.kp q5.bi (ak (bw 0) aI))) aI))) (j0 (i:=2) nd rfl) (aG (jD (i:=3) nd rfl (dq (ak (bp y0.ok (hr.mono (by decide)) rfl y0.mg y0.kp y0.bi (ak (bw 0) (ak (bw 2) aI))) (ak (bp yZ.ok (hr.mono (by decide)) rfl yZ.mg yZ.kp yZ.bi (ak (bw 0) (ak (bw 2) aI))) aI))))
 (aN (fD (cJ eM (nU fv fg jy nH (Pr hu) (bw 1) (ak (bw 3) (ak aS aI))) aS) (fE hu (bw 1) (bw 3)))))))
 (aG (jD (i:=4) nd rfl gL)
 (aG (ck aW rfl (IY (bw 1)) (j3 rfl (cS (j0 (i:=3) nd rfl) (cS (j0 (i:=5) nd rfl) iJ)) (cT (cT iM))) (aN (jD (i:=4) nd rfl (bp y7.ok (hr.mono (by decide)) rfl y7.mg y7.kp y7.bi (ak (br (bw 4)) (ak (br (bp uf.ok (hr.mono (by decide)) rfl uf.mg uf.kp uf.bi (ak (br (bp w8.ok (hr.mono (by decide)) rfl w8.mg w8.kp w8.bi (ak (br (Ms rfl no_dict rfl D3 t9 ua (by decide) (by decide))) (ak (br (cw hu (bw 3) aS (fun _ _=>rfl))) aI)))) (ak (br (cw hu (bw 3) aS (fun _ _=>rfl))) (ak (br (bw 5)) aI))))) aI))))))
 (aN (bT (br (bw 4))))))))
theorem Dj:bU ["_law_found"] ["_law_found"] (a0 (top 34)):=qo
theorem D7 {f:Addr} {fd:aH} (F:nB K "_law_whole" "_law_whole" (top 34) f fd) (DI:mg "bool" = none) (xI:mg "int" = none) (gY:mg "isinstance" = none):fK P w K mg base gu 1 f fd ["_law_found"] (cD K fV) :=
 qS F Dj EE fun _ _ _ _ _ _ hr=>(aN (bT (br (DD (DA "int" (by decide) rfl gY rfl xI QV (bw 0)) (K7 (Sj (DA "bool" (by decide) rfl gY rfl DI Tq (bw 0))))))))
theorem x4:bU ["_law_found","_law_at"] ["_law_found"] (a0 (top 36)):=qo
theorem GP {f:Addr} {fd:aH} (F:nB K "_law_poly" "_law_poly" (top 36) f fd) (no_dict:mg "dict" = none) (gY:mg "isinstance" = none) {GU:Addr} {He:aH} (iB:oK P w K mg base gu 1 GU He "_law_whole" ["_law_found"] (cD K fV)):fK P w K mg base gu 2 f fd ["_law_found"] (cD K oR) :=
 qS F x4 HC fun _ _ _ _ _ _ hr=>have nd:=x4.nd; have hu:=hr.units; (aG (lg (wo (pX (DA "dict" (by decide) rfl gY rfl no_dict uo (bw 0)))) (aN (bT (br DC))) hZ)
 (aG (ck aW rfl (iI (bw 0)) (j0 (i:=1) nd rfl) (aN (lg (V8.pt (IV (wo (pX (bp iB.ok (hr.mono (by decide)) rfl iB.mg iB.kp iB.bi (ak (bw 1) aI)))) (IV (wo (pX (bp iB.ok (hr.mono (by decide)) rfl iB.mg iB.kp iB.bi (ak (cw hu (bw 0) (bw 1) (fun _ _=>rfl)) aI)))) (KZ (g6 (nW hu) (cw hu (bw 0) (bw 1) (fun _ _=>rfl)) aS (iW _)))))) (aN (bT (br DC))) hZ)))
 (aN (bT (br DC)))))
theorem OP:bU ["_law_script","_law_strings","_law_spread","_law_rows","_law_handed","_law_due","_law_found"] ["_law_script"] (a0 (top 51)):=qo
theorem VM {f:Addr} {fd:aH} (F:nB K "law" "law" (top 51) f fd) {nZ:Addr} (D3:mg "LOOP" = some (.ref nZ)) (t9:(nZ == dS)=false) (ua:AP K nZ [(2,-1),(-2,-1)]=true) {BE:Addr} {BL:aH} (dR:oK P w K mg base gu 1 BE BL "_law_cell_at" ["_law_script","_law_k"] (cD K eG)) {BC:Addr} {BJ:aH} (lR:oK P w K mg base gu 3 BC BJ "_law_drawing" ["_law_cells","_law_strings","_law_spread"] (cD K fI)) {vh:Addr} {vj:aH} (iD:oK P w K mg base gu 1 vh vj "_law_copy" ["_law_rows"] (cD K gh)) {BF:Addr} {BM:aH} (lT:oK P w K mg base gu 4 BF BM "_law_bracket" ["_law_rows"] (cD K kB)) {xN:Addr} {xR:aH} (eU:oK P w K mg base gu 4 xN xR "bracket_by_all" ["drawing"] (cD K gJ)) {JR:Addr} {J0:aH} (rg:oK P w K mg base gu 2 JR J0 "_law_poly" ["_law_found"] (cD K oR)):fK P w K mg base gu 5 f fd ["_law_script"] (cD K K2.B6) :=
 qS F OP Wa fun _ _ _ _ _ _ hr=>have nd:=OP.nd; have hu:=hr.units; (aG (jD (i:=1) nd rfl (cJ eM aS (cJ qG (bp dR.ok (hr.mono (by decide)) rfl dR.mg dR.kp dR.bi (ak (bw 0) (ak aS aI))) aS)))
 (aG (jD (i:=2) nd rfl aS)
 (aG (lg (g6 (DF hu) (cJ qG (bp dR.ok (hr.mono (by decide)) rfl dR.mg dR.kp dR.bi (ak (bw 0) (ak aS aI))) aS) aS (iW _)) (aN (jD (i:=2) nd rfl aS)) hZ)
 (aG (jD (i:=3) nd rfl (bp lR.ok (hr.mono (by decide)) rfl lR.mg lR.kp lR.bi (ak (jn (bw 0) (jM aS) (jM (cJ eM aS (cJ qG (bp dR.ok (hr.mono (by decide)) rfl dR.mg dR.kp dR.bi (ak (bw 0) (ak aS aI))) aS)))) (ak (bw 1) (ak (bw 2) aI)))))
 (aG (jD (i:=4) nd rfl (br (bp iD.ok (hr.mono (by decide)) rfl iD.mg iD.kp iD.bi (ak (bw 3) aI))))
 (aG (jD (i:=5) nd rfl (bp lT.ok (hr.mono (by decide)) rfl lT.mg lT.kp lT.bi (ak (bw 3) aI)))
 (aG (jD (i:=6) nd rfl (bp eU.ok (hr.mono (by decide)) rfl eU.mg eU.kp eU.bi (ak (bw 4) aI)))
 (aG (lg (V8.pt (IV (wo (pX (Mu rg.ok (hr.mono (by decide)) rfl rg.mg rg.kp rg.bi (ak (bw 6) aI)))) (KZ (g6 (Su hu) (bw 6) (bw 5) (iW _))))) (aN (bT (br DC))) hZ)
 (aG (fD aS (fE hu (bw 6) aS))
 (aN (bT (br (DD (DB (DF hu) (bp eU.ok (hr.mono (by decide)) rfl eU.mg eU.kp eU.bi (ak (bw 4) aI)) (bw 5) (iW _)) (DD (DB (DF hu) (bw 4) (bw 3) (iW _)) (K7 (Sk hu rfl D3 t9 ua (by decide) (FR aS (va qw aS) (va qw aS) (va qw aS)) (iW _)))))))))))))))))
end
theorem all_mk {l:C0} {w:World} {K:aq} {h:Heap} {mg:Str->Option Value} {fa:Addr} (X:K.In h) (G:h.Ns bP mg) (hfa:mg "law" = some (.ref fa))
  {f0:Addr} {d0:aH} (F0:At K "_law_cell_at" (top 33) f0 d0)
  {f1:Addr} {d1:aH} (F1:At K "_law_free" (top 42) f1 d1)
  {f2:Addr} {d2:aH} (F2:At K "_law_pick" (top 35) f2 d2)
  {f3:Addr} {d3:aH} (F3:At K "_law_copy" (top 41) f3 d3)
  {f4:Addr} {d4:aH} (F4:At K "_law_put" (top 43) f4 d4)
  {f5:Addr} {d5:aH} (F5:At K "_law_drawing" (top 44) f5 d5)
  {f6:Addr} {d6:aH} (F6:At K "_law_hands" (top 45) f6 d6)
  {f7:Addr} {d7:aH} (F7:At K "_law_choices" (top 49) f7 d7)
  {f8:Addr} {d8:aH} (F8:At K "_law_pared" (top 37) f8 d8)
  {f9:Addr} {d9:aH} (F9:At K "_law_sum" (top 38) f9 d9)
  {f10:Addr} {d10:aH} (ZE:At K "_law_moved" (top 40) f10 d10)
  {f11:Addr} {d11:aH} (ZD:At K "_law_product" (top 39) f11 d11)
  {f12:Addr} {d12:aH} (ZC:At K "_law_loops" (top 48) f12 d12)
  {f13:Addr} {d13:aH} (ZA:At K "_law_merged" (top 46) f13 d13)
  {f14:Addr} {d14:aH} (Zz:At K "_law_rings" (top 47) f14 d14)
  {f15:Addr} {d15:aH} (Zy:At K "_law_bracket" (top 50) f15 d15)
  {f16:Addr} {d16:aH} (Zx:At K "one_of_each" (top 12) f16 d16)
  {f17:Addr} {d17:aH} (Zw:At K "choices_of" (top 30) f17 d17)
  {f18:Addr} {d18:aH} (WA:At K "passings_of" (top 4) f18 d18)
  {f19:Addr} {d19:aH} (Zv:At K "names_of" (top 5) f19 d19)
  {f20:Addr} {d20:aH} (Zu:At K "next_of" (top 9) f20 d20)
  {f21:Addr} {d21:aH} (Zt:At K "coming_of" (top 21) f21 d21)
  {f22:Addr} {d22:aH} (Zr:At K "joints" (top 25) f22 d22)
  {f23:Addr} {d23:aH} (Zq:At K "stretch_at" (top 27) f23 d23)
  {f24:Addr} {d24:aH} (Zp:At K "grouped" (top 11) f24 d24)
  {f25:Addr} {d25:aH} (Zo:At K "spots_on" (top 7) f25 d25)
  {f26:Addr} {d26:aH} (Zn:At K "spots_of" (top 8) f26 d26)
  {f27:Addr} {d27:aH} (Zm:At K "rings" (top 28) f27 d27)
  {f28:Addr} {d28:aH} (Zl:At K "power_at" (top 26) f28 d28)
  {f29:Addr} {d29:aH} (Zk:At K "hand_of" (top 6) f29 d29)
  {f30:Addr} {d30:aH} (Zj:At K "power" (top 29) f30 d30)
  {f31:Addr} {d31:aH} (Ur:At K "without_noughts" (top 15) f31 d31)
  {f32:Addr} {d32:aH} (Zi:At K "added" (top 16) f32 d32)
  {f33:Addr} {d33:aH} (Zh:At K "shifted" (top 18) f33 d33)
  {f34:Addr} {d34:aH} (Zg:At K "times" (top 17) f34 d34)
  {f35:Addr} {d35:aH} (Zf:At K "raised" (top 19) f35 d35)
  {f36:Addr} {d36:aH} (Ze:At K "bracket_by_all" (top 31) f36 d36)
  {f37:Addr} {d37:aH} (Zd:At K "_law_whole" (top 34) f37 d37)
  {f38:Addr} {d38:aH} (Zc:At K "_law_poly" (top 36) f38 d38)
  {f39:Addr} {d39:aH} (F39:At K "law" (top 51) f39 d39)
  (WH:autoParam (dG K bP "len" = some none) Aq._auto_1) (Uw:autoParam (dG K bP "list" = some none) Aq._auto_1) (RS:autoParam (dG K bP "range" = some none) Aq._auto_1) (Ux:autoParam (dG K bP "dict" = some none) Aq._auto_1) (WI:autoParam (dG K bP "int" = some none) Aq._auto_1) (WE:autoParam (dG K bP "set" = some none) Aq._auto_1) (WC:autoParam (dG K bP "zip" = some none) Aq._auto_1) (Oq:autoParam (dG K bP "sorted" = some none) Aq._auto_1) (WG:autoParam (dG K bP "min" = some none) Aq._auto_1) (E9:autoParam (dG K bP "enumerate" = some none) Aq._auto_1) (WD:autoParam (dG K bP "sum" = some none) Aq._auto_1) (Uy:autoParam (dG K bP "bool" = some none) Aq._auto_1) (C5:autoParam (dG K bP "isinstance" = some none) Aq._auto_1) {xB:Tok} (J7:autoParam (dG K bP "AGAINST" = some (some (.int 1 xB))) Aq._auto_1) {qy:Tok} (AR:autoParam (dG K bP "ALONG" = some (some (.int 0 qy))) Aq._auto_1) {nZ:Addr} (Lx:autoParam (dG K bP "LOOP" = some (some (.ref nZ))) Aq._auto_1) (t9:autoParam ((nZ == dS)=false) Ae._auto_1) (ua:autoParam (AP K nZ [(2,-1),(-2,-1)]=true) Af._auto_1) :
  ∃ fd:aH,(∀ (s:az) (v:Value),Om s fd ⟨[v],[]⟩ [("_law_script",v)])/\∀ base:Heap,K.In base->base.Ns bP mg->fK l.prog w K mg base gu 5 fa fd ["_law_script"] (cD K K2.B6):=by
 have e:=hfa.symm.trans (kX X G F39.a);cases e;have b0:=F0.F.binds (ps:=["_law_script","_law_k"]) fun _ _ _ _ _ _ us hl=>by obtain⟨_,_,rfl⟩:=sX hl; rfl
 have b1:=F1.F.binds (ps:=["_law_names","_law_name"]) fun _ _ _ _ _ _ us hl=>by obtain⟨_,_,rfl⟩:=sX hl; rfl
 have b2:=F2.F.binds (ps:=["_law_cell","_law_prime","_law_many"]) fun _ _ _ _ _ _ us hl=>by obtain⟨_,_,_,rfl⟩:=MG hl; rfl
 have b3:=F3.F.binds (ps:=["_law_rows"]) fun _ _ _ _ _ _ us hl=>by obtain⟨_,rfl⟩:=rR hl; rfl
 have b4:=F4.F.binds (ps:=["_law_rows","_law_at","_law_place","_law_more"]) fun _ _ _ _ _ _ us hl=>by obtain⟨_,_,_,_,rfl⟩:=aaR hl; rfl
 have b5:=F5.F.binds (ps:=["_law_cells","_law_strings","_law_spread"]) fun _ _ _ _ _ _ us hl=>by obtain⟨_,_,_,rfl⟩:=MG hl; rfl
 have b6:=F6.F.binds (ps:=["_law_rows"]) fun _ _ _ _ _ _ us hl=>by obtain⟨_,rfl⟩:=rR hl; rfl
 have b7:=F7.F.binds (ps:=["_law_hands_here"]) fun _ _ _ _ _ _ us hl=>by obtain⟨_,rfl⟩:=rR hl; rfl
 have b8:=F8.F.binds (ps:=["_law_one"]) fun _ _ _ _ _ _ us hl=>by obtain⟨_,rfl⟩:=rR hl; rfl
 have b9:=F9.F.binds (ps:=["_law_one","_law_other"]) fun _ _ _ _ _ _ us hl=>by obtain⟨_,_,rfl⟩:=sX hl; rfl
 have b10:=ZE.F.binds (ps:=["_law_one","_law_by","_law_factor"]) fun _ _ _ _ _ _ us hl=>by obtain⟨_,_,_,rfl⟩:=MG hl; rfl
 have b11:=ZD.F.binds (ps:=["_law_one","_law_other"]) fun _ _ _ _ _ _ us hl=>by obtain⟨_,_,rfl⟩:=sX hl; rfl
 have b12:=ZC.F.binds (ps:=["_law_count"]) fun _ _ _ _ _ _ us hl=>by obtain⟨_,rfl⟩:=rR hl; rfl
 have b13:=ZA.F.binds (ps:=["_law_marks","_law_one","_law_other"]) fun _ _ _ _ _ _ us hl=>by obtain⟨_,_,_,rfl⟩:=MG hl; rfl
 have b14:=Zz.F.binds (ps:=["_law_rows","_law_choice"]) fun _ _ _ _ _ _ us hl=>by obtain⟨_,_,rfl⟩:=sX hl; rfl
 have b15:=Zy.F.binds (ps:=["_law_rows"]) fun _ _ _ _ _ _ us hl=>by obtain⟨_,rfl⟩:=rR hl; rfl
 have b16:=Zx.F.binds (ps:=["lists"]) fun _ _ _ _ _ _ us hl=>by obtain⟨_,rfl⟩:=rR hl; rfl
 have b17:=Zw.F.binds (ps:=["names"]) fun _ _ _ _ _ _ us hl=>by obtain⟨_,rfl⟩:=rR hl; rfl
 have b18:=WA.F.binds (ps:=["rows"]) fun _ _ _ _ _ _ us hl=>by obtain⟨_,rfl⟩:=rR hl; rfl
 have b19:=Zv.F.binds (ps:=["drawing"]) fun _ _ _ _ _ _ us hl=>by obtain⟨_,rfl⟩:=rR hl; rfl
 have b20:=Zu.F.binds (ps:=["drawing"]) fun _ _ _ _ _ _ us hl=>by obtain⟨_,rfl⟩:=rR hl; rfl
 have b21:=Zt.F.binds (ps:=["drawing"]) fun _ _ _ _ _ _ us hl=>by obtain⟨_,rfl⟩:=rR hl; rfl
 have b22:=Zr.F.binds (ps:=["name","split"]) fun _ _ _ _ _ _ us hl=>by obtain⟨_,_,rfl⟩:=sX hl; rfl
 have b23:=Zq.F.binds (ps:=["coming","end"]) fun _ _ _ _ _ _ us hl=>by obtain⟨_,_,rfl⟩:=sX hl; rfl
 have b24:=Zp.F.binds (ps:=["members","pairs"]) fun _ _ _ _ _ _ us hl=>by obtain⟨_,_,rfl⟩:=sX hl; rfl
 have b25:=Zo.F.binds (ps:=["row","string"]) fun _ _ _ _ _ _ us hl=>by obtain⟨_,_,rfl⟩:=sX hl; rfl
 have b26:=Zn.F.binds (ps:=["drawing"]) fun _ _ _ _ _ _ us hl=>by obtain⟨_,rfl⟩:=rR hl; rfl
 have b27:=Zm.F.binds (ps:=["drawing","choice"]) fun _ _ _ _ _ _ us hl=>by obtain⟨_,_,rfl⟩:=sX hl; rfl
 have b28:=Zl.F.binds (ps:=["hand","split"]) fun _ _ _ _ _ _ us hl=>by obtain⟨_,_,rfl⟩:=sX hl; rfl
 have b29:=Zk.F.binds (ps:=["drawing","name"]) fun _ _ _ _ _ _ us hl=>by obtain⟨_,_,rfl⟩:=sX hl; rfl
 have b30:=Zj.F.binds (ps:=["drawing","choice"]) fun _ _ _ _ _ _ us hl=>by obtain⟨_,_,rfl⟩:=sX hl; rfl
 have b31:=Ur.F.binds (ps:=["sums"]) fun _ _ _ _ _ _ us hl=>by obtain⟨_,rfl⟩:=rR hl; rfl
 have b32:=Zi.F.binds (ps:=["one","other"]) fun _ _ _ _ _ _ us hl=>by obtain⟨_,_,rfl⟩:=sX hl; rfl
 have b33:=Zh.F.binds (ps:=["one","by","factor"]) fun _ _ _ _ _ _ us hl=>by obtain⟨_,_,_,rfl⟩:=MG hl; rfl
 have b34:=Zg.F.binds (ps:=["one","other"]) fun _ _ _ _ _ _ us hl=>by obtain⟨_,_,rfl⟩:=sX hl; rfl
 have b35:=Zf.F.binds (ps:=["one","count"]) fun _ _ _ _ _ _ us hl=>by obtain⟨_,_,rfl⟩:=sX hl; rfl
 have b36:=Ze.F.binds (ps:=["drawing"]) fun _ _ _ _ _ _ us hl=>by obtain⟨_,rfl⟩:=rR hl; rfl
 have b37:=Zd.F.binds (ps:=["_law_found"]) fun _ _ _ _ _ _ us hl=>by obtain⟨_,rfl⟩:=rR hl; rfl
 have b38:=Zc.F.binds (ps:=["_law_found"]) fun _ _ _ _ _ _ us hl=>by obtain⟨_,rfl⟩:=rR hl; rfl
 have lx:=cQ X G WH;have DH:=cQ X G Uw;have fU:=cQ X G RS;have no_dict:=cQ X G Ux;have xI:=cQ X G WI;have Jg:=cQ X G WE;have xH:=cQ X G WC;have iT:=cQ X G Oq;have Jh:=cQ X G WG;have qJ:=cQ X G E9;have Jf:=cQ X G WD;have DI:=cQ X G Uy;have gY:=cQ X G C5;obtain⟨Fa,Fl⟩:=F39;obtain⟨oc,od,kV,doc,pm,an,qk,ct,Pg,rfl,lk,Ls⟩:=Fl.ex;refine⟨kM "law" "law" (oZ (top 51)) (kJ (top 51)) (a0 (top 51)) .none kV doc pm an qk ct,fun s v=>.of_eq rfl,fun base _ _=>?_⟩;have ok0:=AE (P:=l.prog) (w:=w) (mg:=mg) (base:=base) F0.F lx;have ok1:=GR (P:=l.prog) (w:=w) (mg:=mg) (base:=base) F1.F;have ok2:=GQ (P:=l.prog) (w:=w) (mg:=mg) (base:=base) F2.F;have Wf:=GS (P:=l.prog) (w:=w) (mg:=mg) (base:=base) F3.F DH;have ok4:=JK (P:=l.prog) (w:=w) (mg:=mg) (base:=base) F4.F lx ⟨Wf,F3.mg X G,F3.F.kp,b3⟩;have ok5:=AB (P:=l.prog) (w:=w) (mg:=mg) (base:=base) F5.F fU ⟨ok1,F1.mg X G,F1.F.kp,b1⟩ ⟨ok2,F2.mg X G,F2.F.kp,b2⟩ ⟨ok4,F4.mg X G,F4.F.kp,b4⟩;have ok6:=Ec (P:=l.prog) (w:=w) (mg:=mg) (base:=base) F6.F;have ok7:=AD (P:=l.prog) (w:=w) (mg:=mg) (base:=base) F7.F no_dict fU;have ok8:=D9 (P:=l.prog) (w:=w) (mg:=mg) (base:=base) F8.F;have ok9:=JJ (P:=l.prog) (w:=w) (mg:=mg) (base:=base) F9.F no_dict ⟨ok8,F8.mg X G,F8.F.kp,b8⟩;have aaC:=Ea (P:=l.prog) (w:=w) (mg:=mg) (base:=base) ZE.F ⟨ok8,F8.mg X G,F8.F.kp,b8⟩;have aaB:=AA (P:=l.prog) (w:=w) (mg:=mg) (base:=base) ZD.F ⟨ok8,F8.mg X G,F8.F.kp,b8⟩;have aaA:=Eb (P:=l.prog) (w:=w) (mg:=mg) (base:=base) ZC.F fU ⟨aaB,ZD.mg X G,ZD.F.kp,b11⟩;have aaz:=By (P:=l.prog) (w:=w) (mg:=mg) (base:=base) ZA.F;have aay:=D8 (P:=l.prog) (w:=w) (mg:=mg) (base:=base) Zz.F xI lx fU Jg ⟨aaz,ZA.mg X G,ZA.F.kp,b13⟩;have aax:=AF (P:=l.prog) (w:=w) (mg:=mg) (base:=base) Zy.F ⟨ok6,F6.mg X G,F6.F.kp,b6⟩ ⟨ok7,F7.mg X G,F7.F.kp,b7⟩ ⟨ok9,F9.mg X G,F9.F.kp,b9⟩ ⟨aaC,ZE.mg X G,ZE.F.kp,b10⟩ ⟨aaA,ZC.mg X G,ZC.F.kp,b12⟩ ⟨aay,Zz.mg X G,Zz.F.kp,b14⟩;have aaw:=Az (P:=l.prog) (w:=w) (mg:=mg) (base:=base) Zx.F;have aav:=Bz (P:=l.prog) (w:=w) (mg:=mg) (base:=base) Zw.F no_dict xH (kX X G J7) (kX X G AR) ⟨aaw,Zx.mg X G,Zx.F.kp,b16⟩;have W8:=Ay (P:=l.prog) (w:=w) (mg:=mg) (base:=base) WA.F;have aau:=GN (P:=l.prog) (w:=w) (mg:=mg) (base:=base) Zv.F iT ⟨W8,WA.mg X G,WA.F.kp,b18⟩;have aas:=JI (P:=l.prog) (w:=w) (mg:=mg) (base:=base) Zu.F xH;have aar:=Ed (P:=l.prog) (w:=w) (mg:=mg) (base:=base) Zt.F ⟨aas,Zu.mg X G,Zu.F.kp,b20⟩;have aaq:=M6 (P:=l.prog) (w:=w) (mg:=mg) (base:=base) Zr.F (kX X G AR);have aap:=Bx (P:=l.prog) (w:=w) (mg:=mg) (base:=base) Zq.F;have aao:=JM (P:=l.prog) (w:=w) (mg:=mg) (base:=base) Zp.F Jh iT;have aan:=GJ (P:=l.prog) (w:=w) (mg:=mg) (base:=base) Zo.F;have aam:=GK (P:=l.prog) (w:=w) (mg:=mg) (base:=base) Zn.F qJ iT ⟨aan,Zo.mg X G,Zo.F.kp,b25⟩;have aal:=Qj (P:=l.prog) (w:=w) (mg:=mg) (base:=base) Zm.F lx ⟨aar,Zt.mg X G,Zt.F.kp,b21⟩ ⟨aaq,Zr.mg X G,Zr.F.kp,b22⟩ ⟨aap,Zq.mg X G,Zq.F.kp,b23⟩ ⟨aao,Zp.mg X G,Zp.F.kp,b24⟩ ⟨aam,Zn.mg X G,Zn.F.kp,b26⟩;have aak:=GL (P:=l.prog) (w:=w) (mg:=mg) (base:=base) Zl.F (kX X G AR);have aaj:=JL (P:=l.prog) (w:=w) (mg:=mg) (base:=base) Zk.F ⟨W8,WA.mg X G,WA.F.kp,b18⟩;have aai:=Qk (P:=l.prog) (w:=w) (mg:=mg) (base:=base) Zj.F Jf ⟨aak,Zl.mg X G,Zl.F.kp,b28⟩ ⟨aaj,Zk.mg X G,Zk.F.kp,b29⟩;have Ve:=vg (P:=l.prog) (w:=w) (mg:=mg) (base:=base) Ur.F;have aah:=Ql (P:=l.prog) (w:=w) (mg:=mg) (base:=base) Zi.F no_dict ⟨Ve,Ur.mg X G,Ur.F.kp,b31⟩;have aag:=JH (P:=l.prog) (w:=w) (mg:=mg) (base:=base) Zh.F ⟨Ve,Ur.mg X G,Ur.F.kp,b31⟩;have aaf:=Qi (P:=l.prog) (w:=w) (mg:=mg) (base:=base) Zg.F ⟨Ve,Ur.mg X G,Ur.F.kp,b31⟩;have aae:=M5 (P:=l.prog) (w:=w) (mg:=mg) (base:=base) Zf.F fU ⟨aaf,Zg.mg X G,Zg.F.kp,b34⟩;have aad:=wV (P:=l.prog) (w:=w) (mg:=mg) (base:=base) Ze.F no_dict (kX X G Lx) t9 ua ⟨aav,Zw.mg X G,Zw.F.kp,b17⟩ ⟨aau,Zv.mg X G,Zv.F.kp,b19⟩ ⟨aal,Zm.mg X G,Zm.F.kp,b27⟩ ⟨aai,Zj.mg X G,Zj.F.kp,b30⟩ ⟨aah,Zi.mg X G,Zi.F.kp,b32⟩ ⟨aag,Zh.mg X G,Zh.F.kp,b33⟩ ⟨aae,Zf.mg X G,Zf.F.kp,b35⟩;have aac:=D7 (P:=l.prog) (w:=w) (mg:=mg) (base:=base) Zd.F DI xI gY;have aab:=GP (P:=l.prog) (w:=w) (mg:=mg) (base:=base) Zc.F no_dict gY ⟨aac,Zd.mg X G,Zd.F.kp,b37⟩;exact VM Fl (kX X G Lx) t9 ua ⟨ok0,F0.mg X G,F0.F.kp,b0⟩ ⟨ok5,F5.mg X G,F5.F.kp,b5⟩ ⟨Wf,F3.mg X G,F3.F.kp,b3⟩ ⟨aax,Zy.mg X G,Zy.F.kp,b15⟩ ⟨aad,Ze.mg X G,Ze.F.kp,b36⟩ ⟨aab,Zc.mg X G,Zc.F.kp,b38⟩
section
open PySem.W PySem.Calls
noncomputable def hC (n:Str) (t:Nat) (l:List Value):Obj:=⟨.type "code",none,.fields (.str n t :: .str n (t+1) :: .str "/claim/cut.py" (t+2) :: l).toArray,#[]⟩
noncomputable def hI(n:Int):Value:=.int n 0
noncomputable def hR(n:Nat):Value:=.ref n
noncomputable def hN:Value:=.none
noncomputable def hT:Value:=.bool true
noncomputable def hS (n:Nat):Value:=.str "/claim/cut.py" n
noncomputable def hD(n:Str)(t:Nat)(l a:Int)(r:Nat)(x y z:Value)(u:Nat):Obj:=hC n t [hI l,hI a,hI 0,hI 0,hI 3,hR r,hT,hI 181,hR (r+1),hN,x,y,z,hI (u - 1),hI l,hS u]
noncomputable abbrev hF (i:Nat) (n:Str) (m c:Value):Obj:=⟨.type "function",none,.func (kM n n (oZ (top i)) (kJ (top i)) (a0 (top i)) .none .none .none m none c .none),#[]⟩
noncomputable abbrev hE(P:Params)(s:Str)(t:Nat)(v:Value):hU:=⟨PyData.keyHash P s,.str s t,v⟩
noncomputable def hQ:bG:=PySem.W.view PySem.Challenge.pw_knotwise_k42_bracket_by_all_choices [1,2,4,5,6,7,8,9,11,12,14,15,16,17,18,19,21,23,24,25,26,27,28,29,30,31,33,34,35,36,37,38,39,40,41,42,43,44,45,46,47,48,49,50,51]
noncomputable def hK (P:Params):aq:=(nat_lit 3,⟨(.type "dict"),none,(.dict #[hE P "__name__" 165 (.str "law_knotwise_k42_bracket_by_all_choices" 440),hE P "__doc__" 166 .none,hE P "__package__" 167 .none,hE P "__loader__" 168 (.builtin "__main__.__loader__#opaque"),hE P "__spec__" 169 .none,hE P "__annotations__" 170 (.ref 6),hE P "__builtins__" 171 (.ref 4),hE P "__file__" 173 (.str "/claim/cut.py" 172),hE P "__cached__" 174 .none,hE P "KnotError" 206 (.ref 24),hE P "NoName" 222 (.ref 37),hE P "passings_of" 233 (.ref 46),hE P "names_of" 239 (.ref 51),hE P "hand_of" 248 (.ref 58),hE P "spots_on" 254 (.ref 63),hE P "spots_of" 264 (.ref 70),hE P "next_of" 275 (.ref 77),hE P "grouped" 283 (.ref 82),hE P "one_of_each" 289 (.ref 87),hE P "LOOP" 301 (.ref 88),hE P "without_noughts" 311 (.ref 95),hE P "added" 322 (.ref 102),hE P "times" 336 (.ref 109),hE P "shifted" 348 (.ref 116),hE P "raised" 358 (.ref 123),hE P "coming_of" 370 (.ref 130),hE P "ALONG" 374 (.int 0 373),hE P "AGAINST" 376 (.int 1 375),hE P "joints" 384 (.ref 137),hE P "power_at" 392 (.ref 144),hE P "stretch_at" 401 (.ref 151),hE P "rings" 415 (.ref 158),hE P "power" 421 (.ref 163),hE P "choices_of" 427 (.ref 168),hE P "bracket_by_all" 439 (.ref 175),hE P "_law_cell_at" 449 (.ref 182),hE P "_law_whole" 456 (.ref 189),hE P "_law_pick" 465 (.ref 196),hE P "_law_poly" 473 (.ref 203),hE P "_law_pared" 482 (.ref 210),hE P "_law_sum" 492 (.ref 217),hE P "_law_product" 503 (.ref 224),hE P "_law_moved" 514 (.ref 231),hE P "_law_copy" 520 (.ref 236),hE P "_law_free" 528 (.ref 243),hE P "_law_put" 539 (.ref 250),hE P "_law_drawing" 545 (.ref 255),hE P "_law_hands" 555 (.ref 262),hE P "_law_merged" 568 (.ref 269),hE P "_law_rings" 574 (.ref 274),hE P "_law_loops" 583 (.ref 281),hE P "_law_choices" 596 (.ref 288),hE P "_law_bracket" 608 (.ref 295),hE P "law" 621 (.ref 302)] 54),#[]⟩) ::
(nat_lit 45,hD "passings_of" 225 7 1 40 (hR 42) (hR 43) (hR 44) 232) ::
(nat_lit 46,hF 4 "passings_of" (.str "knotwise.drawings" 223) (.ref 45)) ::
(nat_lit 50,hD "names_of" 234 12 1 47 hN hN (hR 49) 238) ::
(nat_lit 51,hF 5 "names_of" (.str "knotwise.drawings" 223) (.ref 50)) ::
(nat_lit 57,hD "hand_of" 240 14 2 52 (hR 54) (hR 55) (hR 56) 247) ::
(nat_lit 58,hF 6 "hand_of" (.str "knotwise.drawings" 223) (.ref 57)) ::
(nat_lit 62,hD "spots_on" 249 19 2 59 hN hN (hR 61) 253) ::
(nat_lit 63,hF 7 "spots_on" (.str "knotwise.drawings" 223) (.ref 62)) ::
(nat_lit 69,hD "spots_of" 255 23 1 64 (hR 66) (hR 67) (hR 68) 263) ::
(nat_lit 70,hF 8 "spots_of" (.str "knotwise.drawings" 223) (.ref 69)) ::
(nat_lit 76,hD "next_of" 265 28 1 71 (hR 73) (hR 74) (hR 75) 274) ::
(nat_lit 77,hF 9 "next_of" (.str "knotwise.drawings" 223) (.ref 76)) ::
(nat_lit 81,hD "grouped" 278 35 2 78 hN hN (hR 80) 282) ::
(nat_lit 82,hF 11 "grouped" (.str "knotwise.groups" 276) (.ref 81)) ::
(nat_lit 86,hD "one_of_each" 284 45 1 83 hN hN (hR 85) 288) ::
(nat_lit 87,hF 12 "one_of_each" (.str "knotwise.groups" 276) (.ref 86)) ::
(nat_lit 88,⟨(.type "dict"),none,(.dict #[⟨2,(.int 2 292),(.int (-1) 294)⟩,⟨(-2),(.int (-2) 296),(.int (-1) 298)⟩] 2),#[]⟩) ::
(nat_lit 94,hD "without_noughts" 302 55 1 89 (hR 91) (hR 92) (hR 93) 310) ::
(nat_lit 95,hF 15 "without_noughts" (.str "knotwise.polys" 290) (.ref 94)) ::
(nat_lit 101,hD "added" 312 61 2 96 (hR 98) (hR 99) (hR 100) 321) ::
(nat_lit 102,hF 16 "added" (.str "knotwise.polys" 290) (.ref 101)) ::
(nat_lit 108,hD "times" 323 66 2 103 (hR 105) (hR 106) (hR 107) 335) ::
(nat_lit 109,hF 17 "times" (.str "knotwise.polys" 290) (.ref 108)) ::
(nat_lit 115,hD "shifted" 337 73 3 110 (hR 112) (hR 113) (hR 114) 347) ::
(nat_lit 116,hF 18 "shifted" (.str "knotwise.polys" 290) (.ref 115)) ::
(nat_lit 122,hD "raised" 349 78 2 117 (hR 119) (hR 120) (hR 121) 357) ::
(nat_lit 123,hF 19 "raised" (.str "knotwise.polys" 290) (.ref 122)) ::
(nat_lit 129,hD "coming_of" 361 84 1 124 (hR 126) (hR 127) (hR 128) 369) ::
(nat_lit 130,hF 21 "coming_of" (.str "knotwise.sides" 359) (.ref 129)) ::
(nat_lit 136,hD "joints" 377 93 2 131 (hR 133) (hR 134) (hR 135) 383) ::
(nat_lit 137,hF 25 "joints" (.str "knotwise.brackets" 371) (.ref 136)) ::
(nat_lit 143,hD "power_at" 385 97 2 138 (hR 140) (hR 141) (hR 142) 391) ::
(nat_lit 144,hF 26 "power_at" (.str "knotwise.brackets" 371) (.ref 143)) ::
(nat_lit 150,hD "stretch_at" 393 99 2 145 (hR 147) (hR 148) (hR 149) 400) ::
(nat_lit 151,hF 27 "stretch_at" (.str "knotwise.brackets" 371) (.ref 150)) ::
(nat_lit 157,hD "rings" 402 102 2 152 (hR 154) (hR 155) (hR 156) 414) ::
(nat_lit 158,hF 28 "rings" (.str "knotwise.brackets" 371) (.ref 157)) ::
(nat_lit 162,hD "power" 416 109 2 159 hN hN (hR 161) 420) ::
(nat_lit 163,hF 29 "power" (.str "knotwise.brackets" 371) (.ref 162)) ::
(nat_lit 167,hD "choices_of" 422 111 1 164 hN hN (hR 166) 426) ::
(nat_lit 168,hF 30 "choices_of" (.str "knotwise.brackets" 371) (.ref 167)) ::
(nat_lit 174,hD "bracket_by_all" 428 113 1 169 (hR 171) (hR 172) (hR 173) 438) ::
(nat_lit 175,hF 31 "bracket_by_all" (.str "knotwise.brackets" 371) (.ref 174)) ::
(nat_lit 181,hD "_law_cell_at" 442 123 2 176 (hR 178) (hR 179) (hR 180) 448) ::
(nat_lit 182,hF 33 "_law_cell_at" (.str "law_knotwise_k42_bracket_by_all_choices" 440) (.ref 181)) ::
(nat_lit 188,hD "_law_whole" 450 127 1 183 (hR 185) (hR 186) (hR 187) 455) ::
(nat_lit 189,hF 34 "_law_whole" (.str "law_knotwise_k42_bracket_by_all_choices" 440) (.ref 188)) ::
(nat_lit 195,hD "_law_pick" 457 129 3 190 (hR 192) (hR 193) (hR 194) 464) ::
(nat_lit 196,hF 35 "_law_pick" (.str "law_knotwise_k42_bracket_by_all_choices" 440) (.ref 195)) ::
(nat_lit 202,hD "_law_poly" 466 131 1 197 (hR 199) (hR 200) (hR 201) 472) ::
(nat_lit 203,hF 36 "_law_poly" (.str "law_knotwise_k42_bracket_by_all_choices" 440) (.ref 202)) ::
(nat_lit 209,hD "_law_pared" 474 138 1 204 (hR 206) (hR 207) (hR 208) 481) ::
(nat_lit 210,hF 37 "_law_pared" (.str "law_knotwise_k42_bracket_by_all_choices" 440) (.ref 209)) ::
(nat_lit 216,hD "_law_sum" 483 144 2 211 (hR 213) (hR 214) (hR 215) 491) ::
(nat_lit 217,hF 38 "_law_sum" (.str "law_knotwise_k42_bracket_by_all_choices" 440) (.ref 216)) ::
(nat_lit 223,hD "_law_product" 493 149 2 218 (hR 220) (hR 221) (hR 222) 502) ::
(nat_lit 224,hF 39 "_law_product" (.str "law_knotwise_k42_bracket_by_all_choices" 440) (.ref 223)) ::
(nat_lit 230,hD "_law_moved" 504 155 3 225 (hR 227) (hR 228) (hR 229) 513) ::
(nat_lit 231,hF 40 "_law_moved" (.str "law_knotwise_k42_bracket_by_all_choices" 440) (.ref 230)) ::
(nat_lit 235,hD "_law_copy" 515 160 1 232 hN hN (hR 234) 519) ::
(nat_lit 236,hF 41 "_law_copy" (.str "law_knotwise_k42_bracket_by_all_choices" 440) (.ref 235)) ::
(nat_lit 242,hD "_law_free" 521 162 2 237 (hR 239) (hR 240) (hR 241) 527) ::
(nat_lit 243,hF 42 "_law_free" (.str "law_knotwise_k42_bracket_by_all_choices" 440) (.ref 242)) ::
(nat_lit 249,hD "_law_put" 529 166 4 244 (hR 246) (hR 247) (hR 248) 538) ::
(nat_lit 250,hF 43 "_law_put" (.str "law_knotwise_k42_bracket_by_all_choices" 440) (.ref 249)) ::
(nat_lit 254,hD "_law_drawing" 540 171 3 251 hN hN (hR 253) 544) ::
(nat_lit 255,hF 44 "_law_drawing" (.str "law_knotwise_k42_bracket_by_all_choices" 440) (.ref 254)) ::
(nat_lit 261,hD "_law_hands" 546 183 1 256 (hR 258) (hR 259) (hR 260) 554) ::
(nat_lit 262,hF 45 "_law_hands" (.str "law_knotwise_k42_bracket_by_all_choices" 440) (.ref 261)) ::
(nat_lit 268,hD "_law_merged" 556 189 3 263 (hR 265) (hR 266) (hR 267) 567) ::
(nat_lit 269,hF 46 "_law_merged" (.str "law_knotwise_k42_bracket_by_all_choices" 440) (.ref 268)) ::
(nat_lit 273,hD "_law_rings" 569 198 2 270 hN hN (hR 272) 573) ::
(nat_lit 274,hF 47 "_law_rings" (.str "law_knotwise_k42_bracket_by_all_choices" 440) (.ref 273)) ::
(nat_lit 280,hD "_law_loops" 575 215 1 275 (hR 277) (hR 278) (hR 279) 582) ::
(nat_lit 281,hF 48 "_law_loops" (.str "law_knotwise_k42_bracket_by_all_choices" 440) (.ref 280)) ::
(nat_lit 287,hD "_law_choices" 584 220 1 282 (hR 284) (hR 285) (hR 286) 595) ::
(nat_lit 288,hF 49 "_law_choices" (.str "law_knotwise_k42_bracket_by_all_choices" 440) (.ref 287)) ::
(nat_lit 294,hD "_law_bracket" 597 231 1 289 (hR 291) (hR 292) (hR 293) 607) ::
(nat_lit 295,hF 50 "_law_bracket" (.str "law_knotwise_k42_bracket_by_all_choices" 440) (.ref 294)) ::
(nat_lit 301,hD "law" 609 240 1 296 (hR 298) (hR 299) (hR 300) 620) ::
(nat_lit 302,hF 51 "law" (.str "law_knotwise_k42_bracket_by_all_choices" 440) (.ref 301)) :: []
noncomputable def hA:List Addr:=[3,45,46,50,51,57,58,62,63,69,70,76,77,81,82,86,87,88,94,95,101,102,108,109,115,116,122,123,129,130,136,137,143,144,150,151,157,158,162,163,167,168,174,175,181,182,188,189,195,196,202,203,209,210,216,217,223,224,230,231,235,236,242,243,249,250,254,255,261,262,268,269,273,274,280,281,287,288,294,295,301,302]
noncomputable def hL:List Str:=["LOOP"]
noncomputable abbrev Qe(w:World):Prop:=∀ os:OsState,(topFrom treeTable (aZ).row.prog w 3658 ⟨Oc w.params,L1 [],Ir,Ob,os⟩).map (fun s=>(openSeen hQ hL (ze (aZ).row.prog.main.body) (Uz aZ hQ) true s,hA.map s.heap.get?))=some (openGood hQ hL,(hK w.params).map fun p=>some p.2)
theorem h_f (w:World):Qe (w.withFollow "special-get-raises" false):=fun os=>by kernel_rfl
theorem h_t (w:World):Qe (w.withFollow "special-get-raises" true):=fun os=>by kernel_rfl
theorem VF (w:World) (os:OsState):(topFrom treeTable (aZ).row.prog w 3658 ⟨Oc w.params,L1 [],Ir,Ob,os⟩).map (fun s=>(openSeen hQ hL (ze (aZ).row.prog.main.body) (Uz aZ hQ) true s,hA.map s.heap.get?))=some (openGood hQ hL,(hK w.params).map fun p=>some p.2):=(byRow2 "special-get-raises" (P:=fun w=>Qe w) h_f h_t) w os
theorem VE:(aZ).wellSaid=true:=by kernel_rfl
theorem VD:KJ aZ hQ=true:=by kernel_rfl
end
end Fin
end Internal
open Internal
open PySem PySem.W PyProof.Rows
set_option maxRecDepth 100000 in
set_option maxHeartbeats 0 in
theorem PySem.Challenge.cw_knotwise_k42_bracket_by_all_choices_holds : PySem.Challenge.rw_knotwise_k42_bracket_by_all_choices.Holds := by
 w_on
 refine K2.MZ (q:=Fin.hQ) (K:=Fin.hK) (as:=Fin.hA) (N:=3658) Fin.VE (by kernel_rfl) (by kernel_rfl) (fun _=>by kernel_rfl) (fun _=>by kernel_rfl) Fin.VF (by rfl) (by rfl) (by rfl) (by rfl) Fin.VD ⟨rfl,rfl,rfl,rfl,rfl,by decide +kernel⟩ ?hw ?hc
 (case hw=>w_witness2)
 k_fill
 refine K2.PC (l:=aZ) (k:=5) (x:="_law_script") rfl rfl ⟨rfl,by decide,by decide⟩ (fun w h Y=>Y) ?F
 case F =>
  intro w mg fa h KX G Vv;exact Fin.all_mk KX G Vv K2.ff K2.ff K2.ff K2.ff K2.ff K2.ff K2.ff K2.ff K2.ff K2.ff K2.ff K2.ff K2.ff K2.ff K2.ff K2.ff K2.ff K2.ff K2.ff K2.ff K2.ff K2.ff K2.ff K2.ff K2.ff K2.ff K2.ff K2.ff K2.ff K2.ff K2.ff K2.ff K2.ff K2.ff K2.ff K2.ff K2.ff K2.ff K2.ff K2.ff
