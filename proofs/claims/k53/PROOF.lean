import PyProof.Rows.All
import Wide.All
import OpenK.AllK
import Wide.FinOn
import Lean
import PyProof.EqAt
import PyProof.EqKinds
import PyProof.TupleCall
import PySem.Challenge.RW_knotwise_k53_basis
open Array renaming getElem?_eq_getElem → bz, getD_eq_getD_getElem? → bC, length_toList → bJ, getElem?_toList → cP, getElem?_eq_none → gR, getD → qI, forIn_toList → zc, toList_filterMap → OM, toList_filter → SG
open Array.Perm renaming refl → ng
open Bool renaming false_eq_true → aF, and_eq_true → aP, not_true → bP, noConfusion → bZ, not_false → cY, false_ne_true → e7, and_eq_true_iff → jZ, eq_iff_iff → o1, not_eq_true' → rV, or_eq_true → wo, false_and → yd, and_false → ye, not_eq_true → Fe, false_or → OL, beq_eq_decide_eq → R5
open Classical renaming byContradiction → cj, choose → R4
open False renaming elim → cw
open ForInStep renaming yield → sC
open Function renaming comp → IU, comp_def → R3
open Int renaming toNat_natCast → aX, emod_lt_of_pos → dE, emod_nonneg → dZ, mul_emod → fe, add_emod → iR, natCast_nonneg → jr, mul_comm → kM, zero_mul → qA, mul_one → tG, add_zero → wz, toNat_of_nonneg → zb, toNat → Bq, mul_right_comm → Br, emod_emod → Bs, sub_emod → Fb, le_refl → Jm, sub_zero → SA
open List renaming getElem?_cons_zero → aa, getElem?_cons_succ → ae, getElem?_eq_getElem → ag, length_map → ah, set_cons_zero → ai, length_cons → ak, mem_cons_of_mem → ao, length_append → aq, set_cons_succ → ar, map_cons → au, mem_cons_self → ay, getD_eq_getElem?_getD → az, map_append → aE, length_nil → aG, replicate → aJ, cons_append → aT, mem_map_of_mem → aW, size_toArray → aZ, map_nil → bb, nil_append → bh, length_singleton → bp, range → bq, getElem?_map → bA, mem_append_right → bH, length_replicate → bK, map_map → bV, flatten_cons → bW, length_set → cb, append_nil → cc, nodup_append → cm, getElem_mem → cq, getElem?_append_right → cC, nodup_cons → cD, append_assoc → cH, length_drop → cM, filter_append → cZ, getElem_of_mem → da, nodup_nil → dh, mem_of_getElem? → di, getElem?_append_left → dG, getElem_map → dJ, length → dP, foldl_cons → dQ, length_take → dW, length_range → d4, mem_append_left → d6, getElem?_set_ne → eX, getElem?_set_self → fh, drop_eq_getElem_cons → fk, all_eq_true → ft, length_filter_le → fC, sum_cons → fM, filter_cons_of_pos → fN, mem_cons → gh, take_append_drop → gk, getElem?_eq_none → gm, find?_cons → gq, not_mem_nil → gy, getElem?_replicate → gK, filter_cons_of_neg → gL, zipIdx_map_fst → gQ, take_of_length_le → gS, mem_of_find?_eq_some → g8, pairwise_map → iB, map_uncurry_zip_eq_zipWith → iC, flatMap_cons → iD, length_reverse → iP, flatten_append → iQ, drop_eq_nil_of_le → ji, filter_nil → jF, foldl_append → jS, nodup_iff_pairwise_ne → jY, filter_cons → km, getElem?_take_of_lt → kr, range_succ → lB, mem_singleton → lC, getElem_range → lD, any_cons → lE, find?_cons_of_pos → lZ, find?_append → mx, countP_congr → my, countP_cons → nJ, all_cons → oD, map_congr_left → oY, getD_cons_zero → oZ, eraseP_of_forall_not → qz, take_append_getElem → rT, zipIdx_cons → tE, isEmpty_nil → tF, pairwise_lt_range → uv, find?_cons_of_neg → uw, zipWith → wb, map_set → wc, length_zip → wd, length_eraseP_le → we, getElem?_reverse → wg, all_map → wj, replicate_succ' → xj, take_zero → x8, mem_range → ya, reverse_append → yu, length_zipWith → yv, getD_cons_succ → yw, filterMap_cons → yx, take_nil → Bi, getElem?_drop → Bj, drop_nil → Bk, append_of_mem → Bl, set_nil → Dc, lookup_cons → E7, ext_getElem → E8, of_mem_zip → IM, mem_filter → IP, mem_append → IQ, idxOf_lt_length_of_mem → IS, find?_some → IT, perm_ext_iff_of_nodup → Jl, pairwise_iff_getElem → Li, foldl_nil → Lj, eraseP_append_right → MP, pairwise_singleton → OE, pairwise_mergeSort → OF, map_take → OG, eraseP_cons_of_pos → OH, eraseP_cons_of_neg → OI, eraseP_append_left → OJ, mem_of_mem_eraseP → Pd, getElem_cons_succ → Pe, filter_eq_nil_iff → Pf, getElem?_toArray → RY, concat_eq_append → RZ, mem_of_getLast? → Sz
open List.Pairwise renaming filter → qH, imp_of_mem → Bm
open List.Perm renaming eq_of_pairwise → E9
open Nat renaming le_refl → aM, ne_of_lt → bT, lt_of_lt_of_le → cv, not_lt_zero → cE, le_trans → cG, zero_le → cJ, zero_add → fT, lt_irrefl → gi, le_add_right → gC, add_sub_cancel_left → iW, mod_lt → jX, succ_pos → kL, lt_of_le_of_lt → qx, add_sub_cancel → qy, succ_le_succ → uo, mod_eq_of_lt → uq, lt_succ_self → ur, lt_of_succ_lt_succ → uF, le_of_succ_le_succ → uG, add_sub_cancel' → za, lt_succ_of_lt → C8, lt_succ_of_le → C9, succ_add → E2, sub_self → E3, pow_succ → E4, mul_comm → E5, le_of_lt → E6, min_eq_left → Jk, sub_le → OD, sub_zero → Sx, lt_trans → Sy
open Ne renaming symm → eC
open Option renaming isSome_map → lT, map_some → E1
open Option.some renaming inj → bR
open PyProof.Rows renaming callWith_type1 → fu, callWith_builtin1 → kK, IntsAre → o7, seqObj → uB, slot_tuple_getitem → wa, preSum_getD → Bp, AllBare → Df, envOfC → Fj, oneType' → OC
open PyProof.Rows.F renaming plain_set_update_loop → uH, entry_set_update_loop → SF
open PySem renaming wpAny_bind → af, wpAny_pure → av, Shared → aA, mainGlobals → aY, FuncData → bc, sizeLine → bG, Program → ck, starEach → cB, wpAny_loadPart' → cI, sizeLine_eq → cN, wpAny_newObj_type → df, wpAny_call_entry → dg, tupleKind → d8, Around → eF, bootBuiltins → eR, wpAny_dictEntries → eZ, sysModules → e6, compareOp → ff, wpAny_passesOwn → fw, wpAny_holding → fF, wpAny_callSpecial?_slot → fU, ReadsAll → g7, wpAny_Call_Name_kw → ij, SetTable → ik, DictEntry → ip, mem_of_lookup → iN, wpAny_pyIter_slot → iU, wpAny_dictEpoch → iV, wpAny_typeNameOfWhole_valiter → ju, wpAny_typeNameOfWhole_keyiter → jv, wpAny_forIn_list → jw, wpAny_fieldsOf → jE, foldedSetIterable → kh, binaryOp → kj, wpAny_setField → kR, backTo → kS, wpAny_typeNameOf_valiter → lR, wpAny_typeNameOf_keyiter → lS, wpAny_execs_nil → mE, codeAny_builtin → mF, wpAny_truthy_bool → og, wpAny_setState_of → oh, wpAny_mono → oj, firstArgMember → oB, wpAny_isOneOf_valiter → oE, wpAny_isInstance → o4, rawInt → qg, wpAny_attempt → qu, sliceBounds → qB, pyNext → qC, tupleKind_room_in1 → sW, NameKind → sX, wpAny_pyIter_list → uA, ofAClassStatement → uC, behindInMarks → wu, attributeBase → wx, richCompare_meets_room → xZ, wpAny_specialOf → yV, wpAny_notOrdered_dict → yW, letOwnedTupleGo → yX, codeAny_mono → yZ, codeAny → y8, entryOfKey → Bf, call_meets → Bg, assignEach → Bh, pyIter → BX, entryFor_alias → BY, carriedByValue → BZ, wpAny_setEntries_of → C4, wpAny_of_eq → C5, swapsWith → Fh, plainId_quiet → Fi, dictSetHashed → Fl, wpAny_truthy_dict → Jc, wpAny_assign_Name → Jd, searchCouldBeSeen → Je, relabel → Jf, callerA → Jg, wpAny_typeOf → Lc, wpAny_callSpecialIfBound?_slot → Ld, call → Le, wpAny_execs_cons → ML, wpAny_askSetting → MM, setField → OB, wpAny_field → O0, valueAt → O1, unsupported → O3, spliced → O4, size_of_entries → O5, importedModules → O7, holding → O8, hashByValue → O9, assign → Pa, Paired → Pc, Keyword → Pg, BindsTo → Ph, isSubtype_type → Sr, isSubtype_stop → Ss, evalArgs_none → Su, Walks → Sv
open PySem.Around renaming under_plainId → jT
open PySem.AutoSeq1 renaming sub_tuple_tuple → qh, sub_list_list → Jp
open PySem.Builtin.Dict renaming showsAll → iS, entriesForEmpty → yc, updateFrom → B1, mergeDict → De, quietEq → Fp, noArgs → IY
open PySem.Builtin.Dict_items renaming ownsTuple → fX
open PySem.Builtin.List renaming listTooLong → jK, listLengthHint → yz
open PySem.Builtin.Slice renaming slicePlaces → jm, sliceAdjust → nv, sliceApplied → yy
open PySem.Builtin.Tuple renaming tupleExact → jH, tupleCompareSizes → uI
open PySem.Calls renaming spliced_cons → kT, callWith_builtin → tH, Name_function_global → IX
open PySem.F renaming plainAttrs_list → cx, slot_list_index → fH, type_list_index → gB, type_list_append → h8, slot_list_append → ia, slot_dict_valueiterator_next → i8, slot_dict_keyiterator_next → jG, slot_tuple_lt → lY, plainAttrs_dict → qF, args_tuple_lt_2 → qG, entry_tuple_lt → sv, slot_list_lt → uD, args_dict_valueiterator_next_1 → Fd, entry_dict_valueiterator_next → Fo, slot_dict_values → IJ, slot_dict_update → IK, args_tuple_add_2 → IL, slot_dict_valueiterator_iter → IV, args_dict_keyiterator_next_1 → IW, slot_dict_items → Ji, entry_tuple_add → Jj, slot_dict_itemiterator_iter → Jn, entry_dict_keyiterator_next → Jo, slot_tuple_add → Lg, args_list_lt_2 → Lh, slot_dict_keyiterator_iter → Ll, slot_set_iter → MN, entry_list_lt → MO, slot_dict_values_iter → SE
open PySem.Heap renaming get?_push_of_some → aN, lt_size → aQ, get?_push_size → bx, get?_update_self → fD, SameBut → gM, get?_update_other → ux, size_push → yb, size_update → Fc, get?_none_of_le → SD
open PySem.Heap.SameBut renaming update → cR, refl → wm
open PySem.IsTupleKey renaming typeIs → xk
open PySem.NameKind renaming free → kq
open PySem.Obj renaming data_mapFields → fc, mapSeq → jh, mapFields → lH, isFreed_of_fields → nu, data_mapDictKeys → oC, putSet → sx, cls_mapFields → sA
open PySem.Paired renaming length → gG
open PySem.PassesOwn renaming never → bN
open PySem.PyData renaming depthAll → cO, eqv → uE
open PySem.SeqAt renaming items_eqAt → nq, any_by_data → qE, readOf → B0
open PySem.SetTable renaming below → EZ, fill → II
open PySem.Str renaming ofString → nj
open PySem.Value renaming none → eD, ref → fx, bool → Bo, isInt → Fm, int → Fn
open PySem.W renaming Frag → aj, keepIn → aB, fnOf → aL, nsIn → br, mg_of → bu, codeIn → bB, mg_none_of → dO, kas_rev → gY, kia_one → jl, kas_place → j0, kas_desc → lA, findIn → o6, kas_asc → qD, KdlSrc → v9, kas_descPart → yY, methodObj → y9, OpenLaw → C7, cellsFrom_some → Lf, kas_tail3 → O6, specialIn → Sw
open PySem.W.KasT renaming ret → wy
open Sum renaming inl → C6, inr → Jh
open True renaming intro → i9
set_option Elab.async false
set_option linter.all false
set_option maxRecDepth 100000
set_option maxHeartbeats 4000000
set_option genSizeOf false
set_option genInjectivity false
set_option compiler.extract_closed false
namespace Internal
theorem Ad(h:0=0:=by decide):0=0:=h
theorem Ai(h:0=0:=by intro _; rfl):0=0:=h
theorem Ak(h:0=0:=by decide +kernel):0=0:=h
theorem Al(h:0=0:=by intro _ _ _ _ h; repeat (first | (cases h.1; rfl) | (cases h <;> rename_i h))):0=0:=h
theorem Ao(h:0=0:=by first | exact .inl rfl | exact .inr rfl | exact .inr (.inl rfl) | exact .inr (.inr rfl) | assumption):0=0:=h
theorem Ar(h:0=0:=by rfl):0=0:=h
theorem Aw(h:0=0:=by with_unfolding_all rfl):0=0:=h
namespace L2
open PySem PySem.Spec PyProof.Rows
noncomputable abbrev Key:=Sum Int Str
noncomputable def Cz:Key->Value->Bool
 | .inl k,v=>Fm k v
 | .inr x,v=>Value.isStrOf x v
noncomputable def adP(w:World):Key->Int
 | .inl k=>hashInt k
 | .inr x=>hashStr w x
theorem fj:∀ {k:Key} {v:Value},Cz k v=true->(∃ i t,k=C6 i/\v=Fn i t)\/(∃ x t,k=Jh x/\v=Value.str x t)
 | .inl i,v,h=>by
  obtain⟨t,e⟩:=Value.isInt_shape (k:=i) (v:=v) h
  exact .inl ⟨i,t,rfl,e⟩
 | .inr x,v,h=>by
  obtain⟨t,e⟩:=Value.isStrOf_shape (x:=x) (v:=v) h
  exact .inr ⟨x,t,rfl,e⟩
theorem NN(i:Int)(t:Tok):Cz (.inl i) (.int i t)=true:=by simp [Cz,Fm]
theorem NM(x:Str)(t:Tok):Cz (.inr x) (.str x t)=true:=by simp [Cz,Value.isStrOf]
theorem QF(a b:Int):decide ((C6 a:Key)=C6 b)=(a == b):=by
 by_cases e:a=b
 ·subst e; simp
 ·have h:¬ (C6 a:Key)=C6 b:=fun q=>e (Sum.inl.inj q)
  rw [decide_eq_false h]
  exact(beq_eq_false_iff_ne.mpr e).symm
theorem QE(a b:Str):decide ((Jh a:Key)=Jh b)=decide (a=b):=by
 by_cases e:a=b
 ·subst e; simp
 ·have h:¬ (Jh a:Key)=Jh b:=fun q=>e (Sum.inr.inj q)
  rw [decide_eq_false h,decide_eq_false e]
theorem V2(a:Int)(b:Str):decide ((C6 a:Key)=Jh b)=false:=decide_eq_false (fun q=>nomatch q)
theorem V1(a:Str)(b:Int):decide ((Jh a:Key)=C6 b)=false:=decide_eq_false (fun q=>nomatch q)
noncomputable def cy(prog:ck)(w:World):PySem.KeyKind prog w Key where
 is:=Cz
 hash:=adP w
 inj:=fun v a b ha hb=>by
  rcases fj ha with ⟨i,t,rfl,rfl⟩ | ⟨x,t,rfl,rfl⟩
  ·rcases fj hb with ⟨j,u,rfl,e⟩ | ⟨y,u,rfl,e⟩
   ·injection e with e1 _; rw [e1]
   ·exact nomatch e
  ·rcases fj hb with ⟨j,u,rfl,e⟩ | ⟨y,u,rfl,e⟩
   ·exact nomatch e
   ·injection e with e1 _; rw [e1]
 byValue:=fun k v h=>by
  rcases fj h with ⟨i,t,rfl,rfl⟩ | ⟨x,t,rfl,rfl⟩ <;> rfl
 pyHash:=fun hv h=>by
  rcases fj hv with ⟨i,t,rfl,rfl⟩ | ⟨x,t,rfl,rfl⟩
  ·exact wpAny_pyHash_int h
  ·exact wpAny_pyHash_str h
 eqBool:=fun hu hv h=>by
  rcases fj hu with ⟨i,t,rfl,rfl⟩ | ⟨x,t,rfl,rfl⟩
  ·rcases fj hv with ⟨j,u,rfl,rfl⟩ | ⟨y,u,rfl,rfl⟩
   ·rw [QF] at h; exact wpAny_eqBool_int h
   ·rw [V2] at h; exact SeqAt.EqAt.int_str i t y u _ _ _ _ h
  ·rcases fj hv with ⟨j,u,rfl,rfl⟩ | ⟨y,u,rfl,rfl⟩
   ·rw [V1] at h; exact SeqAt.EqAt.str_int x t j u _ _ _ _ h
   ·rw [QE] at h; exact wpAny_eqBool_str h
 «strs»:=fun k x t v h=>by
  rcases fj h with ⟨i,u,rfl,e⟩ | ⟨y,u,rfl,e⟩
  ·exact nomatch e
  ·injection e with e1 _
   subst e1
   cases v <;> rfl
theorem Gv(prog:ck)(w:World)(i:Int)(t:Tok):(cy prog w).is (.inl i) (.int i t)=true:=NN i t
theorem Gu(prog:ck)(w:World)(x:Str)(t:Tok):(cy prog w).is (.inr x) (.str x t)=true:=NM x t
inductive V where
 | du | bl (b:Bool) | int (i:Int) | str (x:Str) | WB (b:Array UInt8) | YT (b:UInt64) | ref (a:Addr) | ty (n:String)
noncomputable def RelV:V->Value->Prop
 | .du,u=>u=eD
 | .bl b,u=>u=Bo b
 | .int i,u=>∃ t,u=Fn i t
 | .str x,u=>∃ t,u=Value.str x t
 | .WB b,u=>∃ t,u=Value.bytes b t
 | .YT b,u=>∃ t,u=Value.float b t
 | .ref a,u=>u=fx a
 | .ty n,u=>u=Value.type n
noncomputable abbrev Vals:List V->List Value->Prop:=Pc RelV
theorem Vals.length{xs:List V}{us:List Value}(r:Vals xs us):xs.length=us.length:=gG r
theorem Vals.get:∀ {xs:List V} {us:List Value} {i:Nat} {x:V},Vals xs us->xs[i]?=some x->∃ u,us[i]?=some u/\RelV x u:=by
 intro xs us i x h
 induction h generalizing i with
 | nil=>intro e; cases e
 | cons r t ih =>
  intro e
  cases i with
  | zero=>cases e; exact⟨_,rfl,r⟩
  | succ i=>exact ih e
theorem Vals.set{x:V}{u:Value}(r:RelV x u):∀ {xs:List V} {us:List Value} (i:Nat),Vals xs us->Vals (xs.set i x) (us.set i u):=by
 intro xs us i h
 induction h generalizing i with
 | nil=>rw [Dc,Dc]; exact .nil
 | cons q t ih =>
  cases i with
  | zero=>exact .cons r t
  | succ i=>exact .cons q (ih i)
theorem Vals.append:∀ {xs ys:List V} {us ws:List Value},Vals xs us->Vals ys ws->Vals (xs++ys) (us++ws):=by
 intro xs ys us ws h s
 induction h with
 | nil=>exact s
 | cons r t ih=>exact .cons r ih
theorem Vals.take:∀ {xs:List V} {us:List Value} (n:Nat),Vals xs us->Vals (xs.take n) (us.take n):=by
 intro xs us n h
 induction h generalizing n with
 | nil=>rw [Bi,Bi]; exact .nil
 | cons r t ih =>
  cases n with
  | zero=>exact .nil
  | succ n=>exact .cons r (ih n)
theorem Vals.drop:∀ {xs:List V} {us:List Value} (n:Nat),Vals xs us->Vals (xs.drop n) (us.drop n):=by
 intro xs us n h
 induction h generalizing n with
 | nil=>rw [Bk,Bk]; exact .nil
 | cons r t ih =>
  cases n with
  | zero=>exact .cons r t
  | succ n=>exact ih n
noncomputable def BS:Option V->Option Value->Prop
 | some v,some u=>RelV v u
 | none,none=>True
 | _,_=>False
noncomputable def KV{κ:Type}:List (κ×V)->List (κ×Value)->Prop:=Pc fun (p:κ×V) (q:κ×Value)=>p.1=q.1/\RelV p.2 q.2
noncomputable def kV:Key->V
 | .inl i=>.int i
 | .inr x=>.str x
inductive HO where
 | lst (xs:List V)
 | tup (xs:List V)
 | dK (kvs:List (Key×V)) | dT (kvs:List (List Key×V))
 | set (S:Int->Bool) (n:Nat)
 | ins (C dx:Addr) (fs:List (Str×V))
 | own (x:Addr)
 | xd (fs:List (Str×V))
 | met (f x:Addr)
 | ZO (lo hi:Int)
 | lW (o:Obj) (u:HO)
 | Ut (ps:Array Value)
 | ext (φ:Heap->Prop)
noncomputable abbrev Hp:=Addr->Option HO
noncomputable def upd(H:Hp)(a:Addr)(o:HO):Hp:=fun b=>if b=a then some o else H b
theorem dj{H:Hp}{a:Addr}{o:HO}:upd H a o a=some o:=by unfold upd; rw [if_pos rfl]
theorem cu{H:Hp}{a b:Addr}{o:HO}(h:b≠a):upd H a o b=H b:=by unfold upd; rw [if_neg h]
theorem XZ{H:Hp}{a b:Addr}{o u:HO}(h:H a=some o)(h':H b=some u)(d:o≠u):a≠b:=by
 intro e; subst e; rw [h] at h'; exact d (bR h')
theorem fA{H:Hp}{a b:Addr}{o:HO}(h:H a=some o)(h':H b=none):a≠b:=by
 intro e; subst e; rw [h] at h'; cases h'
section
variable (P:ck) (w:World)
noncomputable def hX(H:Hp)(h:Heap)(a:Addr):HO->Prop
 | .lst xs=>xs.length<=bG/\∃ (bM:List Value) (n:Nat),Vals xs bM/\h.get? a=some { cls:=.type "list",data:=.seq bM.toArray n }
 | .tup xs=>xs.length<=bG/\∃ bM:List Value,Vals xs bM/\IsTup h a bM.toArray
 | .dK kvs=>kvs.length<=bG/\(a == e6)=false/\∃ vs,KV kvs vs/\h.DictOf (cy P w) a vs
 | .dT kvs=>kvs.length<=bG/\(a == e6)=false/\∃ xs:List (List Key×Addr×Value),
   Pc (fun (p:List Key×V) (q:List Key×Addr×Value)=>p.1=q.1/\H q.2.1=some (.tup (p.1.map kV))/\RelV p.2 q.2.2) kvs xs /\
   ∃ o es ep,h.get? a=some o/\o.ExactDict/\o.data=.dict es ep/\es.toList=xs.map (Bf (d8 (cy P w)))/\(xs.map (·.1)).Nodup
 | .set S n=>h.SetOf (intKind P w) a S n
 | .ins C dx fs=>H dx=some (.own a)/\fs.length<=1000/\dx≠a/\h.get? a=some (PySem.W.instObj C dx) /\
   ∃ mA,h.Ns1 dx mA/\(∀ f,BS (fs.lookup f) (mA f))/\PySem.Within mA (fs.map (·.1))
 | .own _=>∃ o,h.get? a=some o
 | .xd fs=>∃ mA,h.Ns1 a mA/\∀ f,BS (fs.lookup f) (mA f)
 | .ZO lo hi=>∃ t u v,h.get? a=some { cls:=.type "range",data:=.fields #[.int lo t,.int hi u,.int 1 v] }
 | .lW o u=>h.get? a=some o/\hX H h a u
 | .Ut ps=>h.get? a=some { cls:=.none,data:=.fields ps }
 | .met f x=>h.get? a=some (y9 (.ref f) (.ref x))
 | .ext φ=>φ h/\(∃ o,h.get? a=some o)/\∀ h1 h2:Heap,φ h1->(∀ o,h1.get? a=some o->h2.get? a=some o)->φ h2
noncomputable def uz(H:Hp)(h:Heap):Prop:=∀ a o,H a=some o->hX P w H h a o
end
section
variable {P:ck} {w:World} {H H':Hp} {h h':Heap} {a:Addr} {o:HO}
theorem hX.lt(x:hX P w H h a o):a < h.objs.size:=by
 cases o with
 | lst xs=>obtain⟨_,_,_,_,e⟩:=x; exact aQ e
 | tup xs=>obtain⟨_,_,_,p⟩:=x; exact p.lt
 | dK kvs=>obtain⟨_,_,_,_,o,_,_,e,_⟩:=x; exact aQ e
 | dT kvs=>obtain⟨_,_,_,_,o,_,_,e,_⟩:=x; exact aQ e
 | set S n=>obtain⟨o,_,_,_,e,_⟩:=x; exact aQ e
 | ins C dx fs=>obtain⟨_,_,_,e,_⟩:=x; exact aQ e
 | own y=>obtain⟨_,e⟩:=x; exact aQ e
 | xd fs=>obtain⟨_,⟨_,_,_,e,_⟩,_⟩:=x; exact aQ e
 | ZO lo hi=>obtain⟨_,_,_,e⟩:=x; exact aQ e
 | lW ob u=>obtain⟨e,_⟩:=x; exact aQ e
 | Ut ps=>exact aQ (show h.get? a=some _ from x)
 | met f y=>exact aQ (show h.get? a=some _ from x)
 | ext φ=>obtain⟨_,⟨_,e⟩,_⟩:=x; exact aQ e
theorem Paired.X2{α β:Type}{F G:α->β->Prop}:∀ {l₁:List α} {VP:List β},Pc F l₁ VP->(∀ a b,F a b->G a b)->Pc G l₁ VP:=by
 intro l₁ VP h f
 induction h with
 | nil=>exact .nil
 | cons r t ih=>exact .cons (f _ _ r) ih
theorem hX.nA(x:hX P w H h a o)(k:∀ b u,(b=a\/H b=some (.own a))->h.get? b=some u->h'.get? b=some u)
  (ho:∀ b,H b=some (.own a)->H' b=some (.own a)) (ht:∀ b xs,H b=some (.tup xs)->H' b=some (.tup xs)):hX P w H' h' a o:=by
 induction o with
 | lst xs=>obtain⟨z,bM,n,r,e⟩:=x; exact⟨z,bM,n,r,k _ _ (.inl rfl) e⟩
 | tup xs=>obtain⟨z,bM,r,ob,e,c⟩:=x; exact⟨z,bM,r,ob,k _ _ (.inl rfl) e,c⟩
 | dK kvs=>obtain⟨z,y,vs,r,ob,es,ep,e,c⟩:=x; exact⟨z,y,vs,r,ob,es,ep,k _ _ (.inl rfl) e,c⟩
 | dT kvs =>
  obtain⟨z,y,xs,r,ob,es,ep,e,c⟩:=x
  exact⟨z,y,xs,Paired.X2 r fun p q z=>⟨z.1,ht _ _ z.2.1,z.2.2⟩,ob,es,ep,k _ _ (.inl rfl) e,c⟩
 | set S n=>obtain⟨ob,es,ep,t,e,c⟩:=x; exact⟨ob,es,ep,t,k _ _ (.inl rfl) e,c⟩
 | ins C dx fs =>
  obtain⟨d,z,ne,e,mA,⟨od,es,ep,e2,c⟩,r⟩:=x
  exact⟨ho _ d,z,ne,k _ _ (.inl rfl) e,mA,⟨od,es,ep,k _ _ (.inr d) e2,c⟩,r⟩
 | own y=>obtain⟨ob,e⟩:=x; exact⟨ob,k _ _ (.inl rfl) e⟩
 | xd fs=>obtain⟨mA,⟨od,es,ep,e,c⟩,r⟩:=x; exact⟨mA,⟨od,es,ep,k _ _ (.inl rfl) e,c⟩,r⟩
 | ZO lo hi=>obtain⟨t,u,v,e⟩:=x; exact⟨t,u,v,k _ _ (.inl rfl) e⟩
 | lW ob u ih=>obtain⟨e,q⟩:=x; exact⟨k _ _ (.inl rfl) e,ih q⟩
 | Ut ps =>
  have e:h.get? a=some { cls:=.none,data:=.fields ps }:=x
  show h'.get? a=some { cls:=.none,data:=.fields ps }
  exact k a _ (.inl rfl) e
 | met f y =>
  have e:h.get? a=some (y9 (.ref f) (.ref y)):=x
  show h'.get? a=some (y9 (.ref f) (.ref y))
  exact k a _ (.inl rfl) e
 | ext φ=>obtain⟨p,⟨o,e⟩,st⟩:=x; exact⟨st _ _ p fun o q=>k _ _ (.inl rfl) q,⟨o,k _ _ (.inl rfl) e⟩,st⟩
theorem uz.lt(x:uz P w H h)(e:H a=some o):a < h.objs.size:=(x a o e).lt
theorem uz.fresh(x:uz P w H h)(e:h.objs.size<=a):H a=none:=by
 cases q:H a with
 | none=>rfl
 | some u=>exact absurd (cv (x.lt q) e) (gi _)
theorem uz.kept(x:uz P w H h)(k:∀ b u,h.get? b=some u->h'.get? b=some u):uz P w H h':=fun a o e =>
 (x a o e).nA (fun b u _ q=>k b u q) (fun _ q=>q) fun _ _ q=>q
theorem uz.laid(x:uz P w H h)(k:∀ b u,h.get? b=some u->h'.get? b=some u)(hp:h.objs.size<=a)(new:hX P w (upd H a o) h' a o):uz P w (upd H a o) h':=fun b u e=>by
 have hn:=x.fresh hp
 by_cases hb:b=a
 ·subst hb; rw [dj] at e; cases e; exact new
 ·rw [cu hb] at e
  exact(x b u e).nA (fun c v _ q=>k c v q) (fun c q=>by rw [cu (fA q hn)]; exact q) fun c xs q=>by rw [cu (fA q hn)]; exact q
end
noncomputable def Rd(H:Hp)(a:Addr)(u:HO):Prop:=H a=some u\/∃ o,H a=some (.lW o u)
theorem Rd.ok{P:ck}{w:World}{H:Hp}{h:Heap}{a:Addr}{u:HO}(r:Rd H a u)(x:uz P w H h):hX P w H h a u:=by
 rcases r with r | ⟨o,r⟩
 ·exact x a u r
 ·obtain⟨_,q⟩:=x a _ r
  exact q
noncomputable def ZD:Option HO->Prop
 | some (.lst _)=>True
 | some (.dK _)=>True
 | some (.dT _)=>True
 | some (.set _ _)=>True
 | some (.ins _ _ _)=>True
 | some (.ext _)=>True
 | _=>False
section
variable {P:ck} {w:World} {H:Hp} {h h':Heap} {x e:Addr} {o':HO}
theorem uz.write(ok:uz P w H h)(mu:ZD (H x))(he:e=x\/H e=some (.own x))(k:∀ b u,b≠e->h.get? b=some u->h'.get? b=some u)(OS:∃ u,h'.get? e=some u)
  (new:hX P w (upd H x o') h' x o'):uz P w (upd H x o') h':=fun b u q=>by
 have XU:∀ c y,H c=some (.own y)->c≠x:=fun c y r z=>by subst z; rw [r] at mu; exact mu
 have ada:∀ c xs,H c=some (.tup xs)->c≠x:=fun c xs r z=>by subst z; rw [r] at mu; exact mu
 by_cases hb:b=x
 ·subst hb; rw [dj] at q; cases q; exact new
 ·rw [cu hb] at q
  by_cases Wd:b=e
  ·have q':H b=some (.own x):=by
    rcases he with z | z
    ·exact absurd (Wd.trans z) hb
    ·rw [Wd]; exact z
   rw [q] at q'; cases q'
   obtain⟨v,hv⟩:=OS
   exact⟨v,by rw [Wd]; exact hv⟩
  ·refine(ok b u q).nA (fun c v hc r=>k c v ?_ r) (fun c r=>by rw [cu (XU c b r)]; exact r) fun c xs r=>by rw [cu (ada c xs r)]; exact r
   rcases hc with rfl | hc
   ·exact Wd
   ·rintro rfl
    rcases he with z | z
    ·exact XU c b hc z
    ·rw [hc] at z; cases z; exact hb rfl
end
structure Un(fs ex:List Addr)(H H':Hp)(h h':Heap):Prop where
 keep:∀ b o,h.get? b=some o->H b=none->b∉fs->b∉ex->h'.get? b=some o
 slot:∀ b o,h.get? b=some o->H b=none->b∈fs->b∉ex->∃ sl,h'.get? b=some { o with slots:=sl }
 free:∀ b o,h.get? b=some o->H b=none->b∉ex->H' b=none
 there:∀ b o,h.get? b=some o->b∉ex->∃ o',h'.get? b=some o'
 wB:∀ b xs,H b=some (.tup xs)->H' b=some (.tup xs)
 vL:∀ b o u,H b=some (.lW o u)->H' b=some (.lW o u)
 wC:∀ b ps,H b=some (.Ut ps)->∃ more,H' b=some (.Ut (ps++more))
section
variable {fs fs' ex ex':List Addr} {H H1 H2:Hp} {h h1 h2 h':Heap} {a x e:Addr} {o:HO}
theorem Un.any(u:Un fs ex H H1 h h1){b:Addr}{ob:Obj}(q:h.get? b=some ob)(n:H b=none)(hx:b∉ex):∃ sl,h1.get? b=some { ob with slots:=sl }:=by
 by_cases hb:b∈fs
 ·exact u.slot b ob q n hb hx
 ·exact⟨ob.slots,u.keep b ob q n hb hx⟩
theorem Un.kept(k:∀ b u,h.get? b=some u->h'.get? b=some u):Un fs ex H H h h' :=
 ⟨fun b ob q _ _ _=>k b ob q,fun b ob q _ _ _=>⟨ob.slots,k b ob q⟩,fun _ _ _ n _=>n,fun b ob q _=>⟨ob,k b ob q⟩,fun _ _ q=>q,fun _ _ _ q=>q,fun _ ps q=>⟨#[],by rw [q]; simp⟩⟩
theorem Un.refl:Un fs ex H H h h:=Un.kept fun _ _ q=>q
theorem Un.laid(k:∀ b u,h.get? b=some u->h'.get? b=some u)(hp:h.objs.size<=a)(hn:H a=none):Un fs ex H (upd H a o) h h' where
 keep:=fun b u q _ _ _=>k b u q
 slot:=fun b u q _ _ _=>⟨u.slots,k b u q⟩
 free:=fun b u q n _=>by rw [cu (bT (cv (aQ q) hp))]; exact n
 there:=fun b u q _=>⟨u,k b u q⟩
 wB:=fun b xs q=>by rw [cu (fA q hn)]; exact q
 vL:=fun b u xs q=>by rw [cu (fA q hn)]; exact q
 wC:=fun b ps q=>⟨#[],by rw [cu (fA q hn),q]; simp⟩
theorem Un.write(mu:ZD (H x))(he:e=x\/H e=some (.own x))(k:∀ b u,b≠e->h.get? b=some u->h'.get? b=some u)(OS:∃ u,h'.get? e=some u):Un fs ex H (upd H x o) h h':=by
 have hx:∀ b,H b=none->b≠x:=fun b n z=>by subst z; rw [n] at mu; exact mu
 have hb:∀ b,H b=none->b≠e:=fun b n z=>by
  subst z
  rcases he with r | r
  ·exact hx b n r
  ·rw [n] at r; cases r
 have hm:∀ b u,H b=some u->¬ ZD (some u)->b≠x:=fun b u q nm z=>by subst z; rw [q] at mu; exact nm mu
 refine⟨fun b u q n _ _=>k b u (hb b n) q,fun b u q n _ _=>⟨u.slots,k b u (hb b n) q⟩,fun b u q n _=>by rw [cu (hx b n)]; exact n,fun b u q _=>?_,
  fun b xs q=>by rw [cu (hm b _ q fun z=>z)]; exact q,fun b u xs q=>by rw [cu (hm b _ q fun z=>z)]; exact q,fun b ps q=>⟨#[],by rw [cu (hm b _ q fun z=>z),q]; simp⟩⟩
 by_cases Wd:b=e
 ·subst Wd; exact OS
 ·exact⟨u,k b u Wd q⟩
end
noncomputable def ZI(h:Heap)(H:Hp):List Addr:=(bq h.objs.size).filter fun a=>(H a).isSome
noncomputable def Eg(h:Heap)(H:Hp):Heap:=PySem.W.hideAll h (ZI h H)
theorem NW(h:Heap)(H:Hp):(Eg h H).objs.size=h.objs.size:=PySem.W.hideAll_size _ _
theorem Q3{h:Heap}{H:Hp}{b:Addr}{o:Obj}(e:h.get? b=some o)(n:H b=none):(Eg h H).get? b=some o :=
 PySem.W.hideAll_get _ e fun hm=>by
  have q:(H b).isSome=true:=(List.mem_filter.mp hm).2
  rw [n] at q; simp at q
theorem Tu{h:Heap}{H:Hp}{b:Addr}{o:Obj}(e:(Eg h H).get? b=some o):h.get? b=some o/\H b=none:=by
 have e':h.get? b=some o:=PySem.W.of_hideAll (ZI h H) e
 refine⟨e',?_⟩
 cases q:H b with
 | none=>rfl
 | some x =>
  have hm:b∈ZI h H:=List.mem_filter.mpr ⟨List.mem_range.mpr (aQ e'),by simp [q]⟩
  have z:(Eg h H).get? b=none:=PySem.W.hideAll_none (ZI h H) hm
  rw [z] at e; cases e
noncomputable def qc(g h:Heap)(L:Addr):List (Addr×Obj):=(bq h.objs.size).filterMap fun a=>if a=L\/(g.get? a).isSome=true then none else (h.get? a).map fun o=>(a,o)
theorem nZ{g h:Heap}{L a:Addr}{o:Obj}(h1:a≠L)(h2:g.get? a=none)(h3:h.get? a=some o):(a,o)∈qc g h L :=
 List.mem_filterMap.mpr ⟨a,List.mem_range.mpr (aQ h3),by simp [h1,h2,h3]⟩
theorem zU{g h:Heap}{L:Addr}{p:Addr×Obj}(hp:p∈qc g h L):p.1≠L/\g.get? p.1=none/\h.get? p.1=some p.2:=by
 obtain⟨b,_,e⟩:=List.mem_filterMap.mp hp
 split at e
 ·cases e
 ·rename_i hn
  cases q:h.get? b with
  | none=>rw [q] at e; simp at e
  | some u =>
   rw [q] at e
   simp only [E1,Option.some.injEq] at e
   subst e
   refine⟨fun z=>hn (.inl z),?_,q⟩
   show g.get? b=none
   cases r:g.get? b with
   | none=>rfl
   | some v=>exact(hn (.inr (by simp [r]))).elim
noncomputable def rest(g h:Heap)(L d:Addr):List (Addr×Obj):=(qc g h L).filter fun p=>decide (p.1≠d)
theorem zV{g h:Heap}{L:Addr}:News g L h (qc g h L):=fun p hp=>let ⟨a,b,c⟩:=zU hp; ⟨c,a,b⟩
structure Mod(K:aj)(mg:Str->Option Value)(base:Heap):Prop where
 V0:K.In base
 glob:base.Ns aY mg
 blt:∃ mb,base.Ns builtinsNs mb/\∀ x:Str,x≠"__name__"->mb x=eR x
 nolimit:base.NoLimit
structure Cx where
 prog:ck
 w:World
 K:aj
 mg:Str->Option Value
 base:Heap
 A:eF
 N:List Str
 ny:aA
 RW:Hp
 env:Env
 outer:List Env
 stack:List Env
 ex:List Addr
 fn:Str->Bool
 calm:Bool
 pn:List (Addr×Obj)
 xe:Value->aA->Prop
noncomputable def OT(l:List Env):List Addr:=l.filterMap (·.frame)
noncomputable abbrev Cx.fs(X:Cx):List Addr:=OT X.outer
noncomputable def Vis(sc:Scope)(x:Str):Prop:=sc.names.lookup x=some .local\/sc.names.lookup x=some .cell\/sc.names.lookup x=some .free
noncomputable def Loc(sc:Scope)(x:Str):Prop:=sc.names.lookup x=some .local\/sc.names.lookup x=some .cell
noncomputable def Look(env:Env)(h:Heap)(m:Str->Option Value)(x:Str)(u:Value):Prop :=
 (env.kindOf x=some .local/\m x=some u)\/((env.kindOf x=some .cell\/env.kindOf x=some .free)/\∃ c,env.cells.lookup x=some c/\h.IsCell c (some u))
structure Cx.Ok(X:Cx):Prop where
 mod:Mod X.K X.mg X.base
 kind:X.env.scope.kind=.function
 glob:X.env.globals=aY
 blt:X.env.builtins=builtinsNs
 above:X.ny.heap.objs.size<=X.env.locals
 inj:∀ x y c,X.env.cells.lookup x=some c->X.env.cells.lookup y=some c->x=y
 has:∀ x,(X.env.kindOf x=some .cell\/X.env.kindOf x=some .free)->∃ c,X.env.cells.lookup x=some c
 Zr:∀ x c,X.fn x=true->X.env.cells.lookup x=some c->X.ny.heap.objs.size<=c
 hd:X.calm=true->X.A.handled=none
 frames:X.A.frames=some X.stack
 ZK:X.stack=X.outer\/(X.stack=X.env :: X.outer/\X.env.frame=some X.env.locals)
 exf:∀ b∈X.ex,b≠X.env.locals/\∀ x c,X.env.cells.lookup x=some c->c≠b
 bs:∀ b o,X.base.get? b=some o->X.ny.heap.get? b=some o/\X.RW b=none
 Ud:X.base.objs.size<=X.ny.heap.objs.size
 Nx:∀ b o,X.base.get? b=some o->b∉X.ex
 Rl:∀ b∈X.ex,b∉X.fs
 AA:X.ny.heap.FunFrames X.base X.outer
 W9:∀ b∈X.fs,X.RW b=none
structure Inv(X:Cx)(pins:List (Addr×Obj))(σ:List (Option V))(H:Hp)(s:aA):Prop where
 ok:X.Ok
 os:s.os=X.ny.os
 bare:Df s.gens
 base:Un X.fs X.ex X.RW H X.ny.heap s.heap
 loc:∃ m,s.heap.Ns X.env.locals m/\∀ (i:Nat) (x:Str) (v:V),X.N[i]?=some x->σ[i]?=some (some v)->Vis X.env.scope x->∃ u,RelV v u/\Look X.env s.heap m x u
 cell:∀ x c,X.env.cells.lookup x=some c->∃ v,s.heap.IsCell c v
 free:H X.env.locals=none
 mT:∀ x c,X.env.cells.lookup x=some c->H c=none
 pin:∀ p∈X.pn++pins,s.heap.get? p.1=some p.2/\H p.1=none/\p.1≠X.env.locals/\p.1∉X.fs/\∀ v,p.2.data≠.cell v
 cT:uz X.prog X.w H s.heap
 len:σ.length=X.N.length
section
variable {X:Cx} {pins:List (Addr×Obj)} {σ:List (Option V)} {H H':Hp} {s:aA} {h':Heap}
theorem Cx.Ok.adg(ok:X.Ok){b:Addr}{o:Obj}(e:X.base.get? b=some o):b∉X.fs:=fun hb=>by
 have:=(ok.AA.mem hb).1
 rw [e] at this; cases this
theorem Inv.bs(I:Inv X pins σ H s):∀ b o,X.base.get? b=some o->s.heap.get? b=some o/\H b=none:=fun b o e =>
 ⟨I.base.keep b o (I.ok.bs b o e).1 (I.ok.bs b o e).2 (I.ok.adg e) (I.ok.Nx b o e),I.base.free b o (I.ok.bs b o e).1 (I.ok.bs b o e).2 (I.ok.Nx b o e)⟩
theorem Inv.bk(I:Inv X pins σ H s):∀ b o,X.base.get? b=some o->s.heap.get? b=some o:=fun b o e=>(I.bs b o e).1
theorem Inv.mod(I:Inv X pins σ H s):Mod X.K X.mg X.base:=I.ok.mod
theorem Inv.L4(I:Inv X pins σ H s):X.K.In s.heap:=I.ok.mod.V0.keeps I.bk
theorem Inv.fr(I:Inv X pins σ H s):∃ m,Fr X.base X.env.locals s.heap m :=
 let ⟨m,hn,_⟩:=I.loc
 ⟨m,hn,I.bk,cG I.ok.Ud I.ok.above⟩
theorem Inv.lt(I:Inv X pins σ H s):X.env.locals < s.heap.objs.size:=let ⟨_,hn,_⟩:=I.loc; hn.lt
theorem Inv.sz(I:Inv X pins σ H s):X.ny.heap.objs.size<=s.heap.objs.size:=cG I.ok.above (E6 I.lt)
theorem Inv.adf(I:Inv X pins σ H s){a:Addr}(h:s.heap.objs.size<=a):a∉X.fs:=fun hb=>by
 obtain⟨_,o,ho,_⟩:=I.ok.AA.mem hb
 exact absurd (cv (aQ ho) (cG I.sz h)) (gi _)
theorem Inv.Wv(I:Inv X pins σ H s):∀ x c,X.env.cells.lookup x=some c->c≠X.env.locals:=fun x c e z=>by
 obtain⟨v,o,ho,hd⟩:=I.cell x c e
 obtain⟨m,⟨o',es,ep,NU,yO,_⟩,_⟩:=I.loc
 rw [z,NU] at ho; cases ho; rw [yO] at hd; cases hd
theorem Inv.AA(I:Inv X pins σ H s):s.heap.FunFrames X.base X.outer:=by
 have all:∀ (l:List Env),(∀ b∈OT l,b∈X.fs)->X.ny.heap.FunFrames X.base l->s.heap.FunFrames X.base l:=by
  intro l
  induction l with
  | nil=>intro _ _; trivial
  | cons env r ih =>
   intro hs hl
   obtain⟨hk,⟨L,o,hf,hn,ho,hd⟩,hr⟩:=hl
   have hL:L∈X.fs:=hs L (by unfold OT; rw [yx,hf]; exact ay)
   obtain⟨sl,e⟩:=I.base.slot L o ho (I.ok.W9 L hL) hL fun z=>I.ok.Rl L z hL
   exact⟨hk,⟨L,_,hf,hn,e,hd⟩,ih (fun b hb=>hs b (by unfold OT; rw [yx,hf]; exact ao _ hb)) hr⟩
 exact all X.outer (fun _ hb=>hb) I.ok.AA
theorem Inv.stack(I:Inv X pins σ H s):s.heap.FunFrames X.base X.stack:=by
 rcases I.ok.ZK with e | ⟨e,hf⟩
 ·rw [e]; exact I.AA
 ·rw [e]
  obtain⟨m,hn,_⟩:=I.loc
  refine .cons (by rw [I.ok.kind]; decide) hf hn ?_ I.AA
  exact SD (cG I.ok.Ud I.ok.above)
theorem Inv.JE(I:Inv X pins σ H s):∀ b∈OT X.stack,b∈X.env.locals :: X.fs:=fun b hb=>by
 rcases I.ok.ZK with e | ⟨e,hf⟩
 ·rw [e] at hb; exact ao _ hb
 ·rw [e] at hb
  unfold OT at hb
  rw [yx,hf] at hb
  exact hb
theorem Inv.Lu(I:Inv X pins σ H s):∀ b∈OT X.stack,H b=none:=fun b hb=>by
 rcases List.mem_cons.mp (I.JE b hb) with e | hb
 ·rw [e]; exact I.free
 ·obtain⟨_,o,ho,_⟩:=I.ok.AA.mem hb
  exact I.base.free b o ho (I.ok.W9 b hb) fun z=>I.ok.Rl b z hb
theorem Inv.step{g':Array GenState}{t':Nat}{d':Drawn}{ch:List Addr}(I:Inv X pins σ H s)
  (UN:∀ b∈ch,(b∈X.ex\/X.ny.heap.objs.size<=b)/\b≠X.env.locals/\(∀ x c,X.env.cells.lookup x=some c->c≠b)/\∀ p∈X.pn++pins,p.1≠b)
  (keep:∀ b o,b≠X.env.locals->b∉X.fs->b∉ch->s.heap.get? b=some o->H b=none->h'.get? b=some o)
  (slot:∀ b o,b≠X.env.locals->b∈X.fs->b∉ch->s.heap.get? b=some o->H b=none->∃ sl,h'.get? b=some { o with slots:=sl }) (free:∀ b o,b∉ch->s.heap.get? b=some o->H b=none->H' b=none)
  (there:∀ b o,b∉ch->s.heap.get? b=some o->∃ o',h'.get? b=some o')
  (wB:∀ b xs,H b=some (.tup xs)->H' b=some (.tup xs)) (vL:∀ b o u,H b=some (.lW o u)->H' b=some (.lW o u)) (wC:∀ b ps,H b=some (.Ut ps)->∃ more,H' b=some (.Ut (ps++more)))
  (ns:∀ m,s.heap.Ns X.env.locals m->h'.Ns X.env.locals m) (cT:uz X.prog X.w H' h') (hg:Df g') :
  Inv X pins σ H' { s with heap:=h',gens:=g',drawn:=d',toks:=t' }:=by
 have neL:∀ b o,X.ny.heap.get? b=some o->b≠X.env.locals:=fun b o e=>bT (cv (aQ e) I.ok.above)
 have ZV:∀ b o,X.ny.heap.get? b=some o->b∉X.ex->b∉ch:=fun b o e hx hb=>by
  rcases (UN b hb).1 with z | z
  ·exact hx z
  ·exact absurd (cv (aQ e) z) (gi _)
 have cellK:∀ x c,X.env.cells.lookup x=some c->∀ v,s.heap.IsCell c v->h'.IsCell c v:=fun x c e v ⟨o,ho,hd⟩=>by
  have X0:c∉ch:=fun z=>(UN c z).2.2.1 x c e rfl
  by_cases hc:c∈X.fs
  ·obtain⟨sl,q⟩:=slot c o (I.Wv x c e) hc X0 ho (I.mT x c e)
   exact⟨_,q,hd⟩
  ·exact⟨o,keep c o (I.Wv x c e) hc X0 ho (I.mT x c e),hd⟩
 refine⟨I.ok,I.os,hg,⟨fun b o e n hb hx=>?_,fun b o e n hb hx=>?_,fun b o e n hx=>?_,fun b o e hx=>?_,fun b xs e=>wB b xs (I.base.wB b xs e),fun b o xs e=>vL b o xs (I.base.vL b o xs e),fun b ps e=>?_⟩,?_,fun x c e=>?_,?_,fun x c e=>?_,fun p hp=>?_,cT,I.len⟩
 ·exact keep b o (neL b o e) hb (ZV b o e hx) (I.base.keep b o e n hb hx) (I.base.free b o e n hx)
 ·obtain⟨sl,e1⟩:=I.base.slot b o e n hb hx
  obtain⟨sl',e2⟩:=slot b _ (neL b o e) hb (ZV b o e hx) e1 (I.base.free b o e n hx)
  exact⟨sl',e2⟩
 ·obtain⟨o',e1⟩:=I.base.there b o e hx
  exact free b o' (ZV b o e hx) e1 (I.base.free b o e n hx)
 ·obtain⟨o',e1⟩:=I.base.there b o e hx
  exact there b o' (ZV b o e hx) e1
 ·obtain⟨m1,e1⟩:=I.base.wC b ps e
  obtain⟨m2,e2⟩:=wC b _ e1
  exact⟨m1++m2,by rw [e2,Array.append_assoc]⟩
 ·obtain⟨m,hn,hl⟩:=I.loc
  refine⟨m,ns m hn,fun i x v e1 e2 e3=>?_⟩
  obtain⟨u,r,l⟩:=hl i x v e1 e2 e3
  refine⟨u,r,?_⟩
  rcases l with l | ⟨k,c,e,z⟩
  ·exact .inl l
  ·exact .inr ⟨k,c,e,cellK x c e _ z⟩
 ·obtain⟨v,z⟩:=I.cell x c e
  exact⟨v,cellK x c e v z⟩
 ·obtain⟨m,⟨o,_,_,ho,_⟩,_⟩:=I.loc
  exact free _ o (fun z=>(UN _ z).2.1 rfl) ho I.free
 ·obtain⟨v,o,ho,hd⟩:=I.cell x c e
  exact free c o (fun z=>(UN c z).2.2.1 x c e rfl) ho (I.mT x c e)
 ·obtain⟨e,n,ne,nf,d⟩:=I.pin p hp
  have X0:p.1∉ch:=fun z=>(UN p.1 z).2.2.2 p hp rfl
  exact⟨keep p.1 p.2 ne nf X0 e n,free p.1 p.2 X0 e n,ne,nf,d⟩
theorem Inv.un{t':Nat}(I:Inv X pins σ H s)(u:Un X.fs [] H H' s.heap h')(cT:uz X.prog X.w H' h'):Inv X pins σ H' { s with heap:=h',toks:=t' }:=by
 obtain⟨m,⟨o,es,ep,ho,r⟩,_⟩:=id I.loc
 obtain⟨sl,hL⟩:=u.any ho I.free (by simp)
 exact I.step (g':=s.gens) (d':=s.drawn) (ch:=[]) (fun _ z=>nomatch z) (fun b o _ hb _ e n=>u.keep b o e n hb (by simp)) (fun b o _ hb _ e n=>u.slot b o e n hb (by simp)) (fun b o _ e n=>u.free b o e n (by simp)) (fun b o _ e=>u.there b o e (by simp)) u.wB u.vL u.wC (fun m' hm=>by
  obtain⟨o',es',YW,NU,r'⟩:=hm
  rw [ho] at NU; cases NU
  exact⟨_,es',YW,hL,r'⟩) cT I.bare
theorem Inv.call{g':Array GenState}{t':Nat}{d':Drawn}{ch:List Addr}(I:Inv X pins σ H s)(u:Un (OT X.stack) ch H H' s.heap h')(cT:uz X.prog X.w H' h')(hg:Df g')
  (UN:∀ b∈ch,(b∈X.ex\/X.ny.heap.objs.size<=b)/\b≠X.env.locals/\(∀ x c,X.env.cells.lookup x=some c->c≠b)/\∀ p∈X.pn++pins,p.1≠b) :
  Inv X pins σ H' { s with heap:=h',gens:=g',drawn:=d',toks:=t' }:=by
 obtain⟨m,⟨o,es,ep,ho,r⟩,_⟩:=id I.loc
 obtain⟨sl,hL⟩:=u.any ho I.free fun z=>(UN _ z).2.1 rfl
 exact I.step (ch:=ch) UN (fun b o hL hb hc e n=>u.keep b o e n (fun z=>(List.mem_cons.mp (I.JE b z)).elim hL hb) hc) (fun b o _ _ hc e n=>u.any e n hc) (fun b o hc e n=>u.free b o e n hc) (fun b o hc e=>u.there b o e hc) u.wB u.vL u.wC (fun m' hm=>by
  obtain⟨o',es',YW,NU,r'⟩:=hm
  rw [ho] at NU; cases NU
  exact⟨_,es',YW,hL,r'⟩) cT hg
theorem Inv.turned{t':Nat}{it:Addr}(I:Inv X pins σ H s)(k:∀ b o,b≠it->s.heap.get? b=some o->h'.get? b=some o)(hn:H it=none)(hL:it≠X.env.locals)
  (h1:it∈X.ex\/X.ny.heap.objs.size<=it) (h2:∀ x c,X.env.cells.lookup x=some c->c≠it) (h3:∀ p∈X.pn++pins,p.1≠it):Inv X pins σ H { s with heap:=h',toks:=t' }:=by
 have nit:∀ b u,H b=some u->b≠it:=fun b u e z=>by rw [z,hn] at e; cases e
 refine I.step (g':=s.gens) (d':=s.drawn) (ch:=[it]) (fun b hb=>?_) (fun b o _ _ hc e _=>k b o (fun z=>hc (by simp [z])) e) (fun b o _ _ hc e _=>⟨o.slots,k b o (fun z=>hc (by simp [z])) e⟩) (fun _ _ _ _ n=>n)
  (fun b o hc e=>⟨o,k b o (fun z=>hc (by simp [z])) e⟩) (fun _ _ e=>e) (fun _ _ _ e=>e) (fun b ps e=>⟨#[],by rw [e]; simp⟩) (fun m hm=>?_) (fun b u e=>?_) I.bare
 ·have e:b=it:=by simpa using hb
  subst e
  exact⟨h1,hL,h2,h3⟩
 ·obtain⟨o,es,ep,ho,r⟩:=hm
  exact⟨o,es,ep,k _ o (eC hL) ho,r⟩
 ·refine(I.cT b u e).nA (fun c v hc q=>k c v ?_ q) (fun _ q=>q) fun _ _ q=>q
  rcases hc with z | z
  ·rw [z]; exact nit b u e
  ·exact nit c _ z
theorem Inv.tok(I:Inv X pins σ H s)(t:Nat):Inv X pins σ H { s with toks:=t }:=I.un (h':=s.heap) (t':=t) Un.refl I.cT
theorem Inv.kept{t':Nat}(I:Inv X pins σ H s)(k:∀ b u,s.heap.get? b=some u->h'.get? b=some u):Inv X pins σ H { s with heap:=h',toks:=t' }:=I.un (Un.kept k) (I.cT.kept k)
theorem Inv.laid{a:Addr}{o:HO}{t':Nat}(I:Inv X pins σ H s)(k:∀ b u,s.heap.get? b=some u->h'.get? b=some u)(hp:s.heap.objs.size<=a)(new:hX X.prog X.w (upd H a o) h' a o) :
  Inv X pins σ (upd H a o) { s with heap:=h',toks:=t' }:=I.un (Un.laid k hp (I.cT.fresh hp)) (I.cT.laid k hp new)
theorem Inv.write{x e:Addr}{o:HO}{t':Nat}(I:Inv X pins σ H s)(mu:ZD (H x))(he:e=x\/H e=some (.own x))(k:∀ b u,b≠e->s.heap.get? b=some u->h'.get? b=some u)(OS:∃ u,h'.get? e=some u)
  (new:hX X.prog X.w (upd H x o) h' x o):Inv X pins σ (upd H x o) { s with heap:=h',toks:=t' }:=I.un (Un.write mu he k OS) (I.cT.write mu he k OS new)
theorem Inv.LP{Uz:List (Addr×Obj)}(I:Inv X pins σ H s)(h:∀ p∈Uz,s.heap.get? p.1=some p.2/\H p.1=none/\p.1≠X.env.locals/\p.1∉X.fs/\∀ v,p.2.data≠.cell v):Inv X Uz σ H s :=
 ⟨I.ok,I.os,I.bare,I.base,I.loc,I.cell,I.free,I.mT,fun p hp=>(List.mem_append.mp hp).elim (fun z=>I.pin p (d6 _ z)) (h p),I.cT,I.len⟩
theorem Gs{N:List Str}(hN:N.Nodup){i j:Nat}{x:Str}(a:N[i]?=some x)(b:N[j]?=some x):i=j:=by
 obtain⟨h1,e1⟩:=List.getElem?_eq_some_iff.mp a
 obtain⟨h2,e2⟩:=List.getElem?_eq_some_iff.mp b
 exact(List.getElem_inj hN).mp (e1.trans e2.symm)
theorem B7{M:Model}{A:eF}{E:Value->aA->Prop}{i:Nat}{x:Str}{v:V}{u:Value}{Q:Unit->aA->Prop}(I:Inv X pins σ H s)(hN:X.N.Nodup)(hi:X.N[i]?=some x)(hx:Loc X.env.scope x)(r:RelV v u)
  (h:∀ s',Inv X pins (σ.set i (some v)) H s'->(∃ a,gM a s.heap s'.heap/\(a=X.env.locals\/X.env.cells.lookup x=some a))->Q () s') (hf:autoParam (X.fn x=true\/X.env.scope.names.lookup x=some .local) Ao._auto_1):wpAny M A (storeName X.env x u) Q E s:=by
 obtain⟨m,hn,hl⟩:=id I.loc
 have aeZ:(X.env.scope.kind == .class||(X.env.scope.kind == .module&&X.env.locals != X.env.globals))=false:=by rw [I.ok.kind]; rfl
 have Yv:i < σ.length:=by rw [I.len]; exact(List.getElem?_eq_some_iff.mp hi).1
 have Wv:=I.Wv
 have tracked:∀ {a:Addr} {h':Heap},(∃ o,s.heap.get? a=some o/\H a=none)->gM a s.heap h'->uz X.prog X.w H h':=fun {a h'} ha hs b ob e=>by
  obtain⟨_,_,qm⟩:=ha
  refine(I.cT b ob e).nA (fun c w' hc q=>(hs.2 c ?_).trans q) (fun _ q=>q) fun _ _ q=>q
  rintro rfl
  rcases hc with rfl | hc
  ·rw [qm] at e; cases e
  ·rw [qm] at hc; cases hc
 rcases hx with hk | hk
 ·refine wpAny_storeName_local hk hn (fun h' Hm hs=>?_) aeZ
  obtain⟨oL,_,_,hoL,_⟩:=id hn
  refine h _ ⟨I.ok,I.os,I.bare,⟨fun b o e n hb hx=>?_,fun b o e n hb hx=>?_,I.base.free,fun b o e hx=>?_,I.base.wB,I.base.vL,I.base.wC⟩,⟨_,Hm,fun j y v' e1 e2 e3=>?_⟩,fun y c e=>?_,I.free,I.mT,fun p hp=>?_,tracked ⟨oL,hoL,I.free⟩ hs,by simpa using I.len⟩ ⟨_,hs,.inl rfl⟩
  ·exact(hs.2 b (bT (cv (aQ e) I.ok.above))).trans (I.base.keep b o e n hb hx)
  ·obtain⟨sl,e1⟩:=I.base.slot b o e n hb hx
   exact⟨sl,(hs.2 b (bT (cv (aQ e) I.ok.above))).trans e1⟩
  ·obtain⟨o',e1⟩:=I.base.there b o e hx
   exact⟨o',(hs.2 b (bT (cv (aQ e) I.ok.above))).trans e1⟩
  ·by_cases hj:j=i
   ·subst hj
    rw [hi] at e1; cases e1
    rw [fh Yv] at e2
    cases e2
    exact⟨u,r,.inl ⟨hk,by simp⟩⟩
   ·rw [eX (eC hj)] at e2
    obtain⟨u',r',q⟩:=hl j y v' e1 e2 e3
    refine⟨u',r',?_⟩
    rcases q with ⟨k,e⟩ | ⟨k,c,e,z⟩
    ·refine .inl ⟨k,?_⟩
     have:y≠x:=fun e=>hj (Gs hN e1 (e ▸ hi))
     simp [this,e]
    ·exact .inr ⟨k,c,e,z.sameBut hs (Wv y c e)⟩
  ·obtain⟨w',z⟩:=I.cell y c e
   exact⟨w',z.sameBut hs (Wv y c e)⟩
  ·obtain⟨e,n,ne,nf,d⟩:=I.pin p hp
   exact⟨(hs.2 p.1 ne).trans e,n,ne,nf,d⟩
 ·have hfn:X.fn x=true:=by
   rcases hf with z | z
   ·exact z
   ·rw [z] at hk; cases hk
  obtain⟨c,hc⟩:=I.ok.has x (.inl hk)
  obtain⟨w',z⟩:=I.cell x c hc
  refine wpAny_storeName_cell I.ok.kind hk hc z (fun h' UO hs=>?_)
  obtain⟨oc,W5,aeD⟩:=id z
  refine h { s with heap:=h' } ⟨I.ok,I.os,I.bare,⟨fun b o e n hb hx=>?_,fun b o e n hb hx=>?_,I.base.free,fun b o e hx=>?_,I.base.wB,I.base.vL,I.base.wC⟩,⟨m,hn.sameBut hs (eC (Wv x c hc)),fun j y v' e1 e2 e3=>?_⟩,fun y c' e=>?_,I.free,I.mT,fun p hp=>?_,tracked ⟨oc,W5,I.mT x c hc⟩ hs,by simpa using I.len⟩ ⟨c,hs,.inr hc⟩
  ·exact(hs.2 b (bT (cv (aQ e) (I.ok.Zr x c hfn hc)))).trans (I.base.keep b o e n hb hx)
  ·obtain⟨sl,e1⟩:=I.base.slot b o e n hb hx
   exact⟨sl,(hs.2 b (bT (cv (aQ e) (I.ok.Zr x c hfn hc)))).trans e1⟩
  ·obtain⟨o',e1⟩:=I.base.there b o e hx
   exact⟨o',(hs.2 b (bT (cv (aQ e) (I.ok.Zr x c hfn hc)))).trans e1⟩
  ·by_cases hj:j=i
   ·subst hj
    rw [hi] at e1; cases e1
    rw [fh Yv] at e2
    cases e2
    exact⟨u,r,.inr ⟨.inl hk,c,hc,UO⟩⟩
   ·rw [eX (eC hj)] at e2
    obtain⟨u',r',q⟩:=hl j y v' e1 e2 e3
    refine⟨u',r',?_⟩
    rcases q with q | ⟨k,c',e,z'⟩
    ·exact .inl q
    ·refine .inr ⟨k,c',e,z'.sameBut hs ?_⟩
     rintro rfl
     exact hj (Gs hN e1 (I.ok.inj _ _ _ e hc ▸ hi))
  ·by_cases hcc:c'=c
   ·subst hcc; exact⟨_,UO⟩
   ·obtain⟨w2,z2⟩:=I.cell y c' e
    exact⟨w2,z2.sameBut hs hcc⟩
  ·obtain⟨e,n,ne,nf,d⟩:=I.pin p hp
   refine⟨(hs.2 p.1 ?_).trans e,n,ne,nf,d⟩
   intro q
   rw [q,W5] at e
   have q':oc=p.2:=bR e
   exact d w' (by rw [← q']; exact aeD)
theorem uM{M:Model}{A:eF}{E:Value->aA->Prop}{i:Nat}{x:Str}{v:V}{u:Value}{Q:Unit->aA->Prop}(I:Inv X pins σ H s)(hN:X.N.Nodup)(hi:X.N[i]?=some x)(hx:Loc X.env.scope x)(r:RelV v u)
  (h:∀ s',Inv X pins (σ.set i (some v)) H s'->Q () s') (hf:autoParam (X.fn x=true\/X.env.scope.names.lookup x=some .local) Ao._auto_1):wpAny M A (storeName X.env x u) Q E s :=
 B7 I hN hi hx r (fun s' I' _=>h s' I') hf
end
noncomputable abbrev XK:=Value->Option Addr->Hp->Prop
noncomputable abbrev St:=List (Option V)
noncomputable abbrev VK:=V->Hp->Prop
noncomputable abbrev TE:=St->Hp->VK->Prop
noncomputable abbrev TT:=St->Hp->(Bool->Hp->Prop)->Prop
noncomputable abbrev TA:=St->Hp->(List V->Hp->Prop)->Prop
structure Ends where
 nx:St->Hp->Prop
 rt:VK
 bk:St->Hp->Prop:=fun _ _=>False
 ct:St->Hp->Prop:=fun _ _=>False
noncomputable abbrev TS:=Ends->St->Hp->Prop
noncomputable def EP(X:Cx)(pins:List (Addr×Obj))(σ:St)(Q:VK)(u:Value)(s':aA):Prop:=∃ v H',Inv X pins σ H' s'/\RelV v u/\Q v H'
noncomputable def TP(X:Cx)(pins:List (Addr×Obj))(σ:St)(Q:Bool->Hp->Prop)(b:Bool)(s':aA):Prop:=∃ H',Inv X pins σ H' s'/\Q b H'
noncomputable def SP(X:Cx)(pins:List (Addr×Obj))(D:Ends)(f:Flow)(s':aA):Prop :=
 match f with
 | .next=>∃ jx H',Inv X pins jx H' s'/\D.nx jx H'
 | .brk=>∃ jx H',Inv X pins jx H' s'/\D.bk jx H'
 | .cont=>∃ jx H',Inv X pins jx H' s'/\D.ct jx H'
 | .ret u=>∃ v jx H',Inv X pins jx H' s'/\RelV v u/\D.rt v H'
noncomputable def PE(X:Cx)(e:Expr)(t:TE):Prop :=
 ∀ (pins:List (Addr×Obj)) (s:aA) (σ:St) (H:Hp) (Q:VK),Inv X pins σ H s->t σ H Q->wpAny (model X.prog X.w) X.A (eval e X.env) (EP X pins σ Q) X.xe s
noncomputable def Xf(X:Cx)(st:List Stmt)(t:TS):Prop :=
 ∀ (pins:List (Addr×Obj)) (s:aA) (σ:St) (H:Hp) (D:Ends),Inv X pins σ H s->t D σ H->wpAny (model X.prog X.w) X.A (execs st X.env) (SP X pins D) X.xe s
theorem gN{α:Type}{t:Sem α}{Q Q':α->aA->Prop}{M:Model}{A:eF}{E:Value->aA->Prop}{s:aA}(h:wpAny M A t Q E s)(hQ:∀ a s,Q a s->Q' a s):wpAny M A t Q' E s:=oj h hQ fun _ _ x=>x
section
variable {X:Cx}
noncomputable def aaP(i:Nat):TE:=fun σ H Q=>∃ v,σ[i]?=some (some v)/\Q v H
noncomputable def tC(v:V):TE:=fun _ H Q=>Q v H
theorem Vy {i:Nat} {x:Str} {pos:Pos} (hN:X.N[i]?=some x) (hv:Vis X.env.scope x) (hd:autoParam ((x == ("__debug__" : Str))=false) Ad._auto_1) (Kt:autoParam ((x == ("__classdict__" : Str))=false) Ad._auto_1):PE X (.Name x pos) (aaP i):=by
 intro pins s σ H Q I h
 obtain⟨v,e,h⟩:=h
 obtain⟨m,hn,hl⟩:=I.loc
 obtain⟨u,r,l⟩:=hl i x v hN e hv
 have fin:EP X pins σ Q u s:=⟨v,H,I,r,h⟩
 rcases l with ⟨hk,hm⟩ | ⟨hk,c,hc,qo⟩
 ·exact wpAny_Name (wpAny_loadName_local I.ok.kind hk hn hm fin) hd
 ·rcases hk with hk | hk
  ·exact wpAny_Name (wpAny_loadName_cell I.ok.kind hk hc qo fin) hd
  ·exact wpAny_Name (wpAny_loadName_free I.ok.kind hk hc qo fin Kt) hd
theorem VA{i j pos}:PE X (.Constant (.int i) j pos) (tC (.int i)):=fun _ _ _ H _ I h=>wpAny_Constant_int ⟨.int i,H,I.tok _,⟨_,rfl⟩,h⟩
theorem XF{b j pos}:PE X (.Constant (.bool b) j pos) (tC (.bl b)):=fun _ _ _ H _ I h=>Constant_bool ⟨.bl b,H,I,rfl,h⟩
theorem Vz{j pos}:PE X (.Constant .none j pos) (tC .du):=fun _ _ _ H _ I h=>Constant_none ⟨.du,H,I,rfl,h⟩
noncomputable def Gl(X:Cx)(x:Str):Prop:=X.env.kindOf x=some .globalImplicit
theorem LX{E:Value->aA->Prop}{pins:List (Addr×Obj)}{s:aA}{σ:St}{H:Hp}{x:Str}{u:Value}{pos:Pos}{Q:Value->aA->Prop}(I:Inv X pins σ H s)(hg:Gl X x)(hm:X.mg x=some u)(h:Q u s)
  (hd:autoParam ((x == ("__debug__" : Str))=false) Ad._auto_1):wpAny (model X.prog X.w) X.A (eval (.Name x pos) X.env) Q E s :=
 IX I.ok.kind hg (Calls.loadGlobal_global (by rw [I.ok.glob]; exact I.mod.glob.keeps I.bk) hm h) hd
theorem om{E:Value->aA->Prop}{pins:List (Addr×Obj)}{s:aA}{σ:St}{H:Hp}{x:Str}{u:Value}{pos:Pos}{Q:Value->aA->Prop}(I:Inv X pins σ H s)(hg:Gl X x)(hm:X.mg x=none)(hv:eR x=some u)(h:Q u s)
  (hn:autoParam (x≠"__name__") Ad._auto_1) (hd:autoParam ((x == ("__debug__" : Str))=false) Ad._auto_1):wpAny (model X.prog X.w) X.A (eval (.Name x pos) X.env) Q E s:=by
 obtain⟨mb,h1,h2⟩:=I.mod.blt
 exact IX I.ok.kind hg (Calls.loadGlobal_builtin (by rw [I.ok.glob]; exact I.mod.glob.keeps I.bk) hm (by rw [I.ok.blt]; exact h1.keeps I.bk) ((h2 x hn).trans hv) h) hd
variable {a b:Expr} {ta tb:TE} {pos:Pos}
noncomputable def tB(t:TE):TT:=fun σ H Q=>t σ H fun x H1=>∃ c,x=.bl c/\Q c H1
variable {tA tB':TT} {rest:List Expr}
end
noncomputable def qt(K:aj)(H:Hp)(a:Addr)(xs:List V):Prop :=
 Rd H a (.lst xs) \/
  ∃ (o:Obj) (bM:Array Value) (n:Nat),K.lookup a=some o/\o.cls=.type "list"/\o.dict=none/\o.data=.seq bM n/\bM.size<=bG/\Vals xs bM.toList
noncomputable def A7(K:aj)(H:Hp)(a:Addr)(xs:List V):Prop :=
 Rd H a (.tup xs) \/
  ∃ (o:Obj) (bM:Array Value) (n:Nat),K.lookup a=some o/\o.cls=.type "tuple"/\o.data=.seq bM n/\bM.size<=bG/\Vals xs bM.toList
noncomputable def ag5:Value->Option V
 | .none=>some .du
 | .bool b=>some (.bl b)
 | .int i _=>some (.int i)
 | .str x _=>some (.str x)
 | .bytes b _=>some (.WB b)
 | .float b _=>some (.YT b)
 | .ref a=>some (.ref a)
 | .type n=>some (.ty n)
 | _=>none
theorem RelV.abs{x:V}{u:Value}(r:RelV x u):ag5 u=some x:=by
 cases x with
 | du=>cases r; rfl
 | bl _=>cases r; rfl
 | int _=>obtain⟨t,rfl⟩:=r; rfl
 | str _=>obtain⟨t,rfl⟩:=r; rfl
 | WB _=>obtain⟨t,rfl⟩:=r; rfl
 | YT _=>obtain⟨t,rfl⟩:=r; rfl
 | ref _=>cases r; rfl
 | ty _=>cases r; rfl
theorem RelV.inj{x y:V}{u:Value}(r:RelV x u)(q:RelV y u):x=y:=bR (r.abs.symm.trans q.abs)
theorem Vals.inj:∀ {xs ys:List V} {us:List Value},Vals xs us->Vals ys us->xs=ys:=by
 intro xs ys us h
 induction h generalizing ys with
 | nil=>intro k; cases k; rfl
 | cons r t ih =>
  intro k
  cases k with
  | cons r' t'=>rw [r.inj r',ih t']
section
variable {X:Cx} {pins:List (Addr×Obj)} {σ:St} {H:Hp} {s:aA} {a:Addr} {xs ys:List V}
theorem qt.of{K:aj}(h:H a=some (.lst xs)):qt K H a xs:=.inl (.inl h)
theorem A7.of{K:aj}(h:H a=some (.tup xs)):A7 K H a xs:=.inl (.inl h)
theorem Inv.list(I:Inv X pins σ H s)(h:qt X.K H a xs):∃ bM:List Value,Vals xs bM/\PlainL s.heap a bM.toArray/\xs.length<=bG:=by
 rcases h with h | ⟨o,bM,n,hk,hc,hd,hs,hz,r⟩
 ·obtain⟨z,bM,n,r,e⟩:=h.ok I.cT
  exact⟨bM,r,⟨_,n,e,rfl,rfl,rfl⟩,z⟩
 ·refine⟨bM.toList,r,⟨o,n,I.L4 a o hk,hc,hd,by simpa using hs⟩,?_⟩
  have e:=r.length
  simp only [bJ] at e
  lia
theorem Inv.tuple(I:Inv X pins σ H s)(h:A7 X.K H a xs):∃ bM:List Value,Vals xs bM/\IsTup s.heap a bM.toArray/\xs.length<=bG:=by
 rcases h with h | ⟨o,bM,n,hk,hc,hs,hz,r⟩
 ·obtain⟨z,bM,r,p⟩:=h.ok I.cT
  exact⟨bM,r,p,z⟩
 ·refine⟨bM.toList,r,⟨o,I.L4 a o hk,hc,n,by simpa using hs⟩,?_⟩
  have e:=r.length
  simp only [bJ] at e
  lia
theorem Inv.vw(I:Inv X pins σ H s)(h:qt X.K H a xs)(h':qt X.K H a ys):xs=ys:=by
 obtain⟨bM,r,⟨o,n,e,_,_,d⟩,_⟩:=I.list h
 obtain⟨its',r',⟨o',n',e',_,_,d'⟩,_⟩:=I.list h'
 rw [e] at e'; cases e'
 rw [d] at d'
 injection d' with d1 _
 have:bM=its':=by simpa using congrArg Array.toList d1
 subst this
 exact r.inj r'
theorem Inv.MW(I:Inv X pins σ H s)(h:A7 X.K H a xs)(h':A7 X.K H a ys):xs=ys:=by
 obtain⟨bM,r,⟨o,e,_,n,d⟩,_⟩:=I.tuple h
 obtain⟨its',r',⟨o',e',_,n',d'⟩,_⟩:=I.tuple h'
 rw [e] at e'; cases e'
 rw [d] at d'
 injection d' with d1 _
 have:bM=its':=by simpa using congrArg Array.toList d1
 subst this
 exact r.inj r'
end
noncomputable abbrev Cx.Bt(X:Cx)(E:Value->aA->Prop):Cx:={ X with xe:=E }
noncomputable abbrev Cx.WW(X:Cx):Cx:=X.Bt fun _ _=>False
theorem Cx.Ok.Bt{X:Cx}(ok:X.Ok)(E:Value->aA->Prop):(X.Bt E).Ok :=
 ⟨ok.mod,ok.kind,ok.glob,ok.blt,ok.above,ok.inj,ok.has,ok.Zr,ok.hd,ok.frames,ok.ZK,ok.exf,ok.bs,ok.Ud,ok.Nx,ok.Rl,ok.AA,ok.W9⟩
theorem Cx.Ok.qN{X:Cx}{E:Value->aA->Prop}(ok:(X.Bt E).Ok):X.Ok :=
 ⟨ok.mod,ok.kind,ok.glob,ok.blt,ok.above,ok.inj,ok.has,ok.Zr,ok.hd,ok.frames,ok.ZK,ok.exf,ok.bs,ok.Ud,ok.Nx,ok.Rl,ok.AA,ok.W9⟩
section
variable {X:Cx} {pins:List (Addr×Obj)} {σ:St} {H:Hp} {s:aA} {E:Value->aA->Prop}
theorem Inv.Bt(I:Inv X pins σ H s)(E:Value->aA->Prop):Inv (X.Bt E) pins σ H s:=⟨I.ok.Bt E,I.os,I.bare,I.base,I.loc,I.cell,I.free,I.mT,I.pin,I.cT,I.len⟩
theorem Inv.qN(I:Inv (X.Bt E) pins σ H s):Inv X pins σ H s:=⟨I.ok.qN,I.os,I.bare,I.base,I.loc,I.cell,I.free,I.mT,I.pin,I.cT,I.len⟩
theorem SP.qN{D:Ends}{f:Flow}{s':aA}(h:SP (X.Bt E) pins D f s'):SP X pins D f s':=by
 cases f with
 | next=>obtain⟨jx,H',I,q⟩:=h; exact⟨jx,H',I.qN,q⟩
 | brk=>obtain⟨jx,H',I,q⟩:=h; exact⟨jx,H',I.qN,q⟩
 | cont=>obtain⟨jx,H',I,q⟩:=h; exact⟨jx,H',I.qN,q⟩
 | ret u=>obtain⟨v,jx,H',I,r,q⟩:=h; exact⟨v,jx,H',I.qN,r,q⟩
theorem Xf.WW{st:List Stmt}{t:TS}(h:Xf X.WW st t):Xf X st t:=fun pins s σ H D I hw =>
 oj (h pins s σ H D (I.Bt _) hw) (fun _ _ q=>q.qN) fun _ _ z=>cw z
end
section
variable {X:Cx} {st:Stmt} {rest:List Stmt} {t u:TS} {e:Expr} {te:TE} {pos:Pos}
theorem Inv.quiet{pins:List (Addr×Obj)}{σ:St}{H:Hp}{s:aA}(I:Inv X pins σ H s):interactive X.env=false:=by simp [interactive,I.ok.kind]
end
noncomputable abbrev ahr:=V->V->V->Hp->(Hp->Prop)->Prop
noncomputable def aht(X:Cx)(t:ahr):Prop :=
 ∀ (pins:List (Addr×Obj)) (s:aA) (σ:St) (H:Hp) (o i v:V) (ov iv u:Value) (Q:Hp->Prop),Inv X pins σ H s->RelV o ov->RelV i iv->RelV v u->t o i v H Q ->
  wpAny (model X.prog X.w) X.A (setItem ov iv u) (fun _ s'=>∃ H',Inv X pins σ H' s'/\Q H') X.xe s
structure It where
 go:Nat->Hp->Prop
 yld:Nat->Hp->V->Hp->Prop
 stop:Nat->Hp->Prop
noncomputable def nI(X:Cx)(pins:List (Addr×Obj))(H:Hp)(b:Addr):Prop :=
 H b=none/\b≠X.env.locals/\b∉X.fs/\(b∈X.ex\/X.ny.heap.objs.size<=b)/\(∀ x c,X.env.cells.lookup x=some c->c≠b)/\∀ p∈X.pn++pins,p.1≠b
theorem Inv.Hx{X:Cx}{pins:List (Addr×Obj)}{σ:St}{H H':Hp}{s:aA}{b:Addr}(I:Inv X pins σ H s)(hb:s.heap.objs.size<=b)(hn:H' b=none):nI X pins H' b:=by
 refine⟨hn,Nat.ne_of_gt (cv I.lt hb),I.adf hb,.inr (cG I.sz hb),fun x c e z=>?_,fun p hp z=>?_⟩
 ·obtain⟨v,q⟩:=I.cell x c e
  exact absurd (cv q.lt (by rw [z]; exact hb)) (gi _)
 ·exact absurd (cv (aQ (I.pin p hp).1) (by rw [z]; exact hb)) (gi _)
structure Turn(P:ck)(w:World)(K:aj)(tg:Expr)(J:It)(fp:List Addr)(it:Addr)(tn:Nat->Heap->Prop):Prop where
 mem:it∈fp
 obj:∀ i h,tn i h->∀ b∈fp,∃ o,h.get? b=some o/\∀ v,o.data≠.cell v
 keep:∀ i h h',tn i h->(∀ b∈fp,∀ o,h.get? b=some o->h'.get? b=some o)->tn i h'
 item:∀ (X:Cx),X.prog=P->X.w=w->X.K=K->X.calm=true->∀ (i:Nat) (pins:List (Addr×Obj)) (s:aA) (σ:St) (H:Hp) (E:Value->aA->Prop),Inv X pins σ H s->(∀ b∈fp,nI X pins H b)->tn i s.heap->J.go i H ->
  wpAny (model P w) X.A (qC (.ref it)) (fun r s1=>∃ u,r=some u /\
   wpAny (model P w) X.A (yX tg (.ref it) u) (fun _ s2=>∃ x H',Inv X pins σ H' s2/\RelV x u/\J.yld i H x H'/\tn (i+1) s2.heap/\∀ b∈fp,H' b=none) E s1) E s
 done:∀ (X:Cx),X.prog=P->X.w=w->X.K=K->X.calm=true->∀ (i:Nat) (pins:List (Addr×Obj)) (s:aA) (σ:St) (H:Hp) (E:Value->aA->Prop),Inv X pins σ H s->(∀ b∈fp,nI X pins H b)->tn i s.heap->J.stop i H ->
  wpAny (model P w) X.A (qC (.ref it)) (fun r s1=>r=none/\Inv X pins σ H s1) E s
 self:∀ (A:eF) (i:Nat) (s:aA) (Q:Value->aA->Prop) (E:Value->aA->Prop),tn i s.heap->Q (.ref it) s->wpAny (model P w) A (BX (.ref it)) Q E s
noncomputable abbrev TI:=St->Hp->(It->Hp->Prop)->Prop
noncomputable def PIE(X:Cx)(pins:List (Addr×Obj))(σ:St)(tg:Expr)(R:It->Hp->Prop)(TB:Value)(s2:aA):Prop :=
 ∃ (it:Addr) (fp:List Addr) (tn:Nat->Heap->Prop) (J:It) (H':Hp),TB=.ref it/\Inv X pins σ H' s2/\Turn X.prog X.w X.K tg J fp it tn/\tn 0 s2.heap/\(∀ b∈fp,nI X pins H' b)/\R J H'
theorem Mi{M:Model}{A:eF}{E:Value->aA->Prop}{s:aA}{tg:Expr}{it:Addr}{u:Value}{o:Obj}{n:String}{vs:Array Value}{Q:Unit->aA->Prop}(ho:s.heap.get? it=some o)(hc:o.cls=.type n)(hd:o.data=.fields vs)
    (hn:["enumerate","zip","dict_itemiterator","dict_reverseitemiterator","odict_iterator","itertools.zip_longest","itertools.pairwise"].contains n=false) (hQ:Q () s):wpAny M A (yX tg (.ref it) u) Q E s:=by
  unfold yX
  cases tg <;> first
    | exact av hQ
    | (cases u <;> first
        | exact av hQ
        | (refine af (wpAny_load ho ?_)
           rw [hc,hd]
           show wpAny M A (if (["enumerate","zip","dict_itemiterator","dict_reverseitemiterator","odict_iterator","itertools.zip_longest","itertools.pairwise"].contains n&&vs[0]? == some (qg _))=true then _ else _) Q E s
           rw [if_neg (by intro h; rw [hn,yd] at h; cases h)]
           exact av hQ))
noncomputable def Itl(K:aj)(a:Addr):It :=
 ⟨fun i H=>∃ xs x,qt K H a xs/\xs[i]?=some x,fun i H x H'=>H'=H/\∀ xs,qt K H a xs->xs[i]?=some x,fun i H=>∃ xs,qt K H a xs/\xs.length<=i⟩
noncomputable def Itt(K:aj)(a:Addr):It :=
 ⟨fun i H=>∃ xs x,A7 K H a xs/\xs[i]?=some x,fun i H x H'=>H'=H/\∀ xs,A7 K H a xs->xs[i]?=some x,fun i H=>∃ xs,A7 K H a xs/\xs.length<=i⟩
noncomputable def Itr(lo:Int)(n:Nat):It:=⟨fun i _=>i < n,fun i H x H'=>H'=H/\x=.int (lo+i),fun i _=>n<=i⟩
theorem MT{P:ck}{w:World}{K:aj}{tg:Expr}(a it:Addr):Turn P w K tg (Itl K a) [it] it (fun i h=>h.IsListIter it a i) where
 mem:=by simp
 obj:=fun i h st b hb=>by
  have e:b=it:=by simpa using hb
  subst e
  obtain⟨o,e,c,d⟩:=st
  exact⟨o,e,fun v z=>by rw [d] at z; cases z⟩
 keep:=fun i h h' st k=>st.at fun o e=>k it (by simp) o e
 item:=by
  intro X hP hw hK hc i pins s σ H E I hf st hg
  subst hP hw hK
  obtain⟨xs,x,hq,hx⟩:=hg
  obtain⟨bM,rv,p,hz⟩:=I.list hq
  obtain⟨u,hu,ru⟩:=rv.get hx
  obtain⟨f0,f1,f2,f3,f4,f5⟩:=hf it (by simp)
  refine wpAny_pyNext_list_item st p.isList (x:=u) (by simpa using hu) fun h' B8 sb=>?_
  have I1:Inv X pins σ H { s with heap:=h' }:=I.turned (t':=s.toks) (fun b o hb e=>(sb.2 b hb).trans e) f0 f1 f3 f4 f5
  obtain⟨o,e,c,d⟩:=id B8
  exact⟨u,rfl,Mi (s:={ s with heap:=h' }) e c d (by decide) ⟨x,H,I1,ru,⟨rfl,fun ys hy=>by rw [I.vw hy hq]; exact hx⟩,B8,fun b hb=>(hf b hb).1⟩⟩
 done:=by
  intro X hP hw hK hc i pins s σ H E I hf st hg
  subst hP hw hK
  obtain⟨xs,hq,hx⟩:=hg
  obtain⟨bM,rv,p,hz⟩:=I.list hq
  obtain⟨f0,f1,f2,f3,f4,f5⟩:=hf it (by simp)
  have hl:=rv.length
  exact wpAny_pyNext_list_end (I.ok.hd hc) st p.isList (by simp; lia) fun h' eb=>⟨rfl,I.turned (t':=s.toks) (fun b o hb e=>eb b o hb e) f0 f1 f3 f4 f5⟩
 self:=fun _ _ _ _ _ st h=>wpAny_pyIter_listiter st h
theorem Jx{P:ck}{w:World}{K:aj}{tg:Expr}(a it:Addr):Turn P w K tg (Itt K a) [it] it (fun i h=>h.IsTupleIter it a i) where
 mem:=by simp
 obj:=fun i h st b hb=>by
  have e:b=it:=by simpa using hb
  subst e
  obtain⟨o,e,c,d⟩:=st
  exact⟨o,e,fun v z=>by rw [d] at z; cases z⟩
 keep:=fun i h h' st k=>st.at fun o e=>k it (by simp) o e
 item:=by
  intro X hP hw hK hc i pins s σ H E I hf st hg
  subst hP hw hK
  obtain⟨xs,x,hq,hx⟩:=hg
  obtain⟨bM,rv,p,hz⟩:=I.tuple hq
  obtain⟨u,hu,ru⟩:=rv.get hx
  obtain⟨f0,f1,f2,f3,f4,f5⟩:=hf it (by simp)
  refine wpAny_pyNext_tuple_item st (show s.heap.IsTuple a bM.toArray from p) (x:=u) (by simpa using hu) fun h' B8 sb=>?_
  have I1:Inv X pins σ H { s with heap:=h' }:=I.turned (t':=s.toks) (fun b o hb e=>(sb.2 b hb).trans e) f0 f1 f3 f4 f5
  obtain⟨o,e,c,d⟩:=id B8
  exact⟨u,rfl,Mi (s:={ s with heap:=h' }) e c d (by decide) ⟨x,H,I1,ru,⟨rfl,fun ys hy=>by rw [I.MW hy hq]; exact hx⟩,B8,fun b hb=>(hf b hb).1⟩⟩
 done:=by
  intro X hP hw hK hc i pins s σ H E I hf st hg
  subst hP hw hK
  obtain⟨xs,hq,hx⟩:=hg
  obtain⟨bM,rv,p,hz⟩:=I.tuple hq
  obtain⟨f0,f1,f2,f3,f4,f5⟩:=hf it (by simp)
  have hl:=rv.length
  exact wpAny_pyNext_tuple_end (I.ok.hd hc) st (show s.heap.IsTuple a bM.toArray from p) (by simp; lia) fun h' eb=>⟨rfl,I.turned (t':=s.toks) (fun b o hb e=>eb b o hb e) f0 f1 f3 f4 f5⟩
 self:=fun _ _ _ _ _ st h=>wpAny_pyIter_tupleiter st h
theorem Jy{P:ck}{w:World}{K:aj}{tg:Expr}(it:Addr)(lo:Int)(n:Nat):Turn P w K tg (Itr lo n) [it] it (fun i h=>IsRangeIter h it (lo+(i:Nat) * 1) ((n:Int) - (i:Nat)) 1) where
 mem:=by simp
 obj:=fun i h st b hb=>by
  have e:b=it:=by simpa using hb
  subst e
  exact⟨_,st,fun v z=>by
   have z':Data.fields _=Data.cell v:=z
   cases z'⟩
 keep:=fun i h h' st k=>k it (by simp) _ st
 item:=by
  intro X hP hw hK hc i pins s σ H E I hf st hg
  subst hP hw hK
  obtain⟨f0,f1,f2,f3,f4,f5⟩:=hf it (by simp)
  have W:=Walks.range (prog:=X.prog) (w:=X.w) (I.ok.hd hc) it lo 1 n
  refine W.item i s _ _ hg st fun v h' tk hv B8 kk=>?_
  obtain⟨t,rfl⟩:=hv
  have I1:Inv X pins σ H { s with heap:=h',toks:=tk }:=I.turned (fun b o hb e=>kk b o (by simpa using hb) e) f0 f1 f3 f4 f5
  refine⟨_,rfl,Mi (s:={ s with heap:=h',toks:=tk }) (n:="range_iterator") B8 rfl rfl (by decide) ⟨.int (lo+i),H,I1,⟨t,?_⟩,⟨rfl,rfl⟩,B8,fun b hb=>(hf b hb).1⟩⟩
  rw [tG]
 done:=by
  intro X hP hw hK hc i pins s σ H E I hf st hg
  subst hP hw hK
  obtain⟨f0,f1,f2,f3,f4,f5⟩:=hf it (by simp)
  exact wpAny_pyNext_range_end (I.ok.hd hc) st (by have:n<=i:=hg; lia) fun h' eb=>⟨rfl,I.turned (t':=s.toks) (fun b o hb e=>eb b o hb e) f0 f1 f3 f4 f5⟩
 self:=fun _ _ _ _ _ st h=>wpAny_pyIter_rangeiter st h
section
variable {X:Cx} {tg:Expr}
theorem P5{pins:List (Addr×Obj)}{σ:St}{H:Hp}{s:aA}{R:It->Hp->Prop}{E:Value->aA->Prop}{lo hi:Int}{t u v:Tok}{tk:Nat}(I:Inv X pins σ H s)(h1:-(2 ^ 62)<=lo)(h2:lo < 2 ^ 62)(h3:-(2 ^ 62)<=hi)(h4:hi < 2 ^ 62)
  (q:R (Itr lo (hi - lo).toNat) H):wpAny (model X.prog X.w) X.A (BX (.ref s.heap.objs.size)) (PIE X pins σ tg R) E { s with heap:=s.heap.push { cls:=.type "range",data:=.fields #[.int lo t,.int hi u,.int 1 v] },toks:=tk }:=by
 refine wpAny_pyIter_range (IsRange.new ..) (small_one h1 h2 h3 h4) ?_
 have I1:Inv X pins σ H { s with heap:=s.heap.push { cls:=.type "range",data:=.fields #[.int lo t,.int hi u,.int 1 v] },toks:=tk }:=I.kept fun b o e=>aN _ e
 refine⟨(s.heap.push { cls:=.type "range",data:=.fields #[.int lo t,.int hi u,.int 1 v] }).objs.size,[(s.heap.push { cls:=.type "range",data:=.fields #[.int lo t,.int hi u,.int 1 v] }).objs.size],_,_,H,rfl,
  I1.kept (t':=tk) fun b o e=>aN _ e,Jy _ lo (hi - lo).toNat,?_,fun b hb=>?_,q⟩
 ·have e1:lo+((0:Nat):Int) * 1=lo:=by simp
  have e2:(((hi - lo).toNat:Nat):Int) - ((0:Nat):Int)=Builtin.Range.rangeSize lo hi 1:=by rw [rangeSize_one]; split <;> lia
  show IsRangeIter _ _ (lo+((0:Nat):Int) * 1) ((((hi - lo).toNat:Nat):Int) - ((0:Nat):Int)) 1
  rw [e1,e2]
  exact bx _ rfl
 ·have e:b=(s.heap.push { cls:=.type "range",data:=.fields #[.int lo t,.int hi u,.int 1 v] }).objs.size:=by simpa using hb
  subst e
  exact I1.Hx (aM _) (I1.cT.fresh (aM _))
noncomputable def mJ(fp:List Addr)(h:Heap):List (Addr×Obj):=fp.filterMap fun b=>(h.get? b).map fun o=>(b,o)
theorem kC{fp:List Addr}{h:Heap}{b:Addr}{o:Obj}(hb:b∈fp)(e:h.get? b=some o):(b,o)∈mJ fp h:=List.mem_filterMap.mpr ⟨b,hb,by rw [e]; rfl⟩
theorem Nw{fp:List Addr}{h:Heap}{p:Addr×Obj}(hp:p∈mJ fp h):p.1∈fp/\h.get? p.1=some p.2:=by
 obtain⟨b,hb,e⟩:=List.mem_filterMap.mp hp
 cases q:h.get? b with
 | none=>rw [q] at e; cases e
 | some o =>
  rw [q] at e
  have e':(b,o)=p:=bR e
  subst e'
  exact⟨hb,q⟩
theorem Inv.pinned{pins:List (Addr×Obj)}{σ:St}{H:Hp}{s:aA}{fp:List Addr}(I:Inv X pins σ H s)(hf:∀ b∈fp,nI X pins H b)(ho:∀ b∈fp,∃ o,s.heap.get? b=some o/\∀ v,o.data≠.cell v):Inv X (pins++mJ fp s.heap) σ H s :=
 I.LP fun p hp=>(List.mem_append.mp hp).elim (fun z=>I.pin p (bH _ z)) fun z=>by
  obtain⟨hb,e⟩:=Nw z
  obtain⟨f0,f1,f2,_⟩:=hf p.1 hb
  obtain⟨o,e',d⟩:=ho p.1 hb
  rw [e] at e'; cases e'
  exact⟨e,f0,f1,f2,d⟩
theorem Inv.qO{pins pl:List (Addr×Obj)}{σ:St}{H:Hp}{s:aA}(I:Inv X (pins++pl) σ H s):Inv X pins σ H s:=I.LP fun p hp=>I.pin p (bH _ (d6 _ hp))
end
noncomputable abbrev R2:=V->V->Hp->VK->Prop
noncomputable def Ot(X:Cx)(f:Value->Value->Sem Value)(r:R2):Prop :=
 ∀ (pins:List (Addr×Obj)) (s:aA) (σ:St) (H:Hp) (x y:V) (v u:Value) (Q:VK),Inv X pins σ H s->RelV x v->RelV y u->r x y H Q ->
  wpAny (model X.prog X.w) X.A (f v u) (EP X pins σ Q) X.xe s
noncomputable def UnR(X:Cx)(f:Value->Sem Value)(r:V->Hp->VK->Prop):Prop :=
 ∀ (pins:List (Addr×Obj)) (s:aA) (σ:St) (H:Hp) (x:V) (v:Value) (Q:VK),Inv X pins σ H s->RelV x v->r x H Q ->
  wpAny (model X.prog X.w) X.A (f v) (EP X pins σ Q) X.xe s
noncomputable def UY(X:Cx)(f:Value)(r:List V->Hp->VK->Prop):Prop :=
 ∀ (pins:List (Addr×Obj)) (s:aA) (σ:St) (H:Hp) (xs:List V) (us:List Value) (Q:VK),Inv X pins σ H s->Vals xs us->r xs H Q ->
  wpAny (model X.prog X.w) X.A (call f us) (EP X pins σ Q) X.xe s
noncomputable def ahq(X:Cx)(r:V->Hp->(Bool->Hp->Prop)->Prop):Prop :=
 ∀ (pins:List (Addr×Obj)) (s:aA) (σ:St) (H:Hp) (x:V) (v:Value) (Q:Bool->Hp->Prop),Inv X pins σ H s->RelV x v->r x H Q ->
  wpAny (model X.prog X.w) X.A (truthy v) (TP X pins σ Q) X.xe s
noncomputable def rI(C:Int->Int->Prop)(g:Int->Int->V):R2:=fun x y H Q=>∃ i j,x=.int i/\y=.int j/\C i j/\Q (g i j) H
noncomputable def WS(g:Int->Int->V):R2:=fun x y H Q=>∃ i j,x=.int i/\y=.int j/\Q (g i j) H
noncomputable def rU(g:Int->V):V->Hp->VK->Prop:=fun x H Q=>∃ i,x=.int i/\Q (g i) H
section
variable {X:Cx} {a b c:Expr} {ta tb tc:TE} {pos:Pos}
theorem opI{f:Value->Value->Sem Value}{C:Int->Int->Prop}{g:Int->Int->Int}
  (rule:∀ (i j:Int) (t u:Tok) (s:aA) (Q:Value->aA->Prop) (E:Value->aA->Prop),C i j->Q (.int (g i j) s.toks) { s with toks:=s.toks+1 }->wpAny (model X.prog X.w) X.A (f (.int i t) (.int j u)) Q E s) :
  Ot X f (rI C fun i j=>.int (g i j)):=by
 intro pins s σ H x y v u Q I rx ry h
 obtain⟨i,j,rfl,rfl,hc,q⟩:=h
 obtain⟨t,rfl⟩:=rx
 obtain⟨t',rfl⟩:=ry
 exact rule i j t t' s _ _ hc ⟨.int (g i j),H,I.tok _,⟨_,rfl⟩,q⟩
theorem XM{f:Value->Value->Sem Value}{g:Int->Int->Int}
  (rule:∀ (i j:Int) (t u:Tok) (s:aA) (Q:Value->aA->Prop) (E:Value->aA->Prop),Q (.int (g i j) s.toks) { s with toks:=s.toks+1 }->wpAny (model X.prog X.w) X.A (f (.int i t) (.int j u)) Q E s) :
  Ot X f (WS fun i j=>.int (g i j)):=by
 intro pins s σ H x y v u Q I rx ry h
 obtain⟨i,j,rfl,rfl,q⟩:=h
 obtain⟨t,rfl⟩:=rx
 obtain⟨t',rfl⟩:=ry
 exact rule i j t t' s _ _ ⟨.int (g i j),H,I.tok _,⟨_,rfl⟩,q⟩
theorem XO{f:Value->Value->Sem Value}{g:Int->Int->Bool}
  (rule:∀ (i j:Int) (t u:Tok) (s:aA) (Q:Value->aA->Prop) (E:Value->aA->Prop),Q (.bool (g i j)) s->wpAny (model X.prog X.w) X.A (f (.int i t) (.int j u)) Q E s) :
  Ot X f (WS fun i j=>.bl (g i j)):=by
 intro pins s σ H x y v u Q I rx ry h
 obtain⟨i,j,rfl,rfl,q⟩:=h
 obtain⟨t,rfl⟩:=rx
 obtain⟨t',rfl⟩:=ry
 exact rule i j t t' s _ _ ⟨.bl (g i j),H,I,rfl,q⟩
noncomputable def ahz(i j:Int):Prop:=0 < j/\j < 1073741824
noncomputable def WM(i j:Int):Prop:=(-(2 ^ 64) < i/\i < 2 ^ 64)\/(-(2 ^ 64) < j/\j < 2 ^ 64)
theorem WM.ok{i j:Int}(h:WM i j):IntMulOk i j:=by
 rcases h with ⟨h1,h2⟩ | ⟨h1,h2⟩
 ·exact .of_left (intBits_le_64 h1 h2)
 ·exact .of_right (intBits_le_64 h1 h2)
theorem VH:Ot X (kj .Add) (WS fun i j=>.int (i+j)):=XM fun _ _ _ _ _ _ _ q=>add_int q
theorem VD:Ot X (kj .Sub) (WS fun i j=>.int (i - j)):=XM fun _ _ _ _ _ _ _ q=>sub_int q
theorem VE:Ot X (kj .Mult) (rI WM fun i j=>.int (i * j)):=opI fun _ _ _ _ _ _ _ hc q=>mul_int q hc.ok
theorem To:Ot X (kj .FloorDiv) (rI ahz fun i j=>.int (i / j)):=opI fun i j _ _ _ _ _ hc q=>by
 have h1:(0:Int) < j:=hc.1
 have h2:j < 1073741824:=hc.2
 exact floordiv_int (by lia) (by rw [Int.fdiv_eq_ediv_of_nonneg i (by lia)]; exact q) (.inl (PyProof.noPylong_small (by lia)))
theorem VF:Ot X (kj .Mod) (rI (fun _ j=>0 < j) fun i j=>.int (i % j)):=opI fun i j _ _ _ _ _ hc q=>by
 have h1:(0:Int) < j:=hc
 exact mod_int' (by lia) (by rw [Int.fmod_eq_emod_of_nonneg i (by lia)]; exact q)
theorem unI{f:Value->Sem Value}{g:Int->Int}
  (rule:∀ (i:Int) (t:Tok) (s:aA) (Q:Value->aA->Prop) (E:Value->aA->Prop),Q (.int (g i) s.toks) { s with toks:=s.toks+1 }->wpAny (model X.prog X.w) X.A (f (.int i t)) Q E s) :
  UnR X f (rU fun i=>.int (g i)):=by
 intro pins s σ H x v Q I rx h
 obtain⟨i,rfl,q⟩:=h
 obtain⟨t,rfl⟩:=rx
 exact rule i t s _ _ ⟨.int (g i),H,I.tok _,⟨_,rfl⟩,q⟩
theorem U2:UnR X (unaryOp .USub) (rU fun i=>.int (-i)):=unI fun _ _ _ _ _ q=>neg_int q
end
section
variable {X:Cx} {a b c:Expr} {ta tb tc:TE} {pos:Pos}
theorem XI:Ot X (ff .Lt) (WS fun i j=>.bl (decide (i < j))):=XO fun _ _ _ _ _ _ _ q=>lt_int q
theorem XJ:Ot X (ff .LtE) (WS fun i j=>.bl (decide (i<=j))):=XO fun _ _ _ _ _ _ _ q=>le_int q
theorem fV(b:Expr){op:CmpOp}(h:autoParam (op≠.In) Ad._auto_1)(h2:autoParam (op≠.NotIn) Ad._auto_1):wu op b=false:=by
 have e1:(op == CmpOp.In)=false:=by cases op <;> first | rfl | exact absurd rfl h
 have e2:(op == CmpOp.NotIn)=false:=by cases op <;> first | rfl | exact absurd rfl h2
 cases b with
 | Set es k _ =>
  show (k == 0&&(op == .In||op == .NotIn)&&es.all (constantsAlone 8))=false
  rw [e1,e2,Bool.or_false,ye,yd]
 | _=>rfl
noncomputable def WH(K:aj)(x:V)(H:Hp)(k:Bool):Prop :=
 match x with
 | .du=>k=false
 | .bl b=>k=b
 | .int i=>k=(i != 0)
 | .str y=>y.length<=bG/\k=((y.length:Int) != 0)
 | .WB y=>y.size<=bG/\k=((y.size:Int) != 0)
 | .ref p=>(∃ xs,qt K H p xs/\k=!xs.isEmpty)\/(∃ xs,A7 K H p xs/\k=!xs.isEmpty)\/∃ kvs,H p=some (.dK kvs)/\k=!kvs.isEmpty
 | _=>False
theorem Km{κ:Type}{kvs:List (κ×V)}{vs:List (κ×Value)}(r:KV kvs vs):(!vs.isEmpty)=!kvs.isEmpty:=by
 cases r <;> rfl
theorem Ax{xs:List V}{bM:List Value}(r:Vals xs bM):(!bM.toArray.isEmpty)=!xs.isEmpty:=by
 cases r <;> simp
theorem Ac:(bG:Nat) < 2 ^ 63:=by rw [cN]; decide
theorem U6:ahq X (fun x H Q=>∃ k,WH X.K x H k/\Q k H):=by
 intro pins s σ H x v Q I rx h
 obtain⟨k,e,q⟩:=h
 have hl:=Ac
 have hs:bG=16777216:=cN
 cases x with
 | du =>
  cases rx
  have e':k=false:=e
  subst e'
  exact truthy_none ⟨H,I,q⟩
 | bl b =>
  cases rx
  have e':k=b:=e
  subst e'
  exact og ⟨H,I,q⟩
 | int i =>
  obtain⟨t,rfl⟩:=rx
  have e':k=(i != 0):=e
  subst e'
  exact PySem.P.truthy_int ⟨H,I,q⟩
 | str y =>
  obtain⟨t,rfl⟩:=rx
  obtain⟨hy,e'⟩:y.length<=bG/\k=((y.length:Int) != 0):=e
  subst e'
  exact PySem.P.truthy_str (by lia) ⟨H,I.tok _,q⟩
 | WB y =>
  obtain⟨t,rfl⟩:=rx
  obtain⟨hy,e'⟩:y.size<=bG/\k=((y.size:Int) != 0):=e
  subst e'
  exact PySem.W.truthy_bytes (by lia) ⟨H,I.tok _,q⟩
 | ref p =>
  cases rx
  have e':(∃ xs,qt X.K H p xs/\k=!xs.isEmpty)\/(∃ xs,A7 X.K H p xs/\k=!xs.isEmpty)\/∃ kvs,H p=some (.dK kvs)/\k=!kvs.isEmpty:=e
  rcases e' with ⟨xs,hx,e'⟩ | ⟨xs,hx,e'⟩ | ⟨kvs,hx,e'⟩
  ·subst e'
   obtain⟨bM,r,pl,hz⟩:=I.list hx
   have hlen:=r.length
   exact wpAny_truthy_list pl.isList (by simp only [aZ]; lia) ⟨H,I.tok _,by rw [Ax r]; exact q⟩
  ·subst e'
   obtain⟨bM,r,pl,hz⟩:=I.tuple hx
   have hlen:=r.length
   exact truthy_tuple pl (by simp only [aZ]; lia) ⟨H,I.tok _,by rw [Ax r]; exact q⟩
  ·subst e'
   obtain⟨hz,hS,vs,r,m⟩:kvs.length<=bG/\(p == e6)=false/\∃ vs,KV kvs vs/\s.heap.DictOf (cy X.prog X.w) p vs:=I.cT p _ hx
   have hlen:kvs.length=vs.length:=gG r
   exact Jc hS m (by lia) ⟨H,I.tok _,by rw [Km r]; exact q⟩
 | _=>exact(show False from e).elim
theorem JR:Ot X (kj .Add) (fun x y H Q=>∃ i j,x=.str i/\y=.str j/\i.length+j.length<=bG/\Q (.str (i++j)) H):=by
 intro pins s σ H x y v u Q I rx ry h
 obtain⟨i,j,rfl,rfl,hz,q⟩:=h
 obtain⟨t,rfl⟩:=rx
 obtain⟨t',rfl⟩:=ry
 exact add_str (fun t' tk=>⟨.str (i++j),H,I.tok _,⟨_,rfl⟩,q⟩) hz
theorem vals1{x:V}{us:List Value}(r:Vals [x] us):∃ u,us=[u]/\RelV x u:=by
 cases r with
 | cons r1 r2=>cases r2; exact⟨_,rfl,r1⟩
theorem vals2{x y:V}{us:List Value}(r:Vals [x,y] us):∃ u w',us=[u,w']/\RelV x u/\RelV y w':=by
 cases r with
 | cons r1 r2 =>
  cases r2 with
  | cons r3 r4=>cases r4; exact⟨_,_,rfl,r1,r3⟩
noncomputable def ZE(K:aj)(x:V)(H:Hp)(n:Nat):Prop :=
 match x with
 | .str y=>y.length<=bG/\n=y.length
 | .WB y=>y.size<=bG/\n=y.size
 | .ref p=>(∃ xs,qt K H p xs/\n=xs.length)\/∃ xs,A7 K H p xs/\n=xs.length
 | _=>False
theorem RG:UY X (.builtin "len") (fun xs H Q=>∃ x n,xs=[x]/\ZE X.K x H n/\Q (.int n) H):=by
 intro pins s σ H xs us Q I r h
 obtain⟨x,n,rfl,e,q⟩:=h
 obtain⟨u,rfl,rx⟩:=vals1 r
 have hl:=Ac
 have hs:bG=16777216:=cN
 cases x with
 | str y =>
  obtain⟨t,rfl⟩:=rx
  obtain⟨hy,e'⟩:y.length<=bG/\n=y.length:=e
  subst e'
  exact len_str (by lia) ⟨.int _,H,I.tok _,⟨_,rfl⟩,q⟩
 | WB y =>
  obtain⟨t,rfl⟩:=rx
  obtain⟨hy,e'⟩:y.size<=bG/\n=y.size:=e
  subst e'
  exact PySem.W.len_bytes (by lia) ⟨.int _,H,I.tok _,⟨_,rfl⟩,q⟩
 | ref p =>
  cases rx
  have e':(∃ xs,qt X.K H p xs/\n=xs.length)\/∃ xs,A7 X.K H p xs/\n=xs.length:=e
  rcases e' with ⟨xs,hx,e'⟩ | ⟨xs,hx,e'⟩
  ·subst e'
   obtain⟨bM,r',pl,hz⟩:=I.list hx
   have hlen:=r'.length
   exact Calls.call_len_list pl.isList (by simp only [aZ]; lia) ⟨.int xs.length,H,I.tok _,⟨_,by simp only [aZ]; rw [hlen]⟩,q⟩
  ·subst e'
   obtain⟨bM,r',pl,hz⟩:=I.tuple hx
   have hlen:=r'.length
   exact len_tuple pl (by simp only [aZ]; lia) ⟨.int xs.length,H,I.tok _,⟨_,by simp only [aZ]; rw [hlen]⟩,q⟩
 | _=>exact(show False from e).elim
end
structure anv(h:Heap)(x dx C:Addr)(mA:Str->Option Value):Prop where
 obj:h.get? x=some (PySem.W.instObj C dx)
 ns:h.Ns1 dx mA
 ne:dx≠x
theorem BS.some_of{v:V}{o:Option Value}(r:BS (some v) o):∃ u,o=some u/\RelV v u:=by
 cases o with
 | none=>exact(show False from r).elim
 | some u=>exact⟨u,rfl,r⟩
structure Cls(K:aj)(C:Addr):Prop where
 pg:PySem.W.plainGet K C Str.empty=true
 hd:PySem.W.hasDictIn K C=true
 po:PySem.W.plainOver K C=true
 sa:o6 K (.ref C) "__setattr__" = some (some (.builtin "object.__setattr__"))
structure Con(K:aj)(C:Addr)(f:Str)(v:V)(u:Value):Prop where
 at_:o6 K (.ref C) f=some (some u)
 rel:RelV v u
 get:Sw K u "__get__" = some none
 cp:PySem.W.copiedNames.contains f=false
structure Meth(K:aj)(C:Addr)(m:Str)(f:Addr):Prop where
 at_:o6 K (.ref C) m=some (some (.ref f))
 fn:PySem.W.isFn K (.ref f)=true
 kp:aB K (.ref f)=true
section
variable {X:Cx} {pins:List (Addr×Obj)} {σ:St} {H:Hp} {s:aA} {A:eF} {E:Value->aA->Prop} {Q:Value->aA->Prop} {c:Value} {b:Bool}
inductive A6 (K:aj) (H:Hp):V->Value->Prop where
 | du:A6 K H .du (.type "NoneType")
 | bl (x:Bool):A6 K H (.bl x) (.type "bool")
 | int (i:Int):A6 K H (.int i) (.type "int")
 | str (x:Str):A6 K H (.str x) (.type "str")
 | YT (x:UInt64):A6 K H (.YT x) (.type "float")
 | lst {a:Addr} {xs:List V} (e:H a=some (.lst xs)):A6 K H (.ref a) (.type "list")
 | lW {a:Addr} {o:Obj} {xs:List V} (e:H a=some (.lW o (.lst xs))):A6 K H (.ref a) (.type "list")
 | tup {a:Addr} {xs:List V} (e:H a=some (.tup xs)):A6 K H (.ref a) (.type "tuple")
 | dK {a:Addr} {kvs:List (Key×V)} (e:H a=some (.dK kvs)):A6 K H (.ref a) (.type "dict")
 | dT {a:Addr} {kvs:List (List Key×V)} (e:H a=some (.dT kvs)):A6 K H (.ref a) (.type "dict")
 | ins {a C dx:Addr} {fs:List (Str×V)} (e:H a=some (.ins C dx fs)) (cl:Cls K C) (ha:o6 K (.ref C) "__class__" = some (some (.builtin "object.__class__")))
   (hn:Sw K (.builtin "object.__class__") "__get__" = some (some (.builtin "getset_descriptor.__get__"))) (htk:PySem.W.takesIn K (.builtin "object.__class__")=some true)
   (hm:PySem.W.mroIn K C (.type "object")=some true):A6 K H (.ref a) (.ref C)
end
structure nc(k:Nat)(A:eF):Prop where
 hd:A.handled=none
 dp:A.depth+3 * k+5 < recursionLimit
 un:A.units+16 * k+200 < cLine
theorem nc.mono{j k:Nat}{A:eF}(r:nc k A)(h:j<=k):nc j A:=⟨r.hd,by have:=r.dp; lia,by have:=r.un; lia⟩
theorem nc.deeper{k:Nat}{A:eF}(r:nc (k+1) A)(env:Env):nc k (A.deeper env) :=
 ⟨r.hd,by have:=r.dp; show A.depth+1+3 * k+5 < _; lia,by have:=r.un; show A.units+3+16 * k+200 < _; lia⟩
theorem nc.depth{k:Nat}{A:eF}(r:nc k A):A.depth < recursionLimit:=by have:=r.dp; lia
theorem nc.units{k:Nat}{A:eF}(r:nc k A):A.units+64 < cLine:=by have:=r.un; lia
theorem nc.Py{k:Nat}{A:eF}(r:nc k A):A.units < cLine:=by have:=r.un; lia
noncomputable abbrev Sp:=List V->Hp->VK->XK->Prop
noncomputable abbrev OY:=List Env->Hp->aA->XK->Value->aA->Prop
structure Uq(P:ck)(w:World)(K:aj)(mg:Str->Option Value)(base:Heap)(A:eF)(outer:List Env)(s:aA)(H:Hp):Prop where
 frames:A.frames=some outer
 mod:Mod K mg base
 bs:∀ b o,base.get? b=some o->s.heap.get? b=some o/\H b=none
 Ud:base.objs.size<=s.heap.objs.size
 AA:s.heap.FunFrames base outer
 W9:∀ b∈OT outer,H b=none
 cT:uz P w H s.heap
 bare:Df s.gens
noncomputable def CE(outer:List Env)(P:ck)(w:World)(H:Hp)(s:aA)(Q:VK)(u:Value)(s':aA):Prop :=
 ∃ v H',s'.os=s.os/\Df s'.gens/\Un (OT outer) [] H H' s.heap s'.heap/\uz P w H' s'.heap/\RelV v u/\Q v H'
noncomputable def CR(CX:OY)(outer:List Env)(P:ck)(w:World)(H:Hp)(s:aA)(Q:VK)(E:XK)(r:Result)(s':aA):Prop :=
 match r with
 | .ok (.ret u)=>CE outer P w H s Q u s'
 | .ok _=>False
 | .error e=>CX outer H s E e s'
structure dI(P:ck)(w:World)(K:aj)(mg:Str->Option Value)(base:Heap)(CX:OY)(k:Nat)(f:Addr)(fd:bc)(ps:List Str)(sp:Sp):Prop where
 len:∀ vs H Q E,sp vs H Q E->vs.length=ps.length
 run:∀ (A:eF) (outer:List Env) (s:aA) (H:Hp) (args:Args) (us:List Value) (vs:List V) (Q:VK) (E:XK),nc k A->Uq P w K mg base A outer s H->Ph s fd args (ps.zip us)->Vals vs us->sp vs H Q E ->
  y8 (model P w) A (.call (.ref f) args) (CR CX outer P w H s Q E) s
section
variable {X:Cx} {pins:List (Addr×Obj)} {σ:St} {H:Hp} {s s':aA}
theorem Inv.afz(I:Inv X pins σ H s):Uq X.prog X.w X.K X.mg X.base X.A X.stack s H :=
 ⟨I.ok.frames,I.ok.mod,I.bs,cG I.ok.Ud I.sz,I.stack,I.Lu,I.cT,I.bare⟩
theorem Inv.after{Q:VK}{u:Value}(I:Inv X pins σ H s)(h:CE X.stack X.prog X.w H s Q u s'):EP X pins σ Q u s':=by
 obtain⟨v,H',os,bare,un,cT,r,q⟩:=h
 obtain⟨hh,g,d,t,os'⟩:=s'
 obtain rfl:os'=s.os:=os
 exact⟨v,H',I.call (h':=hh) (g':=g) (d':=d) (t':=t) (ch:=[]) un cT bare (fun b z=>absurd z (by simp)),r,q⟩
end
noncomputable def Binds(K:aj)(fd:bc)(ps:List Str)(ds:List Value):Prop :=
 ∀ (s:aA) (us:List Value),K.In s.heap->(us++ds).length=ps.length->Ph s fd ⟨us,[]⟩ (ps.zip (us++ds))
theorem Binds.all{K:aj}{fd:bc}{ps:List Str}(h:∀ us:List Value,us.length=ps.length->bindArgs fd ⟨us,[]⟩=pure (ps.zip us)):Binds K fd ps []:=fun s us _ hl=>by
 rw [cc] at hl ⊢
 exact .of_eq (h us hl)
noncomputable def Passes(CX:OY)(X:Cx)(E:XK):Prop:=∀ (pins:List (Addr×Obj)) (σ:St) (H:Hp) (s:aA) (e:Value) (s':aA),Inv X pins σ H s->CX X.stack H s E e s'->X.xe e s'
section
variable {X:Cx} {CX:OY} {k:Nat} {f C:Addr} {fd:bc} {ps:List Str} {sp:Sp} {dvs:List V} {ds:List Value} {E:XK} {x m:Str} {p pos apos:Pos} {e o:Expr} {es:List Expr} {ta:TE} {t:TA}
theorem Vo{pins:List (Addr×Obj)}{σ:St}{H:Hp}{s:aA}{Q:VK}{us:List Value}{vs:List V}(F:dI X.prog X.w X.K X.mg X.base CX k f fd ps sp)(hr:nc k X.A)(hb:Binds X.K fd ps ds)(hd:Vals dvs ds)(hx:Passes CX X E)
  (I:Inv X pins σ H s) (r:Vals vs us) (h:sp (vs++dvs) H Q E):wpAny (model X.prog X.w) X.A (call (.ref f) us) (EP X pins σ Q) X.xe s:=by
 have r2:Vals (vs++dvs) (us++ds):=r.append hd
 have hl:(us++ds).length=ps.length:=by rw [← r2.length]; exact F.len _ _ _ _ h
 refine wpAny_call (yZ (F.run X.A X.stack s H ⟨us,[]⟩ (us++ds) (vs++dvs) Q E hr I.afz (hb s us I.L4 hl) r2 h) fun r s' hq=>?_)
 cases r with
 | error e=>exact hx pins σ H s e s' I hq
 | ok fl =>
  cases fl with
  | ret u=>exact I.after hq
  | next=>exact cw hq
  | brk=>exact cw hq
  | cont=>exact cw hq
structure Mk(K:aj)(C f:Addr):Prop where
 makes:PySem.W.makesIn K C=true
 init:o6 K (.ref C) "__init__" = some (some (.ref f))
 fn:PySem.W.isFn K (.ref f)=true
 kp:aB K (.ref C)=true
end
section
variable {X:Cx} {CX:OY} {k:Nat} {f C:Addr} {fd:bc} {ps ks:List Str} {sp:Sp} {E:XK} {x m:Str} {p pos apos akQ:Pos} {e o:Expr} {es:List Expr} {kws:List Pg} {te ta:TE} {t tk:TA} {nm:Option Str}
structure ahu(K:aj)(fd:bc)(ps ks:List Str)(g:List Value->List Value->List Value)(gV:List V->List V->List V):Prop where
 to:∀ (s:aA) (us ws:List Value),K.In s.heap->(g us ws).length=ps.length->Ph s fd ⟨us,ks.zip ws⟩ (ps.zip (g us ws))
 rel:∀ {vs:List V} {us:List Value} {zs:List V} {ws:List Value},Vals vs us->Vals zs ws->Vals (gV vs zs) (g us ws)
variable {g:List Value->List Value->List Value} {gV:List V->List V->List V}
end
structure cV(N P:List Str)(sc:Scope):Prop where
 kind:sc.kind=.function
 co:sc.isCoroutine=false
 gen:sc.isGenerator=false
 nd:N.Nodup
 pre:N.take P.length=P
 par:∀ x∈P,sc.names.lookup x=some .local\/sc.names.lookup x=some .cell
 VJ:∀ y∈sc.names,y.2≠.free
theorem CY{kindOf:Str->Option sX}{x:Str}:∀ {binds:List (Str×Value)} {m:Str->Option Value},(∀ v,(x,v)∉binds)->bindL kindOf binds m x=m x
 | [],_,_=>rfl
 | (n,v) :: r,m,h=>by
  unfold bindL
  rw [CY fun w hw=>h w (ao _ hw)]
  split
  ·have:x≠n:=by rintro rfl; exact h v ay
   simp [this]
  ·rfl
theorem C0{kindOf:Str->Option sX}{x:Str}:∀ {binds:List (Str×Value)} {m:Str->Option Value},(∀ v,(x,v)∉binds)->bindC kindOf binds m x=m x
 | [],_,_=>rfl
 | (n,v) :: r,m,h=>by
  unfold bindC
  rw [C0 fun w hw=>h w (ao _ hw)]
  split
  ·rfl
  ·have:x≠n:=by rintro rfl; exact h v ay
   simp [this]
theorem CZ{kindOf:Str->Option sX}{x:Str}{v:Value}:∀ {P:List Str} {vs:List Value} {i:Nat} {m:Str->Option Value},P.Nodup->P[i]?=some x->vs[i]?=some v->kindOf x=some .local ->
  bindL kindOf (P.zip vs) m x=some v
 | [],_,_,_,_,h,_,_=>by simp at h
 | _ :: _,[],_,_,_,_,h,_=>by simp at h
 | p :: P,w :: vs,0,m,nd,h1,h2,hk=>by
  simp at h1 h2; subst h1; subst h2
  show bindL kindOf ((p,w) :: P.zip vs) m p=_
  unfold bindL
  rw [CY fun v hv=>(List.nodup_cons.mp nd).1 (IM hv).1,if_pos hk]
  simp
 | p :: P,w :: vs,i+1,m,nd,h1,h2,hk=>by
  show bindL kindOf ((p,w) :: P.zip vs) m x=_
  unfold bindL
  exact CZ (i:=i) (List.nodup_cons.mp nd).2 (by simpa using h1) (by simpa using h2) hk
theorem C1{kindOf:Str->Option sX}{x:Str}{v:Value}:∀ {P:List Str} {vs:List Value} {i:Nat} {m:Str->Option Value},P.Nodup->P[i]?=some x->vs[i]?=some v->kindOf x≠some .local ->
  bindC kindOf (P.zip vs) m x=some v
 | [],_,_,_,_,h,_,_=>by simp at h
 | _ :: _,[],_,_,_,_,h,_=>by simp at h
 | p :: P,w :: vs,0,m,nd,h1,h2,hk=>by
  simp at h1 h2; subst h1; subst h2
  show bindC kindOf ((p,w) :: P.zip vs) m p=_
  unfold bindC
  rw [C0 fun v hv=>(List.nodup_cons.mp nd).1 (IM hv).1,if_neg hk]
  simp
 | p :: P,w :: vs,i+1,m,nd,h1,h2,hk=>by
  show bindC kindOf ((p,w) :: P.zip vs) m x=_
  unfold bindC
  exact C1 (i:=i) (List.nodup_cons.mp nd).2 (by simpa using h1) (by simpa using h2) hk
noncomputable def start(N:List Str)(vs:List V):St:=vs.map some++aJ (N.length - vs.length) none
noncomputable def HV(CX:OY)(P:ck)(w:World)(K:aj)(mg:Str->Option Value)(base:Heap)(N:List Str)(qual:Str)(scope:Scope)(f:Addr)(cd:Value)(A:eF)(outer:List Env)(s:aA)(H:Hp)(E:XK):Cx where
 prog:=P
 w:=w
 K:=K
 mg:=mg
 base:=base
 A:=A.deeper (Fj qual scope s.heap.objs.size f cd)
 N:=N
 ny:=s
 RW:=H
 env:=Fj qual scope s.heap.objs.size f cd
 outer:=outer
 stack:=Fj qual scope s.heap.objs.size f cd :: outer
 ex:=[]
 calm:=true
 fn:=fun _=>true
 pn:=[]
 xe:=fun e s'=>wpAny (model P w) (A.deeper (Fj qual scope s.heap.objs.size f cd)) (leaving (Fj qual scope s.heap.objs.size f cd) e) (fun _ Vm=>CX outer H s E e Vm) (fun e' Vm=>CX outer H s E e' Vm) s'
theorem H0{sc:Scope}{n:Nat}{x:Str}(h:sc.names.lookup x=some .cell):∃ c,(cellsFrom n sc.names []).lookup x=some c:=by
 have q:=Lf sc.names n [] (.inl h)
 exact Option.isSome_iff_exists.mp q
theorem NP{CX:OY}{P:ck}{w:World}{K:aj}{mg:Str->Option Value}{base:Heap}{N ps:List Str}{qual:Str}{scope:Scope}{f:Addr}{cd:Value}{A:eF}{outer:List Env}{s s1:aA}{H:Hp}{E:XK}{us:List Value}{vs:List V}
  (S:cV N ps scope) (hd:A.handled=none) (e0:Uq P w K mg base A outer s H) (hl:vs.length=ps.length) (r:Vals vs us)
  (x:InCallC s s.heap.objs.size (bindL (Fj qual scope s.heap.objs.size f cd).kindOf (ps.zip us) fun _=>none) (cellsFrom (s.heap.objs.size+1) scope.names []) (bindC (Fj qual scope s.heap.objs.size f cd).kindOf (ps.zip us) fun _=>none) s1) :
  Inv (HV CX P w K mg base N qual scope f cd A outer s H E) [] (start N vs) H s1:=by
 have Kr:ps.length<=N.length:=by have:=congrArg dP S.pre; rw [dW] at this; lia
 obtain⟨h1,tk,rfl,hk⟩:=x.done
 have XY:∀ b:Addr,b∉(HV CX P w K mg base N qual scope f cd A outer s H E).ex:=fun b z=>absurd (show b∈([]:List Addr) from z) (by simp)
 refine⟨⟨e0.mod,S.kind,rfl,rfl,aM _,fun y z c h1 h2=>?_,fun y hy=>?_,fun y c _ h=>?_,fun _=>hd,Around.frames_deeper e0.frames,.inr ⟨rfl,rfl⟩,fun b z=>absurd z (XY b),e0.bs,e0.Ud,fun b _ _=>XY b,fun b z=>absurd z (XY b),e0.AA,e0.W9⟩,
  rfl,e0.bare,Un.kept hk,⟨_,x.toInCall.ns,fun i y v h1 h2 h3=>?_⟩,fun y c h=>⟨_,x.cell y c h⟩,e0.cT.fresh (aM _),fun y c h=>?_,fun p hp=>absurd (show p∈([]:List (Addr×Obj)) from hp) (by simp),e0.cT.kept hk,?_⟩
 ·exact name_of_addr x.apart (iN h1) (iN h2)
 ·have hy:scope.names.lookup y=some .cell\/scope.names.lookup y=some .free:=hy
  rcases hy with hy | hy
  ·exact H0 hy
  ·exact absurd rfl (S.VJ _ (iN hy))
 ·exact E6 (x.above y c (iN h))
 ·have hi:i < vs.length:=by
   unfold start at h2
   by_cases hi:i < vs.length
   ·exact hi
   ·rw [cC (by simpa using hi)] at h2
    rw [gK] at h2
    split at h2 <;> cases h2
  have ha:vs[i]?=some v:=by
   unfold start at h2
   rw [dG (by simpa using hi),bA] at h2
   cases e:vs[i]? with
   | none=>rw [e] at h2; cases h2
   | some a=>rw [e] at h2; cases h2; rfl
  obtain⟨u,hu,rv⟩:=r.get ha
  have hp:ps[i]?=some y:=by
   rw [← S.pre,kr (by lia)]; exact h1
  have ndP:ps.Nodup:=by rw [← S.pre]; exact S.nd.sublist (List.take_sublist _ _)
  refine⟨u,rv,?_⟩
  rcases S.par y (di hp) with k | k
  ·exact .inl ⟨k,CZ ndP hp hu k⟩
  ·obtain⟨c,e⟩:=H0 (n:=s.heap.objs.size+1) k
   refine .inr ⟨.inl k,c,e,?_⟩
   have q:=x.cell y c e
   rw [C1 ndP hp hu (by show scope.names.lookup y≠_; rw [k]; decide)] at q
   exact q
 ·exact e0.cT.fresh (E6 (x.above y c (iN h)))
 ·unfold start
  show _=N.length
  rw [aq,ah,bK]
  lia
theorem YR{CX:OY}{P:ck}{w:World}{K:aj}{mg:Str->Option Value}{base:Heap}{k:Nat}{f:Addr}{name qual:Str}{params:Arguments}{body:List Stmt}{scope:Scope}{dV kV doc pm so ct oc:Value}{an od:Option Addr}
  {UC:Array (Option Value)} {N ps:List Str} {sp:Sp} (lk:K.lookup f=some ⟨oc,od,.func (aL name qual params body scope dV kV doc pm an so ct),UC⟩) (Kt:bB K so qual=true) (S:cV N ps scope)
  (len:∀ vs H Q E,sp vs H Q E->vs.length=ps.length)
  (Q5:∀ (A:eF) (outer:List Env) (s:aA) (H:Hp) (vs:List V) (Q:VK) (E:XK),nc k (A.deeper (Fj qual scope s.heap.objs.size f so))->sp vs H Q E ->
   ∃ t,Xf (HV CX P w K mg base N qual scope f so A outer s H E) body t/\t { nx:=fun _ H'=>Q .du H',rt:=Q } (start N vs) H) :
  dI P w K mg base CX (k+1) f (aL name qual params body scope dV kV doc pm an so ct) ps sp:=by
 refine⟨len,fun A outer s H args us vs Q E hr e0 hb r QS=>?_⟩
 have hl:=len _ _ _ _ QS
 have KX:K.In s.heap:=e0.mod.V0.keeps fun b o e=>(e0.bs b o e).1
 have lim:s.heap.NoLimit:=e0.mod.nolimit.keeps fun b o e=>(e0.bs b o e).1
 have CD:∀ y∈ps.zip us,scope.names.lookup y.1=some .local\/(scope.names.lookup y.1=some .cell/\((cellsFrom (s.heap.objs.size+1) scope.names []).lookup y.1).isSome=true):=fun ⟨n,v⟩ hy=>by
  rcases S.par n (IM hy).1 with q | q
  ·exact .inl q
  ·exact .inr ⟨q,Lf _ _ _ (.inl q)⟩
 refine codeAny_call_function hr.depth (KX _ _ lk) rfl S.co S.gen rfl (PySem.W.codeRec_of KX Kt) (hb _ _ _ _ ?_)
 refine wpAny_newFunctionEnv_cells S.kind CD fun env he s1 x=>?_
 subst he
 refine⟨lim.keeps x.toInCall.keep,codeAny_func ?_⟩
 obtain⟨t,ht,hq⟩:=Q5 A outer s H vs Q E (hr.deeper _) QS
 have I:Inv (HV CX P w K mg base N qual scope f so A outer s H E) [] (start N vs) H s1:=NP S hr.hd e0 hl r x
 refine oj (ht [] s1 (start N vs) H _ I hq) (fun fl s' hs=>?_) fun e s' hs=>hs
 have fin:∀ {jx:St} {H':Hp} {v:V} {u:Value},Inv (HV CX P w K mg base N qual scope f so A outer s H E) [] jx H' s'->RelV v u->Q v H'->CE outer P w H s Q u s' :=
  fun {jx H' v u} J rv q=>⟨v,H',J.os,J.bare,J.base,J.cT,rv,q⟩
 cases fl with
 | ret u =>
  obtain⟨v,jx,H',J,rv,q⟩:=hs
  exact fin J rv q
 | next =>
  obtain⟨jx,H',J,q⟩:=hs
  exact fin (v:=V.du) (u:=eD) J rfl q
 | brk =>
  obtain⟨_,_,_,q⟩:=hs
  exact cw q
 | cont =>
  obtain⟨_,_,_,q⟩:=hs
  exact cw q
end L2
namespace HT
open PySem PyProof.Rows
noncomputable def lexLt:List Int->List Int->Bool
 | [],[]=>false
 | [],_ :: _=>true
 | _ :: _,[]=>false
 | x :: xs,y :: ys=>if x=y then lexLt xs ys else decide (x < y)
theorem Kh(x y:Int)(xs ys:List Int):lexLt (x :: xs) (y :: ys)=if x=y then lexLt xs ys else decide (x < y):=rfl
theorem BE:lexLt [] []=false:=rfl
theorem Ag(y:Int)(ys:List Int):lexLt [] (y :: ys)=true:=rfl
theorem Ah(x:Int)(xs:List Int):lexLt (x :: xs) []=false:=rfl
theorem Rn(A:eF)(s:aA)(a:Int)(t:Tok)(c:Int)(u:Tok):∃ e,SeqAt.EqAt A s (.int a t) (.int c u) e/\(e=true↔a=c) :=
 ⟨(a == c),SeqAt.EqAt.int_int a t c u,by simp⟩
theorem FW(A:eF)(s:aA)(a:Int)(t:Tok)(c:Int)(u:Tok)(prog:ck)(w:World)(E:Value->aA->Prop)(Q:Value->aA->Prop)(h:Q (.bool (decide (a < c))) s) :
  wpAny (model prog w) A (richCompare .Lt (.int a t) (.int c u)) Q E s :=
 (PyProof.Rows.lt_int h:wpAny (model prog w) A (ff .Lt (.int a t) (.int c u)) Q E s)
section
open PySem.SeqAt
open PySem.AutoSeq1 (wpAny_loadPart')
open PySem.MeetsSeq PySem.MeetsSeq2 PySem.MeetsSeq3
theorem Bv(l b:Addr)(items oq:Array Value)(n n2:Nat)(dd Mz:Option Addr)(sl IZ:Array (Option Value))(ns ms:List Int)(hi:o7 items.toList ns)(hj:o7 oq.toList ms) :
  Meets (Builtin.«tuple.__lt__» ⟨[.ref l,.ref b],[]⟩)
   (fun _ R s=>s.heap.get? l=some { cls:=.type "tuple",dict:=dd,data:=.seq items n,slots:=sl }/\s.heap.get? b=some { cls:=.type "tuple",dict:=Mz,data:=.seq oq n2,slots:=IZ } /\
    R (.ok (.ret (.bool (lexLt ns ms)))) s) :=
 .of_wp fun prog w A R s h=>by
  obtain⟨hp,g,d,tk,os⟩:=s; obtain⟨hl,hb,h⟩:=h
  have f2:=qh
  have z1:items.size=ns.length:=by rw [← hi.length]; simp
  have z2:oq.size=ms.length:=by rw [← hj.length]; simp
  wp_walk using cI hl,cI hb,jw _ (fun rest b s'=>b.1=none/\s'=⟨hp,g,d,tk,os⟩/\∃ (vs ws:List Value) (WV WY:List Int),rest=vs.zip ws /\
   o7 vs WV/\o7 ws WY/\WV.length+oq.size=WY.length+items.size/\R (.ok (.ret (.bool (lexLt WV WY)))) ⟨hp,g,d,tk,os⟩) _
  case turn =>
   rintro⟨y,x⟩ rest b s' ⟨Hs,rfl,vs,ws,WV,WY,hz,W3,hwi,hlen,hR⟩
   cases W3 with
   | nil=>rw [List.zip_nil_left] at hz; cases hz
   | cons a t aeq =>
    cases hwi with
    | nil=>rw [List.zip_nil_right] at hz; cases hz
    | cons c u aen =>
     rw [List.zip_cons_cons] at hz
     injection hz with hyx QV
     injection hyx with hy hx
     subst hy hx
     rw [Kh] at hR
     simp only [ak] at hlen
     obtain⟨e,he,Yw⟩:=Rn A.in1 ⟨hp,g,d,tk,os⟩ a t c u
     refine af (he prog w _ _ ?_)
     cases e with
     | true =>
      rw [if_pos (Yw.mp rfl)] at hR
      wp_walk
      exact⟨rfl,rfl,_,_,_,_,QV,aeq,aen,by lia,hR⟩
     | false =>
      rw [if_neg (fun q=>absurd (Yw.mpr q) e7)] at hR
      have Ym:=FW A.in1 ⟨hp,g,d,tk,os⟩ a t c u prog w
      wp_walk using Ym
      exact⟨_,rfl,by simpa using hR⟩
  case fin =>
   rintro⟨b1,b2⟩ s' ⟨Hs,rfl,vs,ws,WV,WY,hz,W3,hwi,hlen,hR⟩
   simp only at Hs
   subst Hs
   have hv:lexLt WV WY=decide (items.size < oq.size):=by
    cases W3 with
    | nil =>
     cases hwi with
     | nil =>
      simp only [aG] at hlen
      rw [BE]
      exact(decide_eq_false (by lia)).symm
     | cons c u hw =>
      simp only [aG,ak] at hlen
      rw [Ag]
      exact(decide_eq_true (by lia)).symm
    | cons a t hv =>
     cases hwi with
     | nil =>
      simp only [aG,ak] at hlen
      rw [Ah]
      exact(decide_eq_false (by lia)).symm
     | cons c u hw =>
      rw [List.zip_cons_cons] at hz
      cases hz
   rw [hv] at hR
   wp_walk
   exact⟨_,rfl,by simpa [uI] using hR⟩
  case h =>
   exact⟨rfl,rfl,items.toList,oq.toList,ns,ms,rfl,hi,hj,by lia,h⟩
end
section
variable {prog:ck} {w:World} {A:eF} {E:Value->aA->Prop} {s:aA}
theorem Kb{l b:Addr}{items oq:Array Value}{ns ms:List Int}{Q:Value->aA->Prop}(hl:IsTup s.heap l items)(hb:IsTup s.heap b oq)(hi:o7 items.toList ns)(hj:o7 oq.toList ms)
  (hu:A.units < cLine) (h:Q (.bool (lexLt ns ms)) s):wpAny (model prog w) A (ff .Lt (.ref l) (.ref b)) Q E s:=by
 obtain⟨⟨cls,dd,data,sl⟩,ho,hc,n,hd⟩:=id hl
 obtain⟨⟨RD,Mz,data2,IZ⟩,Hl,Hq,n2,hd2⟩:=id hb
 simp only at hc hd Hq hd2
 subst hc hd Hq hd2
 exact xZ (op:=.Lt) ⟨_,ho,rfl⟩ ⟨_,Hl,rfl⟩ lY sv (qG _ _) (Bv l b items oq n n2 dd Mz sl IZ ns ms hi hj)
  ⟨ho,Hl,show Bo (lexLt ns ms)≠Value.notImplemented/\Q (.bool (lexLt ns ms)) s from⟨(fun x=>nomatch x),h⟩⟩ hu
theorem Ua{t b:Addr}{vs ws:List Value}{Q:Value->aA->Prop}(ht:IsTup s.heap t vs.toArray)(hb:IsTup s.heap b ws.toArray)(hv:vs≠[])
  (h1:ws=[]->Q (.ref t) s) (h2:ws≠[]->Q (.ref s.heap.objs.size) { s with heap:=s.heap.push { cls:=.type "tuple",data:=.seq (vs++ws).toArray } })
  (hsz:vs.length+ws.length<=bG):wpAny (model prog w) A (kj .Add (.ref t) (.ref b)) Q E s:=by
 obtain⟨⟨cls,dd,data,sl⟩,ho,hc,n,hd⟩:=id ht
 obtain⟨⟨RD,Mz,data2,IZ⟩,Hl,Hq,n2,hd2⟩:=id hb
 simp only at hc hd Hq hd2
 subst hc hd Hq hd2
 have e:vs.toArray++ws.toArray=(vs++ws).toArray:=by simp
 by_cases hw:ws=[]
 ·exact concat_meets ⟨_,ho,rfl⟩ ⟨_,Hl,rfl⟩ noFill_tuple_add seq_tuple_add Lg Jj (IL _ _)
   (tuple_addW1 t b vs.toArray ws.toArray n n2 dd Mz sl IZ (by simpa using hv) (by simp [hw])) ⟨ho,Hl,h1 hw⟩
 ·refine concat_meets ⟨_,ho,rfl⟩ ⟨_,Hl,rfl⟩ noFill_tuple_add seq_tuple_add Lg Jj (IL _ _)
   (tuple_addW2 t b vs.toArray ws.toArray n n2 dd Mz sl IZ (by simpa using hv) (by simpa using hw) (by rw [aZ,aZ]; exact hsz)) ⟨ho,Hl,?_⟩
  rw [e]
  exact h2 hw
noncomputable def jM(n d:Nat):Option Int->Nat
 | none=>d
 | some v=>if v < 0 then (v+(n:Int)).toNat else min v.toNat n
theorem Vl(n d:Nat)(hd:d<=n)(o:Option Int):jM n d o<=n:=by
 cases o with
 | none=>exact hd
 | some v =>
  show (if v < 0 then (v+(n:Int)).toNat else min v.toNat n)<=n
  by_cases hv:v < 0
  ·rw [if_pos hv]; lia
  ·rw [if_neg hv]; exact Nat.min_le_right _ _
theorem MC(v:Int)(n d:Nat):(if v < 0 then max (v+(n:Int)) 0 else min v (n:Int))=((jM n d (some v):Nat):Int):=by
 show (if v < 0 then max (v+(n:Int)) 0 else min v (n:Int))=(((if v < 0 then (v+(n:Int)).toNat else min v.toNat n):Nat):Int)
 by_cases hv:v < 0
 ·simp only [if_pos hv]; lia
 ·simp only [if_neg hv]; lia
theorem KZ(lo hi:Option Int)(n:Nat):nv lo hi 1 (n:Int)=(((jM n 0 lo:Nat):Int),((jM n n hi:Nat):Int)):=by
 have h1:¬ ((1:Int) < 0):=by lia
 unfold nv
 simp only [h1,if_false]
 refine Prod.ext ?_ ?_
 ·cases lo with
  | none=>rfl
  | some v=>exact MC v n 0
 ·cases hi with
  | none=>rfl
  | some v=>exact MC v n n
theorem JP(i j:Nat):jm (i:Int) (j:Int) 1=j - i:=by
 unfold jm
 have h1:(1:Int) > 0:=by lia
 simp only [h1,if_true,Int.ediv_one]
 split <;> lia
theorem zv{v:Value}{o:Option Int}{Q:Option Int->aA->Prop}(p:IsPart v o)(h:Q o s):wpAny (model prog w) A (Builtin.Slice.slicePartIndex v) Q E s:=by
 cases p with
 | none=>exact slicePart_none h
 | int i t=>exact slicePart_int h
theorem wF{sl:Addr}{vl vu:Value}{lo hi:Option Int}{n:Nat}{Q:Int×Int×Nat->aA->Prop}(hs:s.heap.IsSliceOf sl vl vu .none)(pl:IsPart vl lo)(pu:IsPart vu hi)
  (h:Q (((jM n 0 lo:Nat):Int),1,jM n n hi - jM n 0 lo) s):wpAny (model prog w) A (yy (.ref sl) (pure (n:Int))) Q E s:=by
 obtain⟨os,Yn,hcs,hds⟩:=id hs
 unfold yy Builtin.Slice.sliceFields
 refine af (af (O0 Yn hds (x:=vl) rfl (af (O0 Yn hds (x:=vu) rfl (af (O0 Yn hds (x:=.none) rfl (av ?_)))))))
 refine af (slicePart_none ?_)
 show wpAny _ _ (if ((1:Int) == 0)=true then _ else _) _ _ s
 rw [if_neg (by decide)]
 refine af (zv pl (af (zv pu (af (av ?_)))))
 show wpAny _ _ (match nv lo hi 1 (n:Int) with | (lo,hi)=>pure (lo,(1:Int),jm lo hi 1)) _ _ s
 rw [KZ lo hi n]
 show wpAny _ _ (pure (((jM n 0 lo:Nat):Int),(1:Int),jm ((jM n 0 lo:Nat):Int) ((jM n n hi:Nat):Int) 1)) _ _ s
 rw [JP]
 exact av h
theorem Qe(xs:Array Value)(i k:Nat):((bq k).filterMap fun (m:Nat)=>xs[((i:Int)+(m:Int) * 1).toNat]?).toArray=((xs.toList.drop i).take k).toArray:=by
 have e:(fun (m:Nat)=>xs[((i:Int)+(m:Int) * 1).toNat]?)=fun m=>xs[i+m]?:=by
  funext m
  have:((i:Int)+(m:Int) * 1).toNat=i+m:=by lia
  rw [this]
 rw [e]
 have:=pick_run xs i k
 rw [List.filterMap_map] at this
 have e2:((fun x=>xs[x]?)∘fun x=>i+x)=fun m=>xs[i+m]?:=rfl
 rw [e2] at this
 rw [this]
theorem vK{t sl:Addr}{items:Array Value}{vl vu:Value}{lo hi:Option Int}{Q:Value->aA->Prop}(ht:IsTup s.heap t items)(hs:s.heap.IsSliceOf sl vl vu .none)(pl:IsPart vl lo)(pu:IsPart vu hi)
  (hw:¬ (jM items.size 0 lo=0/\jM items.size items.size hi=items.size))
  (h:Q (.ref s.heap.objs.size) { s with heap:=s.heap.push { cls:=.type "tuple",data:=.seq ((items.toList.drop (jM items.size 0 lo)).take (jM items.size items.size hi - jM items.size 0 lo)).toArray } })
  (hsz:items.size<=bG):wpAny (model prog w) A (getItem (.ref t) (.ref sl)) Q E s:=by
 have Mf:sizeOk (.seq ((items.toList.drop (jM items.size 0 lo)).take (jM items.size items.size hi - jM items.size 0 lo)).toArray):=by
  show ((items.toList.drop (jM items.size 0 lo)).take (jM items.size items.size hi - jM items.size 0 lo)).toArray.size<=bG
  rw [aZ]
  exact cG (cG (List.length_take_le' _ _) (by rw [cM,bJ]; exact OD _ _)) hsz
 have hj:jM items.size items.size hi<=items.size:=Vl _ _ (aM _) hi
 obtain⟨os,Yn,hcs,hds⟩:=id hs
 have hTs:s.TypeIs (.ref sl) "slice":=⟨os,Yn,hcs⟩
 unfold getItem
 try with_reducible refine fF ?_
 first | refine af (av ?_) | skip
 refine af (wpAny_sequenceKey ht.typeIs (by decide) ?_)
 refine af (fU (name:=nj "__getitem__") ht.typeIs wa
  (dg wa ht.typeIs entry_tuple_getitem ?_ (args_tuple_getitem _ _)))
 show wpAny _ _ (Builtin.Tuple.tupleItemsOf (.ref t) >>= _) _ _ s
 refine af (tupleItemsOf_ ht ?_)
 refine af (Lc hTs ?_)
 rw [if_pos (by decide)]
 refine af (wF hs pl pu ?_)
 have TL:¬ ((((jM items.size 0 lo:Nat):Int) == 0&&(1:Int) == 1&&(jM items.size items.size hi - jM items.size 0 lo) == items.size)=true):=by
  intro q
  rw [aP,aP] at q
  have q1:((jM items.size 0 lo:Nat):Int)=0:=eq_of_beq q.1.1
  have q2:jM items.size items.size hi - jM items.size 0 lo=items.size:=eq_of_beq q.2
  exact hw ⟨by lia,by lia⟩
 show wpAny _ _ (if (((jM items.size 0 lo:Nat):Int) == 0&&(1:Int) == 1&&(jM items.size items.size hi - jM items.size 0 lo) == items.size)=true then _ else _) _ _ s
 rw [if_neg TL,Qe]
 first
  | exact af (m:=jH _) (df (av ⟨_,rfl,av h⟩) Mf)
  | exact af (m:=jH _) (df (af (av (av ⟨_,rfl,av h⟩))) Mf)
  | exact af (af (m:=jH _) (df (av (av ⟨_,rfl,av h⟩)) Mf))
  | exact af (af (m:=jH _) (df (av ⟨_,rfl,av h⟩) Mf))
end
end HT
namespace L2
open PySem PySem.Spec PyProof.Rows
noncomputable abbrev TO:=St->Hp->(Option Int->Hp->Prop)->Prop
theorem intsAre_of{ns:List Int}:∀ {us:List Value},Vals (ns.map V.int) us->o7 us ns:=by
 induction ns with
 | nil=>intro us r; rw [bb] at r; cases r; exact .nil
 | cons n ns ih =>
  intro us r
  rw [au] at r
  cases r with
  | cons r1 r2 =>
   obtain⟨t,e⟩:=r1
   subst e
   exact .cons n t (ih r2)
section
variable {X:Cx} {e:Expr} {te:TE} {lo hi:Option Expr} {tl th:TO} {pos p2:Pos}
noncomputable def SlR(X:Cx)(r:V->Option Int->Option Int->Hp->VK->Prop):Prop :=
 ∀ (pins:List (Addr×Obj)) (s:aA) (σ:St) (H:Hp) (x:V) (v vl vu:Value) (lo hi:Option Int) (sl:Addr) (Q:VK),Inv X pins σ H s->RelV x v->s.heap.IsSliceOf sl vl vu .none->IsPart vl lo->IsPart vu hi->r x lo hi H Q ->
  ∃ T id,typeLookup (.type T) "__getitem__" = pure (some (.builtin id))/\s.TypeIs v T/\wpAny (model X.prog X.w) X.A (getItem v (.ref sl)) (EP X pins σ Q) X.xe s
noncomputable def HW(xs:List V)(lo hi:Option Int):List V:=(xs.drop (HT.jM xs.length 0 lo)).take (HT.jM xs.length xs.length hi - HT.jM xs.length 0 lo)
theorem xW(xs:List V)(lo hi:Option Int):(HW xs lo hi).length<=xs.length:=by
 unfold HW
 rw [dW,cM]
 lia
noncomputable def abr(K:aj):V->Option Int->Option Int->Hp->VK->Prop:=fun x lo hi H Q=>∃ a xs,x=.ref a/\A7 K H a xs /\
 ¬ (HT.jM xs.length 0 lo=0/\HT.jM xs.length xs.length hi=xs.length)/\∀ p,H p=none->Q (.ref p) (upd H p (.tup (HW xs lo hi)))
theorem Vj:SlR X (abr X.K):=by
 intro pins s σ H x v vl vu lo hi sl Q I rx hs pl pu h
 obtain⟨a,xs,rfl,hx,hw,q⟩:=h
 cases rx
 obtain⟨bM,r,ht,hz⟩:=I.tuple hx
 have hlen:bM.toArray.size=xs.length:=by rw [aZ]; exact r.length.symm
 refine⟨"tuple",_,PyProof.Rows.slot_tuple_getitem.lookup,ht.typeIs,?_⟩
 refine HT.vK ht hs pl pu (by rw [hlen]; exact hw) ?_ (by rw [hlen]; exact hz)
 rw [hlen]
 refine⟨.ref s.heap.objs.size,_,I.laid (t':=s.toks) (o:=.tup (HW xs lo hi)) (fun b ob q=>aN _ q) (aM _) ?_,rfl,q _ (I.cT.fresh (aM _))⟩
 exact⟨cG (xW xs lo hi) hz,_,(r.drop (HT.jM xs.length 0 lo)).take (HT.jM xs.length xs.length hi - HT.jM xs.length 0 lo),IsTup.new _ _⟩
noncomputable def abu(K:aj):R2:=fun x y H Q=>∃ a b ns ms,x=.ref a/\y=.ref b/\A7 K H a (ns.map V.int)/\A7 K H b (ms.map V.int)/\Q (.bl (HT.lexLt ns ms)) H
theorem VG(hu:X.A.units < cLine):Ot X (ff .Lt) (abu X.K):=by
 intro pins s σ H x y v u Q I rx ry h
 obtain⟨a,b,ns,ms,rfl,rfl,ha,hb,q⟩:=h
 cases rx
 cases ry
 obtain⟨bM,r1,p1,_⟩:=I.tuple ha
 obtain⟨wU,r2,p2,_⟩:=I.tuple hb
 have i1:o7 bM.toArray.toList ns:=intsAre_of r1
 have i2:o7 wU.toArray.toList ms:=intsAre_of r2
 exact HT.Kb p1 p2 i1 i2 hu ⟨.bl (HT.lexLt ns ms),H,I,rfl,q⟩
noncomputable def XC(K:aj):R2:=fun x y H Q=>∃ a b xs ys,x=.ref a/\y=.ref b/\A7 K H a xs/\A7 K H b ys/\xs≠[]/\xs.length+ys.length<=bG /\
 (ys=[]->Q (.ref a) H)/\(ys≠[]->∀ p,H p=none->Q (.ref p) (upd H p (.tup (xs++ys))))
theorem Vals.DY{xs:List V}{us:List Value}(r:Vals xs us):us=[]↔xs=[]:=by
 cases r with
 | nil=>simp
 | cons _ _=>simp
theorem Tp:Ot X (kj .Add) (XC X.K):=by
 intro pins s σ H x y v u Q I rx ry h
 obtain⟨a,b,xs,ys,rfl,rfl,ha,hb,hx,hz,q1,q2⟩:=h
 cases rx
 cases ry
 obtain⟨bM,r1,p1,_⟩:=I.tuple ha
 obtain⟨wU,r2,p2,_⟩:=I.tuple hb
 refine HT.Ua p1 p2 (fun z=>hx (r1.DY.mp z)) (fun z=>⟨.ref a,H,I,rfl,q1 (r2.DY.mp z)⟩) (fun z=>?_) (by rw [← r1.length,← r2.length]; exact hz)
 refine⟨.ref s.heap.objs.size,_,I.laid (t':=s.toks) (o:=.tup (xs++ys)) (fun b ob q=>aN _ q) (aM _) ?_,rfl,q2 (fun w=>z (r2.DY.mpr w)) _ (I.cT.fresh (aM _))⟩
 exact⟨by rw [aq]; exact hz,_,r1.append r2,IsTup.new _ _⟩
end
noncomputable def Ef(n:Nat)(i:Int):Option Nat:=if 0<=i then (if i < n then some i.toNat else none) else if -(n:Int)<=i then some (i+n).toNat else none
noncomputable def oz{α:Type}(xs:List α)(i:Int):Option α:=(Ef xs.length i).bind fun j=>xs[j]?
theorem L6{n:Nat}{i:Int}{j:Nat}(h:Ef n i=some j):seqIndex? i n=some j/\j < n/\-(n:Int)<=i/\i < n:=by
 unfold Ef at h
 by_cases h0:0<=i
 ·rw [if_pos h0] at h
  by_cases h1:i < n
  ·rw [if_pos h1] at h
   have e:i.toNat=j:=bR h
   exact⟨by rw [seqIndex_of h0 h1,e],by lia,by lia,h1⟩
  ·rw [if_neg h1] at h; cases h
 ·rw [if_neg h0] at h
  by_cases h1:-(n:Int)<=i
  ·rw [if_pos h1] at h
   have e:(i+n).toNat=j:=bR h
   exact⟨by rw [seqIndex_neg (by lia) h1,e],by lia,h1,by lia⟩
  ·rw [if_neg h1] at h; cases h
theorem MG{α:Type}{xs:List α}{i:Int}{v:α}(h:oz xs i=some v):∃ j,seqIndex? i xs.length=some j/\xs[j]?=some v/\j < xs.length/\-(xs.length:Int)<=i/\i < xs.length:=by
 unfold oz at h
 cases e:Ef xs.length i with
 | none=>rw [e] at h; cases h
 | some j =>
  rw [e] at h
  obtain⟨h1,h2,h3,h4⟩:=L6 e
  exact⟨j,h1,h,h2,h3,h4⟩
noncomputable def Ui(b:Expr):Prop:=∀ o i,subscripted b false o i=operate [o,i] (getItem o i)
noncomputable def IxR(X:Cx)(r:R2):Prop :=
 ∀ (value slice:Expr) (pins:List (Addr×Obj)) (s:aA) (σ:St) (H:Hp) (x y:V) (v u:Value) (Q:VK),Inv X pins σ H s->RelV x v->RelV y u->r x y H Q ->
  subscripted slice false v u=operate [v,u] (getItem v u)->wpAny (model X.prog X.w) X.A (subscriptTail value slice v u) (EP X pins σ Q) X.xe s
noncomputable def MtR(X:Cx)(id:String)(r:V->List V->Hp->VK->Prop):Prop :=
 ∀ (pins:List (Addr×Obj)) (s:aA) (σ:St) (H:Hp) (x:V) (xs:List V) (v:Value) (us:List Value) (Q:VK),Inv X pins σ H s->RelV x v->Vals xs us->r x xs H Q ->
  wpAny (model X.prog X.w) X.A (call (.builtin id) (v :: us)) (EP X pins σ Q) X.xe s
section
variable {X:Cx} {a b:Expr} {ta tb:TE} {pos:Pos}
noncomputable def abw(K:aj):R2:=fun x y H Q=>∃ p xs i v,x=.ref p/\y=.int i/\qt K H p xs/\oz xs i=some v/\Q v H
noncomputable def abv(K:aj):R2:=fun x y H Q=>∃ p xs i v,x=.ref p/\y=.int i/\A7 K H p xs/\oz xs i=some v/\Q v H
theorem L5:IxR X (abw X.K):=by
 intro value slice pins s σ H x y v u Q I rx ry h hs
 obtain⟨p,xs,i,z,rfl,rfl,hq,he,q⟩:=h
 cases rx
 obtain⟨t,rfl⟩:=ry
 obtain⟨bM,r,pl,hz⟩:=I.list hq
 obtain⟨j,h1,h2,h3,h4,h5⟩:=MG he
 obtain⟨w,ew,tK⟩:=r.get h2
 have hl:=r.length
 have hn:=Ac
 have fin:EP X pins σ Q w s:=⟨z,H,I,tK,q⟩
 by_cases h0:0<=i
 ·have hj:i.toNat=j:=by
   rw [seqIndex_of h0 h5] at h1
   exact bR h1
  exact item_listR pl.isList h0 (by lia) (by rw [hj]; simpa using ew) fin hs
 ·have hj:(i+(bM.toArray.size:Int)).toNat=j:=by
   rw [seqIndex_neg (by lia) h4] at h1
   rw [aZ,← hl]
   exact bR h1
  exact subscriptTail_builtinR (x:=w) pl.isList.typeIs slot_list_getitem.lookup
   (wpAny_getItem_list_neg (Q:=fun r s'=>r=w/\EP X pins σ Q r s') pl.isList (by lia) (by rw [aZ] <;> lia) (by lia) (by rw [hj]; simpa using ew) ⟨rfl,fin⟩) hs
theorem V3:IxR X (abv X.K):=by
 intro value slice pins s σ H x y v u Q I rx ry h hs
 obtain⟨p,xs,i,z,rfl,rfl,hq,he,q⟩:=h
 cases rx
 obtain⟨t,rfl⟩:=ry
 obtain⟨bM,r,pl,hz⟩:=I.tuple hq
 obtain⟨j,h1,h2,h3,h4,h5⟩:=MG he
 obtain⟨w,ew,tK⟩:=r.get h2
 have hl:=r.length
 have hn:=Ac
 have fin:EP X pins σ Q w s:=⟨z,H,I,tK,q⟩
 exact subscriptTail_builtinR (x:=w) pl.typeIs slot_tuple_getitem.lookup
  (getItem_tuple (j:=j) (Q:=fun r s'=>r=w/\EP X pins σ Q r s') pl (by lia) (by lia) (by rw [aZ,← hl]; exact h1) (by simpa using ew) ⟨rfl,fin⟩) hs
theorem Ka (bM:List Value) (n j:Nat) (u:Value):jh (·.setIfInBounds j u) { cls:=.type "list",data:=.seq bM.toArray n } = { cls:=.type "list",data:=.seq (bM.set j u).toArray n }:=by
 simp [jh]
theorem Inv.lst{pins:List (Addr×Obj)}{σ:St}{H:Hp}{s:aA}{p:Addr}{xs:List V}(I:Inv X pins σ H s)(h:H p=some (.lst xs)) :
  ∃ (bM:List Value) (n:Nat),Vals xs bM/\s.heap.get? p=some { cls:=.type "list",data:=.seq bM.toArray n }/\xs.length<=bG:=by
 obtain⟨z,bM,n,r,e⟩:=I.cT p _ h
 exact⟨bM,n,r,e,z⟩
theorem Inv.VQ{pins:List (Addr×Obj)}{σ:St}{H:Hp}{s:aA}{p:Addr}{xs ys:List V}{bM its':List Value}{n n':Nat}{f:Obj->Obj}(I:Inv X pins σ H s)(h:H p=some (.lst xs))
  (ho:s.heap.get? p=some { cls:=.type "list",data:=.seq bM.toArray n }) (hf:f { cls:=.type "list",data:=.seq bM.toArray n } = { cls:=.type "list",data:=.seq its'.toArray n' }) (r:Vals ys its') (hz:ys.length<=bG) (t:Nat) :
  Inv X pins σ (upd H p (.lst ys)) { s with heap:=s.heap.update p f,toks:=t }:=by
 have e:(s.heap.update p f).get? p=some { cls:=.type "list",data:=.seq its'.toArray n' }:=by
  rw [fD f ho (by rw [hf] <;> rfl),hf]
 refine I.write (x:=p) (e:=p) (by rw [h]; trivial) (.inl rfl) (fun b u hb q=>(ux _ _ (eC hb)).trans q) ⟨_,e⟩ ?_
 exact⟨hz,its',n',r,e⟩
noncomputable def Xz:V->V->V->Hp->(Hp->Prop)->Prop:=fun o i v H Q=>∃ p xs k j,o=.ref p/\i=.int k/\H p=some (.lst xs)/\Ef xs.length k=some j/\Q (upd H p (.lst (xs.set j v)))
theorem set_list:aht X Xz:=by
 intro pins s σ H o i v ov iv u Q I ro ri rv h
 obtain⟨p,xs,k,j,rfl,rfl,hp,hj,q⟩:=h
 cases ro
 obtain⟨t,rfl⟩:=ri
 obtain⟨bM,n,r,ho,hz⟩:=I.lst hp
 obtain⟨h1,h2,h3,h4⟩:=L6 hj
 have hl:=r.length
 have hn:=Ac
 have I':Inv X pins σ (upd H p (.lst (xs.set j v))) { s with heap:=s.heap.update p (jh (·.setIfInBounds j u)) } :=
  I.VQ hp ho (Ka bM n j u) (r.set rv j) (by rw [cb]; exact hz) s.toks
 by_cases h0:0<=k
 ·have hk:k.toNat=j:=by
   rw [seqIndex_of h0 h4] at h1
   exact bR h1
  exact PySem.W.ki_setAt ho h0 (by lia) (by rw [aZ,← hl]; exact h4) (by rw [hk]; exact⟨_,I',q⟩)
 ·have hk:(k+(bM.toArray.size:Int)).toNat=j:=by
   rw [seqIndex_neg (by lia) h3] at h1
   rw [aZ,← hl]
   exact bR h1
  exact PySem.W.ki_setBack ho (by lia) (by rw [aZ,← hl]; exact h3) (by lia) (by rw [hk]; exact⟨_,I',q⟩)
theorem Dy(lo hi:Option Int)(n:Nat):(qB lo hi none n).1=((HT.jM n 0 lo:Nat):Int)/\(qB lo hi none n).2.1=((HT.jM n n hi:Nat):Int)/\(qB lo hi none n).2.2=1:=by
 refine⟨?_,?_,rfl⟩
 ·cases lo with
  | none=>simp [qB,HT.jM]
  | some i =>
   simp only [qB,HT.jM,Option.getD_none,show (1:Int) > 0 by decide,if_true]
   by_cases h:i < 0
   ·simp only [h,if_true] <;> lia
   ·simp only [h,if_false] <;> lia
 ·cases hi with
  | none=>simp [qB,HT.jM]
  | some i =>
   simp only [qB,HT.jM,Option.getD_none,show (1:Int) > 0 by decide,if_true]
   by_cases h:i < 0
   ·simp only [h,if_true] <;> lia
   ·simp only [h,if_false] <;> lia
theorem Bx(bM:List Value)(lo hi:Option Int):slicePick bM.toArray lo hi none=((bM.drop (HT.jM bM.length 0 lo)).take (HT.jM bM.length bM.length hi - HT.jM bM.length 0 lo)).toArray:=by
 obtain⟨h1,h2,h3⟩:=Dy lo hi bM.toArray.size
 unfold slicePick
 rw [h1,h2,h3]
 simp only [sliceRange_one,pick_run,aZ] <;> rfl
noncomputable def abt(K:aj):V->Option Int->Option Int->Hp->VK->Prop:=fun x lo hi H Q=>∃ a xs,x=.ref a/\qt K H a xs/\∀ p,H p=none->Q (.ref p) (upd H p (.lst (HW xs lo hi)))
theorem LB:SlR X (abt X.K):=by
 intro pins s σ H x v vl vu lo hi sl Q I rx hs pl pu h
 obtain⟨a,xs,rfl,hx,q⟩:=h
 cases rx
 obtain⟨bM,r,ht,hz⟩:=I.list hx
 have hlen:=r.length
 refine⟨"list",_,slot_list_getitem.lookup,ht.isList.typeIs,?_⟩
 refine wpAny_getItem_list_slice ht.isList hs pl pu .none (by simp) ?_ (by rw [aZ] <;> lia)
 rw [Bx,← hlen]
 refine⟨.ref s.heap.objs.size,_,I.laid (t':=s.toks) (o:=.lst (HW xs lo hi)) (fun b ob q=>aN _ q) (aM _) ?_,rfl,q _ (I.cT.fresh (aM _))⟩
 exact⟨cG (xW xs lo hi) hz,_,0,(r.drop (HT.jM xs.length 0 lo)).take (HT.jM xs.length xs.length hi - HT.jM xs.length 0 lo),bx _ rfl⟩
theorem ED:UY X (.type "list") (fun xs H Q=>∃ p ys,xs=[.ref p]/\(qt X.K H p ys\/A7 X.K H p ys)/\∀ l,H l=none->Q (.ref l) (upd H l (.lst ys))):=by
 intro pins s σ H xs us Q I r h
 obtain⟨p,ys,rfl,hq,q⟩:=h
 obtain⟨u,rfl,rx⟩:=vals1 r
 cases rx
 have fin:∀ (bM:List Value),Vals ys bM->ys.length<=bG->∀ (h':Heap) (c':Nat),(∀ b o',s.heap.get? b=some o'->h'.get? b=some o') ->
   h'.get? s.heap.objs.size=some { cls:=.type "list",dict:=none,data:=.seq bM.toArray c',slots:=#[] }->EP X pins σ Q (.ref s.heap.objs.size) { s with heap:=h' }:=fun bM r' hz h' c' kp e =>
  ⟨.ref s.heap.objs.size,_,I.laid (t':=s.toks) kp (aM _) (show hX X.prog X.w _ h' _ (.lst ys) from⟨hz,bM,c',r',e⟩),rfl,q _ (I.cT.fresh (aM _))⟩
 rcases hq with hq | hq
 ·obtain⟨bM,r',pl,hz⟩:=I.list hq
  have hlen:=r'.length
  obtain⟨o,ho,hc,n,hd⟩:=pl.isList
  exact call_list_seq p (.inl rfl) ho hc hd (fun h' c' kp e=>fin bM r' hz h' c' kp e) (by simp only [aZ] <;> lia)
 ·obtain⟨bM,r',pl,hz⟩:=I.tuple hq
  have hlen:=r'.length
  obtain⟨o,ho,hc,n,hd⟩:=pl
  exact call_list_seq p (.inr rfl) ho hc hd (fun h' c' kp e=>fin bM r' hz h' c' kp e) (by simp only [aZ] <;> lia)
noncomputable def tyV(K:aj)(T:String)(x:V)(H:Hp):Prop:=match x with
 | .str _=>T = "str"
 | .int _=>T = "int"
 | .ref p=>(T = "list"/\∃ xs,qt K H p xs)\/(T = "tuple"/\∃ o,K.lookup p=some o/\o.cls=.type "tuple"/\o.dict=none) \/
   (T = "dict"/\((∃ kvs,H p=some (.dK kvs))\/∃ kvs,H p=some (.dT kvs)))\/(T = "set"/\∃ S n,H p=some (.set S n))
 | _=>False
theorem Dl{pins:List (Addr×Obj)}{σ:St}{H:Hp}{s:aA}{T:String}{x:V}{v:Value}(I:Inv X pins σ H s)(r:RelV x v)(ty:tyV X.K T x H) :
  s.TypeIs v T/\∀ a,v=.ref a->∃ ob,s.heap.get? a=some ob/\ob.dict=none:=by
 cases x with
 | str z =>
  obtain⟨t,rfl⟩:=r
  cases (show T = "str" from ty)
  exact⟨typeIs_str s z t,fun _ e=>nomatch e⟩
 | int i =>
  obtain⟨t,rfl⟩:=r
  cases (show T = "int" from ty)
  exact⟨typeIs_int s i t,fun _ e=>nomatch e⟩
 | ref p =>
  cases r
  rcases ty with ⟨rfl,xs,hq⟩ | ⟨rfl,o,hk,hc,hd⟩ | ⟨rfl,hk⟩ | ⟨rfl,S,n,hk⟩
  ·obtain⟨bM,_,pl,_⟩:=I.list hq
   refine⟨pl.isList.typeIs,fun a e=>?_⟩
   cases e
   obtain⟨o,n,e,c,hd,_⟩:=pl
   exact⟨o,e,hd⟩
  ·refine⟨⟨o,I.L4 p o hk,hc⟩,fun a e=>?_⟩
   cases e
   exact⟨o,I.L4 _ o hk,hd⟩
  ·have z:∃ o,s.heap.get? p=some o/\o.ExactDict:=by
    rcases hk with ⟨kvs,hk⟩ | ⟨kvs,hk⟩
    ·obtain⟨_,_,_,_,o,_,_,e,ex,_⟩:=I.cT p _ hk
     exact⟨o,e,ex⟩
    ·obtain⟨_,_,_,_,o,_,_,e,ex,_⟩:=I.cT p _ hk
     exact⟨o,e,ex⟩
   obtain⟨o,e,ex⟩:=z
   refine⟨⟨o,e,ex.1⟩,fun a e2=>?_⟩
   cases e2
   exact⟨o,e,ex.2.1⟩
  ·obtain⟨o,_,_,_,e,ex,_⟩:=I.cT p _ hk
   refine⟨⟨o,e,ex.1⟩,fun a e2=>?_⟩
   cases e2
   exact⟨o,e,ex.2.1⟩
 | _=>exact cw ty
variable {o e:Expr} {es:List Expr} {to:TE} {t:TA} {name:Str} {apos jR:Pos} {T id:String} {r:V->List V->Hp->VK->Prop}
/- xs.append(e),list.index on a X1 tuple .. are MtR facts of 06m -/
end
noncomputable def MtM(X:Cx)(id:String)(r:V->List V->Hp->VK->Prop):Prop :=
 ∀ (pins:List (Addr×Obj)) (s:aA) (σ:St) (H:Hp) (x:V) (xs:List V) (v:Value) (us:List Value) (Q:VK),Inv X pins σ H s->RelV x v->Vals xs us->r x xs H Q ->
  wpAny (model X.prog X.w) X.A (call (.builtin id) (v :: us)) (EP X pins σ Q) X.xe s
theorem Vals.one:∀ {x:V} {us:List Value},Vals [x] us->∃ u,us=[u]/\RelV x u:=by
 intro x us h
 cases h with
 | cons r t=>cases t; exact⟨_,rfl,r⟩
section
variable {X:Cx} {pins:List (Addr×Obj)} {σ:St} {H:Hp} {s:aA} {l b:Addr} {xs ys zs:List V}
theorem Inv.VT{bM its':List Value}{n:Nat}{f:Array Value->Array Value}{t':Nat}(I:Inv X pins σ H s)(hH:H l=some (.lst xs))
  (e:s.heap.get? l=some { cls:=.type "list",data:=.seq bM.toArray n }) (hf:f bM.toArray=its'.toArray) (hv:Vals ys its') (hz:ys.length<=bG) :
  Inv X pins σ (upd H l (.lst ys)) { s with heap:=s.heap.update l (jh f),toks:=t' }:=by
 have q:=PySem.IsL.update e f
 rw [hf] at q
 refine I.write (x:=l) (e:=l) (by rw [hH]; exact trivial) (.inl rfl) (fun b' u hb hu=>(ux s.heap (jh f) (eC hb)).trans hu) ⟨_,q⟩ ?_
 exact⟨hz,its',_,hv,q⟩
theorem Inv.adn{bM:List Value}{t':Nat}(I:Inv X pins σ H s)(hv:Vals ys bM)(hz:ys.length<=bG) :
  Inv X pins σ (upd H s.heap.objs.size (.lst ys)) { s with heap:=s.heap.push { cls:=.type "list",data:=.seq bM.toArray },toks:=t' } :=
 I.laid (fun _ _ q=>aN _ q) (aM _) ⟨hz,bM,0,hv,bx _ rfl⟩
theorem Inv.VR (I:Inv X pins σ H s) (hH:H l=some (.lst xs)):xs.length<=bG/\∃ (bM:List Value) (n:Nat),Vals xs bM/\xs.length=bM.length/\s.heap.get? l=some { cls:=.type "list",data:=.seq bM.toArray n }:=by
 obtain⟨z,bM,n,r,e⟩:=I.cT l _ hH
 exact⟨z,bM,n,r,r.length,e⟩
theorem Qq{n:Nat}(h:n<=bG):jK n=false:=by
 unfold jK
 exact decide_eq_false (by lia)
end
section
variable {X:Cx}
noncomputable def S8:V->List V->Hp->VK->Prop:=fun x vs H Q=>∃ l xs y,x=.ref l/\vs=[y]/\H l=some (.lst xs)/\xs.length < bG/\Q .du (upd H l (.lst (xs++[y])))
theorem Ct:MtM X "list.append" S8:=by
 intro pins s σ H x vs v us Q I rx rv h
 obtain⟨l,xs,y,rfl,rfl,hH,hz,q⟩:=h
 cases rx
 obtain⟨u,rfl,ru⟩:=rv.one
 obtain⟨z,bM,n,r,hl,e⟩:=I.VR hH
 refine Bg F.slot_list_append ⟨_,e,rfl⟩ F.entry_list_append (F.args_list_append_2 _ _) (PySem.list_append l bM.toArray n u (by rw [aZ]; lia)) ⟨e,?_⟩
 refine⟨.du,_,I.VT (its':=bM++[u]) hH e (by simp) (r.append (.cons ru .nil)) ?_,rfl,q⟩
 rw [aq,bp]
 lia
end
section
variable {κ:Type} [DecidableEq κ]
noncomputable def ma(kvs:List (κ×V))(k:κ):Option V:=(kvs.find? fun kv=>decide (kv.1=k)).map (·.2)
noncomputable def putK(kvs:List (κ×V))(k:κ)(v:V):List (κ×V) :=
 if (kvs.any fun kv=>decide (kv.1=k))=true then kvs.map (fun kv=>if kv.1=k then (kv.1,v) else kv) else kvs++[(k,v)]
theorem qL{p:κ×V}{r:List (κ×V)}{k:κ}(e:p.1=k):ma (p :: r) k=some p.2:=by simp [ma,gq,e]
theorem qM{p:κ×V}{r:List (κ×V)}{k:κ}(e:¬ p.1=k):ma (p :: r) k=ma r k:=by simp [ma,gq,e]
theorem Fx(k:κ):∀ kvs:List (κ×V),(kvs.any fun kv=>decide (kv.1=k))=(ma kvs k).isSome
 | []=>rfl
 | p :: r=>by
  rw [lE]
  by_cases e:p.1=k
  ·simp only [qL e,decide_eq_true e,Bool.true_or,Option.isSome_some]
  ·rw [qM e,decide_eq_false e,OL]; exact Fx k r
theorem xJ(kvs:List (κ×V))(k:κ)(v:V):(putK kvs k v).length<=kvs.length+1:=by
 unfold putK
 split
 ·rw [ah]; lia
 ·rw [aq,ak,aG]; lia
theorem BS.oQ{o:Option V}{u:Option Value}(r:BS o u):o.isSome=u.isSome:=by
 cases o with
 | none=>cases u with
  | none=>rfl
  | some _=>exact(show False from r).elim
 | some _=>cases u with
  | none=>exact(show False from r).elim
  | some _=>rfl
theorem KV.val{kvs:List (κ×V)}{vs:List (κ×Value)}(r:KV kvs vs)(k:κ):BS (ma kvs k) (O1 vs k):=by
 unfold KV at r
 induction r with
 | nil=>exact i9
 | @cons p q ps qs h t ih =>
  obtain⟨h1,h2⟩:=h
  by_cases e:p.1=k
  ·have e':q.1=k:=h1.symm.trans e
   have b:O1 (q :: qs) k=some q.2:=by simp [O1,gq,e']
   rw [qL e,b]; exact h2
  ·have e':¬ q.1=k:=fun z=>e (h1.trans z)
   have b:O1 (q :: qs) k=O1 qs k:=by simp [O1,gq,e']
   rw [qM e,b]; exact ih
theorem KV.any{kvs:List (κ×V)}{vs:List (κ×Value)}(r:KV kvs vs)(k:κ):(kvs.any fun kv=>decide (kv.1=k))=vs.any fun kv=>decide (kv.1=k):=by
 unfold KV at r
 induction r with
 | nil=>rfl
 | cons h t ih=>rw [lE,lE,ih,h.1]
theorem KV.Vs{kvs:List (κ×V)}{vs:List (κ×Value)}(r:KV kvs vs)(k:κ){y:V}{u:Value}(ry:RelV y u) :
  KV (kvs.map fun kv=>if kv.1=k then (kv.1,y) else kv) (vs.map fun kv=>if kv.1=k then (kv.1,u) else kv):=by
 unfold KV at r ⊢
 induction r with
 | nil=>exact .nil
 | @cons p q ps qs h t ih =>
  rw [au,au]
  refine .cons ?_ ih
  obtain⟨h1,h2⟩:=h
  by_cases e:p.1=k
  ·rw [if_pos e,if_pos (h1.symm.trans e)]; exact⟨h1,ry⟩
  ·rw [if_neg e,if_neg (fun z=>e (h1.trans z))]; exact⟨h1,h2⟩
theorem KV.put{kvs:List (κ×V)}{vs:List (κ×Value)}(r:KV kvs vs)(k:κ){y:V}{u:Value}(ry:RelV y u):KV (putK kvs k y) (stored vs k u):=by
 unfold putK stored
 rw [r.any k]
 by_cases e:(vs.any fun kv=>decide (kv.1=k))=true
 ·rw [if_pos e,if_pos e]; exact r.Vs k ry
 ·rw [if_neg e,if_neg e]; exact Paired.snoc r ⟨rfl,ry⟩
theorem KV.length{kvs:List (κ×V)}{vs:List (κ×Value)}(r:KV kvs vs):kvs.length=vs.length:=gG r
end
theorem Av{P:ck}{w:World}{k:Key}{u:Value}(r:RelV (kV k) u):(cy P w).is k u=true:=by
 cases k with
 | inl i=>obtain⟨t,e⟩:=(show ∃ t,u=Fn i t from r); subst e; exact Gv P w i t
 | inr x=>obtain⟨t,e⟩:=(show ∃ t,u=Value.str x t from r); subst e; exact Gu P w x t
theorem CA{P:ck}{w:World}:∀ {ks:List Key} {us:List Value},Vals (ks.map kV) us->ItemsAre (cy P w) ks us
 | [],_,r=>by rw [bb] at r; cases r; exact .nil
 | k :: ks,_,r=>by
  rw [au] at r
  cases r with
  | cons h t=>exact .cons (Av h) (CA t)
noncomputable abbrev KT(H:Hp):List (List Key×V)->List (List Key×Addr×Value)->Prop:=Pc fun p q=>p.1=q.1/\H q.2.1=some (.tup (p.1.map kV))/\RelV p.2 q.2.2
theorem KT.val{H:Hp}{kvs:List (List Key×V)}{xs:List (List Key×Addr×Value)}(r:KT H kvs xs)(k:List Key):BS (ma kvs k) ((atKey xs k).map (·.2)):=by
 induction r with
 | nil=>exact i9
 | @cons p q ps qs h t ih =>
  obtain⟨h1,_,h2⟩:=h
  by_cases e:p.1=k
  ·have e':q.1=k:=h1.symm.trans e
   have b:atKey (q :: qs) k=some q.2:=by simp [atKey,gq,e']
   rw [qL e,b]; exact h2
  ·have e':¬ q.1=k:=fun z=>e (h1.trans z)
   have b:atKey (q :: qs) k=atKey qs k:=by simp [atKey,gq,e']
   rw [qM e,b]; exact ih
theorem KT.Vs{H:Hp}{kvs:List (List Key×V)}{xs:List (List Key×Addr×Value)}(r:KT H kvs xs)(k:List Key){y:V}{u:Value}(ry:RelV y u) :
  KT H (kvs.map fun kv=>if kv.1=k then (kv.1,y) else kv) (xs.map (putAt k u)):=by
 induction r with
 | nil=>exact .nil
 | @cons p q ps qs h t ih =>
  rw [au,au]
  refine .cons ?_ ih
  obtain⟨h1,h2,h3⟩:=h
  unfold putAt
  by_cases e:p.1=k
  ·rw [if_pos e,if_pos (h1.symm.trans e)]; exact⟨h1,h2,ry⟩
  ·rw [if_neg e,if_neg (fun z=>e (h1.trans z))]; exact⟨h1,h2,h3⟩
theorem KT.put{H:Hp}{kvs:List (List Key×V)}{xs:List (List Key×Addr×Value)}(r:KT H kvs xs)(k:List Key){b:Addr}{y:V}{u:Value}(hb:H b=some (.tup (k.map kV)))(ry:RelV y u) :
  KT H (putK kvs k y) (storedH xs k b u):=by
 have e:(kvs.any fun kv=>decide (kv.1=k))=(atKey xs k).isSome:=by
  rw [Fx,(r.val k).oQ,lT]
 unfold putK storedH
 rw [e]
 by_cases q:(atKey xs k).isSome=true
 ·rw [if_pos q,if_pos q]; exact r.Vs k ry
 ·rw [if_neg q,if_neg q]; exact Paired.snoc r ⟨rfl,hb,ry⟩
theorem KT.keeps{H H':Hp}{kvs:List (List Key×V)}{xs:List (List Key×Addr×Value)}(r:KT H kvs xs)(ht:∀ b ys,H b=some (.tup ys)->H' b=some (.tup ys)):KT H' kvs xs :=
 Paired.X2 r fun _ _ z=>⟨z.1,ht _ _ z.2.1,z.2.2⟩
section
variable {P:ck} {w:World} {H:Hp} {h:Heap} {a:Addr}
theorem Uy{u:HO}(ok:uz P w H h)(e:Rd H a u):hX P w H h a u:=e.ok ok
theorem vQ{kvs:List (Key×V)}(ok:uz P w H h)(e:Rd H a (.dK kvs)):kvs.length<=bG/\(a == e6)=false/\∃ vs,KV kvs vs/\h.DictOf (cy P w) a vs :=
 show hX P w H h a (.dK kvs) from Uy ok e
theorem Mu{kvs:List (Key×V)}(ok:uz P w H h)(e:H a=some (.dK kvs)):kvs.length<=bG/\(a == e6)=false/\∃ vs,KV kvs vs/\h.DictOf (cy P w) a vs:=vQ ok (.inl e)
theorem tT{ks:List Key}(ok:uz P w H h)(e:H a=some (.tup (ks.map kV))):(d8 (cy P w)).is h ks a:=by
 obtain⟨_,bM,r,o,h1,h2,n,h3⟩:=(show hX P w H h a (.tup (ks.map kV)) from ok a _ e)
 exact⟨o,bM.toArray,n,h1,h2,h3,by simpa using CA r⟩
theorem xQ{kvs:List (List Key×V)}(ok:uz P w H h)(e:Rd H a (.dT kvs)):kvs.length<=bG/\(a == e6)=false /\
  ∃ xs,KT H kvs xs/\h.DictOfH (d8 (cy P w)) a xs:=by
 obtain⟨z,y,xs,r,o,es,ep,h1,h2,h3,h4,h5⟩:=(show hX P w H h a (.dT kvs) from Uy ok e)
 refine⟨z,y,xs,r,o,es,ep,h1,h2,h3,h4,fun x hx=>?_,h5⟩
 have all:∀ {l:List (List Key×V)} {m:List (List Key×Addr×Value)},KT H l m->∀ x∈m,(d8 (cy P w)).is h x.1 x.2.1:=by
  intro l m q
  induction q with
  | nil=>intro x hx; exact nomatch hx
  | @cons p q ps qs hq t ih =>
   intro x hx
   rcases List.mem_cons.mp hx with e | hx
   ·subst e
    exact tT ok (by rw [← hq.1]; exact hq.2.1)
   ·exact ih x hx
 exact all r x hx
theorem Rp{kvs:List (List Key×V)}(ok:uz P w H h)(e:H a=some (.dT kvs)):kvs.length<=bG/\(a == e6)=false /\
  ∃ xs,KT H kvs xs/\h.DictOfH (d8 (cy P w)) a xs:=xQ ok (.inl e)
end
noncomputable def Bc(H:Hp)(a:Addr)(y:V)(r:Option V):Prop :=
 (∃ kvs k,Rd H a (.dK kvs)/\y=kV k/\r=ma kvs k)\/∃ kvs k b,Rd H a (.dT kvs)/\y=.ref b/\H b=some (.tup (k.map kV))/\r=ma kvs k
noncomputable def Oz(H:Hp)(a:Addr)(y v:V)(H':Hp):Prop :=
 (∃ kvs k,H a=some (.dK kvs)/\y=kV k/\kvs.length < bG/\H'=upd H a (.dK (putK kvs k v))) \/
 ∃ kvs k b,H a=some (.dT kvs)/\y=.ref b/\H b=some (.tup (k.map kV))/\kvs.length < bG/\H'=upd H a (.dT (putK kvs k v))
theorem Bc.k{H:Hp}{a:Addr}{kvs:List (Key×V)}{k:Key}(e:H a=some (.dK kvs)):Bc H a (kV k) (ma kvs k):=.inl ⟨kvs,k,.inl e,rfl,rfl⟩
theorem Bc.t{H:Hp}{a b:Addr}{kvs:List (List Key×V)}{k:List Key}(e:H a=some (.dT kvs))(eb:H b=some (.tup (k.map kV))):Bc H a (.ref b) (ma kvs k):=.inr ⟨kvs,k,b,.inl e,rfl,eb,rfl⟩
theorem Oz.k{H:Hp}{a:Addr}{kvs:List (Key×V)}{k:Key}{v:V}(e:H a=some (.dK kvs))(hl:kvs.length < bG):Oz H a (kV k) v (upd H a (.dK (putK kvs k v))):=.inl ⟨kvs,k,e,rfl,hl,rfl⟩
theorem Oz.t{H:Hp}{a b:Addr}{kvs:List (List Key×V)}{k:List Key}{v:V}(e:H a=some (.dT kvs))(eb:H b=some (.tup (k.map kV)))(hl:kvs.length < bG) :
  Oz H a (.ref b) v (upd H a (.dT (putK kvs k v))):=.inr ⟨kvs,k,b,e,rfl,eb,hl,rfl⟩
section
variable {X:Cx} {pins:List (Addr×Obj)} {σ:St} {H:Hp} {s:aA} {a:Addr} {y v:V} {u r:Value} {o:Option V} {A:eF} {E:Value->aA->Prop}
theorem Inv.big(I:Inv X pins σ H s):e6 < s.heap.objs.size:=by
 have h:aY < s.heap.objs.size:=(I.mod.glob.keeps I.bk).lt
 exact Sy (by decide) h
theorem xb{Q:Value->aA->Prop}(hu:A.units+1 < cLine)(I:Inv X pins σ H s)(g:Bc H a y (some v))(ry:RelV y u)(h:∀ w' s',Inv X pins σ H s'->RelV v w'->Q w' s') :
  wpAny (model X.prog X.w) A (getItem (.ref a) u) Q E s:=by
 rcases g with ⟨kvs,k,e,ey,l⟩ | ⟨kvs,k,b,e,ey,eb,l⟩
 ·subst ey
  obtain⟨z,hd,vs,rel,dd⟩:=vQ I.cT e
  obtain⟨w',hw,tK⟩:=BS.some_of (v:=v) (o:=O1 vs k) (by rw [l]; exact rel.val k)
  exact wpAny_getItem_of (Av ry) dd.mapOf hw (h w' _ (I.tok _) tK)
 ·subst ey
  cases (show u=fx b from ry)
  obtain⟨z,hd,xs,rel,dd⟩:=xQ I.cT e
  obtain⟨w',hw,tK⟩:=BS.some_of (v:=v) (o:=(atKey xs k).map (·.2)) (by rw [l]; exact rel.val k)
  obtain⟨p,hp,hp2⟩:=Option.map_eq_some_iff.mp hw
  refine wpAny_getItem_heap (sW hu) (tT I.cT eb) dd hp ?_
  rw [hp2]
  exact h w' _ (I.tok _) tK
theorem Y1{Q:Value->aA->Prop}(hu:A.units+1 < cLine)(I:Inv X pins σ H s)(g:Bc H a y o)(ry:RelV y u)(h:∀ s',Inv X pins σ H s'->Q (.bool o.isSome) s') :
  wpAny (model X.prog X.w) A (ff .In u (.ref a)) Q E s:=by
 rcases g with ⟨kvs,k,e,ey,l⟩ | ⟨kvs,k,b,e,ey,eb,l⟩
 ·subst ey
  obtain⟨z,hd,vs,rel,dd⟩:=vQ I.cT e
  refine wpAny_in_of (Av ry) hd dd.mapOf ?_
  rw [← (rel.val k).oQ,← l]
  exact h _ (I.tok _)
 ·subst ey
  cases (show u=fx b from ry)
  obtain⟨z,hd,xs,rel,dd⟩:=xQ I.cT e
  refine wpAny_in_heap (sW hu) (tT I.cT eb) hd dd ?_
  have q:=(rel.val k).oQ
  rw [lT] at q
  rw [← q,← l]
  exact h _ (I.tok _)
theorem MA{Q:Value->aA->Prop}(hu:A.units+1 < cLine)(I:Inv X pins σ H s)(g:Bc H a y o)(ry:RelV y u)(h:∀ s',Inv X pins σ H s'->Q (.bool (!o.isSome)) s') :
  wpAny (model X.prog X.w) A (ff .NotIn u (.ref a)) Q E s:=by
 rcases g with ⟨kvs,k,e,ey,l⟩ | ⟨kvs,k,b,e,ey,eb,l⟩
 ·subst ey
  obtain⟨z,hd,vs,rel,dd⟩:=vQ I.cT e
  refine wpAny_notIn_of (Av ry) hd dd.mapOf ?_
  rw [← (rel.val k).oQ,← l]
  exact h _ (I.tok _)
 ·subst ey
  cases (show u=fx b from ry)
  obtain⟨z,hd,xs,rel,dd⟩:=xQ I.cT e
  refine wpAny_notIn_heap (sW hu) (tT I.cT eb) hd dd ?_
  have q:=(rel.val k).oQ
  rw [lT] at q
  rw [← q,← l]
  exact h _ (I.tok _)
theorem Ey{h':Heap}{t':Nat}{ob:HO}(I:Inv X pins σ H s)(mu:ZD (H a))(hs:gM a s.heap h')(he:∃ q,h'.get? a=some q)(new:hX X.prog X.w (upd H a ob) h' a ob) :
  Inv X pins σ (upd H a ob) { s with heap:=h',toks:=t' } :=
 I.write (x:=a) (e:=a) mu (.inl rfl) (fun b q hb z=>(hs.2 b hb).trans z) he new
theorem Wq{P:ck}{w:World}{H':Hp}{h':Heap}{kvs:List (Key×V)}{vs:List (Key×Value)}(z:kvs.length<=bG)(hd:(a == e6)=false)(rel:KV kvs vs)(dd:h'.DictOf (cy P w) a vs) :
  hX P w H' h' a (.dK kvs):=⟨z,hd,vs,rel,dd⟩
theorem Od{H':Hp}{Q:Unit->aA->Prop}(hu:A.units+1 < cLine)(I:Inv X pins σ H s)(g:Oz H a y v H')(ry:RelV y u)(rv:RelV v r)(h:∀ s',Inv X pins σ H' s'->Q () s') :
  wpAny (model X.prog X.w) A (setItem (.ref a) u r) Q E s:=by
 rcases g with ⟨kvs,k,e,ey,l,eH⟩ | ⟨kvs,k,b,e,ey,eb,l,eH⟩
 ·subst ey eH
  obtain⟨z,hd,vs,rel,dd⟩:=Mu I.cT e
  have hz:vs.length<=bG:=by rw [← rel.length]; exact z
  have hl:(putK kvs k v).length<=bG:=by have:=xJ kvs k v; lia
  refine wpAny_setItem_pairs (hsz:=hz) (Av ry) dd fun h' dd' hs=>h _ ?_
  have he:∃ q,h'.get? a=some q:=let ⟨q,_,_,hq,_⟩:=dd'; ⟨q,hq⟩
  exact Ey I (by rw [e]; exact i9) hs he (Wq hl hd (rel.put k rv) dd')
 ·subst ey eH
  cases (show u=fx b from ry)
  obtain⟨z,hd,xs,rel,dd⟩:=Rp I.cT e
  have hz:xs.length<=bG:=by rw [← gG rel]; exact z
  have hl:(putK kvs k v).length<=bG:=by have:=xJ kvs k v; lia
  refine wpAny_setItem_heap (hsz:=hz) (sW hu) (tT I.cT eb) dd fun h' dd' hs=>h _ ?_
  obtain⟨q,es,ep,hq,h2,h3,h4,_,h5⟩:=dd'
  refine Ey I (by rw [e]; exact i9) hs ⟨q,hq⟩ ⟨hl,hd,_,(rel.put k eb rv).keeps fun c ys ec=>?_,q,es,ep,hq,h2,h3,h4,h5⟩
  rw [cu (XZ ec e (fun z=>nomatch z))]
  exact ec
end
section
variable {X:Cx} {pins:List (Addr×Obj)} {σ:St} {H:Hp} {s:aA} {a:Addr} {kvs:List (Key×V)} {k:Key} {u:Value} {A:eF} {E:Value->aA->Prop}
theorem US {Q:Value->aA->Prop} (I:Inv X pins σ H s) (e:Rd H a (.dK kvs)) (h:∀ t s',Inv X pins σ H s'->Q (.int kvs.length t) s'):wpAny (model X.prog X.w) A (call (.builtin "len") [.ref a]) Q E s:=by
 obtain⟨z,hd,vs,rel,dd⟩:=vQ I.cT e
 refine call_len_dict hd dd (by rw [← rel.length]; rw [cN] at z; lia) ?_
 rw [← rel.length]
 exact h _ _ (I.tok _)
theorem T6{Q:Bool->aA->Prop}(I:Inv X pins σ H s)(e:Rd H a (.dK kvs))(h:∀ s',Inv X pins σ H s'->Q (!kvs.isEmpty) s'):wpAny (model X.prog X.w) A (truthy (.ref a)) Q E s:=by
 obtain⟨z,hd,vs,rel,dd⟩:=vQ I.cT e
 refine Jc hd dd (by rw [← rel.length]; rw [cN] at z; lia) ?_
 have q:kvs.isEmpty=vs.isEmpty:=by cases rel <;> rfl
 rw [← q]
 exact h _ (I.tok _)
end
theorem rN {X:Cx} {pins:List (Addr×Obj)} {σ:St} {H:Hp} {s:aA} {a:Addr} {y:V} {o:Option V} (I:Inv X pins σ H s) (g:Bc H a y o):s.TypeIs (.ref a) "dict":=by
 rcases g with ⟨kvs,k,e,_,_⟩ | ⟨kvs,k,b,e,_,_,_⟩
 ·obtain⟨_,_,vs,_,dd⟩:=vQ I.cT e
  exact dd.typeIs
 ·obtain⟨_,_,xs,_,dd⟩:=xQ I.cT e
  exact dd.typeIs
theorem Ru {P:ck} {w:World} {H:Hp} (h:Heap) (hb:e6 < h.objs.size):hX P w H (h.push { cls:=.type "dict",data:=.dict #[] }) h.objs.size (.dK []) :=
 ⟨cJ _,beq_eq_false_iff_ne.mpr (eC (bT hb)),[],.nil,Heap.DictOf.new h⟩
noncomputable def U9:TE:=fun _ H Q=>∀ p,H p=none->Q (.ref p) (upd H p (.dK []))
section
variable {X:Cx} {pos:Pos}
theorem Qg:PE X (.Dict [] [] pos) U9:=fun pins s σ H Q I h =>
 wpAny_Dict_empty ⟨.ref s.heap.objs.size,_,I.laid (a:=s.heap.objs.size) (o:=.dK []) (t':=s.toks) (fun _ _ q=>aN _ q) (aM _) (Ru s.heap I.big),rfl,h _ (I.cT.fresh (aM _))⟩
end
structure M1(X:Cx)(o:Expr)(m:Str)(apos:Pos)(e:Expr)(jR:Pos):Prop where
 base:wx o m X.env (eval o X.env)=eval o X.env
 mU:((kS jR (cB [e] X.env)).all (fun x=>!x.1)&&(backToKw jR (keywordEach [] X.env)).all (fun x=>x.1.isSome)
  && decide (([e]:List Expr).length+([]:List Pg).length+(if ([]:List Pg).isEmpty then 0 else 1) < 30))=true
 line:(apos.endLine == jR.line)=true
 trees:kS jR (cB [e] X.env)=[(false,eval e X.env)]
structure M2(X:Cx)(o:Expr)(m:Str)(apos:Pos)(e f:Expr)(jR:Pos):Prop where
 base:wx o m X.env (eval o X.env)=eval o X.env
 mU:((kS jR (cB [e,f] X.env)).all (fun x=>!x.1)&&(backToKw jR (keywordEach [] X.env)).all (fun x=>x.1.isSome)
  && decide (([e,f]:List Expr).length+([]:List Pg).length+(if ([]:List Pg).isEmpty then 0 else 1) < 30))=true
 line:(apos.endLine == jR.line)=true
 trees:kS jR (cB [e,f] X.env)=[(false,eval e X.env),(false,eval f X.env)]
noncomputable def IsD(H:Hp)(a:Addr):Prop:=(∃ kvs,Rd H a (.dK kvs))\/∃ kvs,Rd H a (.dT kvs)
theorem QI{X:Cx}{pins:List (Addr×Obj)}{σ:St}{H:Hp}{s:aA}{a:Addr}(I:Inv X pins σ H s)(d:IsD H a) :
  s.TypeIs (.ref a) "dict"/\(∀ b,fx a=.ref b->∃ ob,s.heap.get? b=some ob/\ob.dict=none)/\(a == e6)=false:=by
 rcases d with ⟨kvs,e⟩ | ⟨kvs,e⟩
 ·obtain⟨_,hd,vs,_,dd⟩:=vQ I.cT e
  refine⟨dd.typeIs,fun b q=>?_,hd⟩
  cases q
  obtain⟨ob,_,_,h1,h2,_⟩:=dd
  exact⟨ob,h1,h2.2.1⟩
 ·obtain⟨_,hd,xs,_,dd⟩:=xQ I.cT e
  refine⟨dd.typeIs,fun b q=>?_,hd⟩
  cases q
  obtain⟨ob,_,_,h1,h2,_⟩:=dd
  exact⟨ob,h1,h2.2.1⟩
end L2
namespace Att
open PySem PySem.W PySem.Calls PyProof.Rows
theorem yk{P:Params}{h:Heap}:∀ (ns:List Int) (vs:List Value),WellAll P h vs (ns.map WData.int)->o7 vs ns:=by
 intro ns
 induction ns with
 | nil =>
  intro vs w
  rw [bb] at w
  cases w
  exact .nil
 | cons n ns ih =>
  intro vs w
  rw [au] at w
  cases w with
  | cons a b =>
   cases a
   exact .cons _ _ (ih _ b)
theorem M8{l:OpenLaw}{n:Nat}(hn:l.most=some n){P:Params}{h:Heap}{args:List WData}{vals:List Value}
  (NT:l.row.toRowW.claim.pre args=true) (hwl:WellAll P h vals args) :
  ∃ a vs ns,vals=[fx a]/\args=[WData.list (ns.map WData.int)]/\h.get? a=some { cls:=.type "list",data:=.seq vs.toArray }/\o7 vs ns/\ns.length<=n:=by
 have hsh:WShape.hasAll [] args [.list .int]=true:=(pre_splitW NT).1
 have hc:l.pre.holds [] { args:=args } = true:=(pre_splitW NT).2
 obtain⟨d,r,rfl,h1,h2⟩:=hasAllW_cons hsh
 obtain rfl:=hasAllW_nil h2
 obtain⟨xs,rfl,h3⟩:=hasW_list h1
 obtain⟨ns,rfl⟩:=items_int h3
 have hlen:ns.length<=n:=by
  unfold OpenLaw.pre at hc
  have h4:(WTm.not (.lt (.lit (.int (n:Int))) (.len (.arg 0)))).holds [] { args:=[.list (ns.map .int)] } = true:=by
   have h4:=(holds_andW hc).1
   rw [hn] at h4
   exact h4
  have h5:=condW_of h4 (w_not (w_lt w_lit (w_len_list (w_arg rfl))))
  rw [ah] at h5
  refine Nat.le_of_not_lt fun q=>?_
  have q':(n:Int) < ((ns.length:Nat):Int):=by lia
  first
   | (rw [decide_eq_true q'] at h5; exact absurd h5 (by decide))
   | (simp at h5; lia)
 cases hwl with
 | cons w1 w2 =>
  cases w2
  cases w1 with
  | list ho rE=>exact⟨_,_,ns,rfl,rfl,ho,yk ns _ rE,hlen⟩
theorem Nl(l:OpenLaw)(args:List WData):l.row.toRowW.claim.post args (.bool true) args=true :=
 postW_of (r:=l.row.toRowW) (X:=(true == true))
  (show WShape.has [] (.bool true) .bool=true by first | rfl | decide | simp [WShape.has,WShape.arms,WShape.armsAll])
  (show (WTm.eq .res (.lit (.bool true))).value [] { args:=args,res:=some (.bool true),after:=args } = some (.bool (true == true)) from w_eq_bool (w_res rfl) w_lit) rfl
theorem Iq{l:OpenLaw}{n:Nat}{q:ck}{loose:List Str}{XP:(Str->Option Value)->Heap->Prop}{YP:World->Heap->Prop}{d:DefRec}
  (hn:l.most=some n) (YB:d.params.defaults=[])
  (call:∀ (w:World) (ny gr:aA) (mg mb:Str->Option Value) (fa:Addr) (o:Obj) (pm cd doc:Value) (a:Addr) (vs:List Value) (ns:List Int),
   Ground q loose [] XP w ny mg mb gr.heap->YP w gr.heap ->
   gr.heap.get? fa=some o->o.data=.func (docDef d.name d.params d.body d.scope pm cd doc)->gr.heap.CodeRec cd d.name->mg d.name=some (.ref fa) ->
   gr.heap.get? a=some { cls:=.type "list",data:=.seq vs.toArray }->o7 vs ns->ns.length<=n->gr.gens=#[] ->
   y8 (model l.prog w) Jg (.call (.ref fa) ⟨[.ref a],[]⟩) (fun r s'=>r=.ok (.ret (.bool true))/\OldK gr.heap s'.heap/\s'.os=gr.os/\Df s'.gens) gr) :
  WalkO q loose XP YP l.row.toRowW d [] (fun f vs=>Le f vs):=by
 intro w ny gr mg mb G Y fa o pm cd doc dV kV ho hd Kt hD Yr hg args vals as NT alE hrd hwl hlo
 obtain rfl:dV=.none:=Dflts.none hD YB
 obtain rfl:kV=.none:=Dflts.noKw hD
 obtain⟨a,vs,ns,rfl,rfl,V8,hints,hlen⟩:=M8 hn NT hwl
 refine enter_call (yZ (call w ny gr mg mb fa o pm cd doc a vs ns G Y ho (fd_plain hd) Kt Yr V8 hints hlen hg) fun r s' hq=>?_)
 obtain⟨rfl,h2,h3,h4⟩:=hq
 exact⟨.inl ⟨.bool true,.bool true,[],rfl,fun _=>rfl,.bool true,Nl l _,fun _=>⟨List.Pairwise.nil,fun _ hm=>(nomatch hm)⟩⟩,h2,h3,h4⟩
end Att
namespace L2
open PySem PySem.Spec PyProof.Rows
theorem B3:∀ {vs:List Value} {ns:List Int},o7 vs ns->Vals (ns.map V.int) vs
 | _,_,.nil=>.nil
 | _,_,.cons n t h=>.cons ⟨t,rfl⟩ (B3 h)
noncomputable def Uk(H:Hp):Prop:=∀ b,H b=none\/∃ o xs,H b=some (.lW o (.lst xs))
theorem QB{P:ck}{w:World}{K:aj}{mg mb:Str->Option Value}{CX:OY}{k:Nat}{fa a:Addr}{fd:bc}{x:Str}{sp:Sp}{gr:aA}{vs:List Value}{ns:List Int}
  (KX:K.In gr.heap) (Si:gr.heap.Ns aY mg) (hb:gr.heap.Ns builtinsNs mb) (hbb:∀ x:Str,x≠"__name__"->mb x=eR x) (aeH:gr.heap.NoLimit) (hg:gr.gens=#[])
  (ha:gr.heap.get? a=some { cls:=.type "list",data:=.seq vs.toArray }) (hi:o7 vs ns) (hl:ns.length<=bG) (hr:nc k Jg)
  (F:∀ base:Heap,K.In base->base.Ns aY mg->dI P w K mg base CX k fa fd [x] sp) (YD:∀ (s:aA) (u:Value),Ph s fd ⟨[u],[]⟩ [(x,u)])
  (QS:∀ H:Hp,Uk H->qt K H a (ns.map V.int)->sp [.ref a] H (fun v _=>v=.bl true) fun _ _ _=>False)
  (hCX:∀ H e s',CX [] H gr (fun _ _ _=>False) e s'->False) :
  y8 (model P w) Jg (.call (.ref fa) ⟨[.ref a],[]⟩) (fun r s'=>r=.ok (.ret (.bool true))/\OldK gr.heap s'.heap/\s'.os=gr.os/\Df s'.gens) gr:=by
 have rv:=B3 hi
 have ado:=hi.length
 have core:∀ H:Hp,Uk H->qt K H a (ns.map V.int)->uz P w H gr.heap->(∀ b,H b≠none->b=a)->(H a≠none->K.lookup a=none) ->
   y8 (model P w) Jg (.call (.ref fa) ⟨[.ref a],[]⟩) (fun r s'=>r=.ok (.ret (.bool true))/\OldK gr.heap s'.heap/\s'.os=gr.os/\Df s'.gens) gr:=by
  intro H hO hS cT hA hK
  have ME:∀ {b:Addr} {o:Obj},gr.heap.get? b=some o->H b=none->(Eg gr.heap H).get? b=some o:=fun e n=>Q3 e n
  have XY:∀ {b:Addr} {o:Obj} {es:Array ip} {ep:Nat},gr.heap.get? b=some o->o.data=.dict es ep->H b=none:=fun {b o es ep} e d=>by
   cases q:H b with
   | none=>rfl
   | some u =>
    have e':b=a:=hA b (by rw [q]; simp)
    subst e'
    rw [ha] at e; cases e
    have d':Data.seq vs.toArray _=Data.dict es ep:=d
    cases d'
  have ZT:∀ {b:Addr} {m:Str->Option Value},gr.heap.Ns b m->(Eg gr.heap H).Ns b m:=fun {b m} ⟨o,es,ep,e,d,r⟩=>⟨o,es,ep,ME e (XY e d),d,r⟩
  have hKb:K.In (Eg gr.heap H):=fun b o e=>ME (KX b o e) (by
   cases q:H b with
   | none=>rfl
   | some u =>
    have e':b=a:=hA b (by rw [q]; simp)
    subst e'
    rw [hK (by rw [q]; simp)] at e; cases e)
  have hM:Mod K mg (Eg gr.heap H):=⟨hKb,ZT Si,⟨mb,ZT hb,hbb⟩,let ⟨mc,h1,h2⟩:=aeH; ⟨mc,ZT h1,h2⟩⟩
  have e0:Uq P w K mg (Eg gr.heap H) Jg [] gr H:=⟨rfl,hM,fun b o e=>Tu e,Nat.le_of_eq (NW _ _),trivial,fun b hb=>absurd (show b∈([]:List Addr) from hb) (by simp),cT,.of_eq hg⟩
  refine yZ ((F _ hKb (ZT Si)).run Jg [] gr H ⟨[.ref a],[]⟩ [.ref a] [.ref a] _ _ hr e0 (YD gr (.ref a)) (.cons rfl .nil) (QS H hO hS)) fun r s' h=>?_
  cases r with
  | error e=>exact(hCX H e s' h).elim
  | ok fl =>
   cases fl with
   | next=>exact cw h
   | brk=>exact cw h
   | cont=>exact cw h
   | ret u =>
    obtain⟨v,H',os,bare,un,aeC,r',q⟩:=h
    have q':v=.bl true:=q
    subst q'
    obtain rfl:u=Bo true:=r'
    refine⟨rfl,OldK.of_keep fun b o e=>?_,os,bare⟩
    cases q:H b with
    | none=>exact un.keep b o e q (by intro z; exact absurd (show b∈([]:List Addr) from z) (by simp)) (by simp)
    | some u =>
     rcases hO b with z | ⟨ob,xs,z⟩
     ·rw [q] at z; cases z
     ·have z2:=un.vL b ob _ z
      obtain⟨e1,_⟩:=cT b _ z
      obtain⟨e2,_⟩:=aeC b _ z2
      rw [e] at e1; cases e1
      exact e2
 cases hk:K.lookup a with
 | some o =>
  have e:=KX a o hk
  rw [ha] at e
  cases e
  refine core (fun _=>none) (fun _=>.inl rfl) (.inr ⟨_,vs.toArray,_,hk,rfl,rfl,rfl,by rw [aZ,ado]; exact hl,by simpa using rv⟩) (fun b u z=>by have z':(none:Option HO)=some u:=z; cases z') (fun b z=>absurd rfl z) fun z=>absurd rfl z
 | none =>
  refine core (fun b=>if b=a then some (.lW { cls:=.type "list",data:=.seq vs.toArray } (.lst (ns.map V.int))) else none) (fun b=>?_) (.inl (.inr ⟨{ cls:=.type "list",data:=.seq vs.toArray },if_pos rfl⟩)) (fun b u z=>?_) (fun b z=>?_) fun _=>hk
  ·by_cases hb:b=a
   ·exact .inr ⟨_,_,if_pos hb⟩
   ·exact .inl (if_neg hb)
  ·by_cases hb:b=a
   ·have z':=(if_pos hb).symm.trans z
    cases z'
    subst hb
    exact⟨ha,by rw [ah]; exact hl,vs,_,rv,ha⟩
   ·have z':=(if_neg hb).symm.trans z
    cases z'
  ·by_cases hb:b=a
   ·exact hb
   ·exact absurd (if_neg hb) z
theorem SH{l:C7}{n k:Nat}{q:ck}{loose:List Str}{XP:(Str->Option Value)->Heap->Prop}{YP:World->Heap->Prop}{d:DefRec}{K:Params->aj}{CX:World->OY}{sp:World->Sp}{x:Str}
  (hn:l.most=some n) (hn2:n<=bG) (YB:d.params.defaults=[]) (hr:nc k Jg)
  (hY:∀ (w:World) (h:Heap),YP w h->(K w.params).In h)
  (F:∀ (w:World) (mg:Str->Option Value) (fa:Addr) (h:Heap),(K w.params).In h->h.Ns aY mg->mg d.name=some (.ref fa) ->
   ∃ fd:bc,(∀ (s:aA) (u:Value),Ph s fd ⟨[u],[]⟩ [(x,u)]) /\
    ∀ base:Heap,(K w.params).In base->base.Ns aY mg->dI l.prog w (K w.params) mg base (CX w) k fa fd [x] (sp w))
  (QS:∀ (w:World) (H:Hp) (a:Addr) (ns:List Int),ns.length<=n->Uk H->qt (K w.params) H a (ns.map V.int)->sp w [.ref a] H (fun v _=>v=.bl true) fun _ _ _=>False)
  (hCX:∀ (w:World) (H:Hp) (s:aA) (e:Value) (s':aA),CX w [] H s (fun _ _ _=>False) e s'->False) :
  PySem.W.WalkO q loose XP YP l.row.toRowW d [] (fun f vs=>Le f vs):=by
 refine Att.Iq hn YB fun w ny gr mg mb fa o pm cd doc a vs ns G Y ho hd Kt Yr V8 hints hlen hg=>?_
 have KX:=hY w _ Y
 obtain⟨fd,hb,hF⟩:=F w mg fa _ KX G.T.g Yr
 exact QB KX G.T.g G.T.b G.T.builtins G.T.nolimit hg V8 hints (cG hlen hn2) hr hF hb (fun H hO hS=>QS w H a ns hlen hO hS) fun H e s'=>hCX w H gr e s'
end L2
/- THE anz aaD (shape; LID,My.* are ahA):
   My.Adr: a structure of the addresses ajB aju ah4 names (classes,W8); My.Txt K t: a structure (Prop) of the equations over K;
   My.aaN:{K} {implicit addresses ..} (e1:nsIn K aY "law" = some (some (.ref f))) (e2:K.lookup f=some ⟨oc,od,.func (fnOf "law" "law" params body scope dV kV doc pm an so ct),sl⟩) (e3:codeIn K so "law" = true) ..:∃ t,My.Txt K t
(the tactic k_is has no namespace: write k_is) -/
namespace L2
open PySem PySem.Spec PyProof.Rows
noncomputable def bE(s:Stmt):Arguments:=match s with
 | .FunctionDef _ a _ _ _ _ _ _ _ _=>a
 | _=>{ posonlyargs:=[],args:=[],vararg:=none,kwonlyargs:=[],kw_defaults:=[],kwarg:=none,defaults:=[] }
noncomputable def bD(s:Stmt):List Stmt:=match s with
 | .FunctionDef _ _ b _ _ _ _ _ _ _=>b
 | _=>[]
noncomputable def aC(s:Stmt):Scope:=match s with
 | .FunctionDef _ _ _ _ _ _ sc _ _ _=>sc
 | _=>{ kind:=.function,names:=[],isGenerator:=false,isCoroutine:=false }
noncomputable abbrev gX:OY:=fun _ _ _ _ _ _=>False
noncomputable abbrev E0:XK:=fun _ _ _=>False
theorem XG{X:Cx}:Passes gX X E0:=fun _ _ _ _ _ _ _ h=>h.elim
structure o3(K:aj)(x qual:Str)(st:Stmt)(f:Addr)(fd:bc):Prop where
 ex:∃ (oc:Value) (od:Option Addr) (kV doc pm:Value) (an:Option Addr) (so ct:Value) (UC:Array (Option Value)),
  fd=aL x qual (bE st) (bD st) (aC st) .none kV doc pm an so ct/\K.lookup f=some ⟨oc,od,.func fd,UC⟩/\bB K so qual=true
 kp:aB K (.ref f)=true
section
variable {P:ck} {w:World} {K:aj} {mg:Str->Option Value} {base:Heap}
theorem o3.ok{x qual:Str}{st:Stmt}{f:Addr}{fd:bc}{N ps:List Str}{k:Nat}{sp:Sp}(F:o3 K x qual st f fd)(S:cV N ps (aC st))(len:∀ vs H Q E,sp vs H Q E->vs.length=ps.length)
  (Q5:∀ (so:Value) (A:eF) (outer:List Env) (s:aA) (H:Hp) (vs:List V) (Q:VK) (E:XK),nc k (A.deeper (Fj qual (aC st) s.heap.objs.size f so))->sp vs H Q E ->
   ∃ t,Xf (HV gX P w K mg base N qual (aC st) f so A outer s H E).WW (bD st) t/\t { nx:=fun _ H'=>Q .du H',rt:=Q } (start N vs) H):dI P w K mg base gX (k+1) f fd ps sp:=by
 obtain⟨oc,od,kV,doc,pm,an,so,ct,UC,rfl,lk,Kt⟩:=F.ex
 refine YR lk Kt S len fun A outer s H vs Q E hr QS=>?_
 obtain⟨t,h,q⟩:=Q5 so A outer s H vs Q E hr QS
 exact⟨t,h.WW,q⟩
theorem o3.binds{x qual:Str}{st:Stmt}{f:Addr}{fd:bc}{ps:List Str}(F:o3 K x qual st f fd)
  (h:∀ (kV doc pm:Value) (an:Option Addr) (so ct:Value) (us:List Value),us.length=ps.length->bindArgs (aL x qual (bE st) (bD st) (aC st) .none kV doc pm an so ct) ⟨us,[]⟩=pure (ps.zip us)):Binds K fd ps []:=by
 obtain⟨oc,od,kV,doc,pm,an,so,ct,UC,rfl,lk,Kt⟩:=F.ex
 exact .all (h kV doc pm an so ct)
theorem eM{x qual:Str}{st:Stmt}{f:Addr}{oc:Value}{od an:Option Addr}{UC:Array (Option Value)}{kV doc pm so ct:Value}(l:K.lookup f=some ⟨oc,od,.func (aL x qual (bE st) (bD st) (aC st) .none kV doc pm an so ct),UC⟩)
  (c:bB K so qual=true) (k:aB K (.ref f)=true):o3 K x qual st f (aL x qual (bE st) (bD st) (aC st) .none kV doc pm an so ct):=⟨⟨oc,od,kV,doc,pm,an,so,ct,UC,rfl,l,c⟩,k⟩
end
end L2
set_option autoImplicit false
section
namespace K2
open PySem (Str)
inductive D where
 | du | bl (b:Bool) | int (i:Int) | str (x:Str) | tup (ds:List D) | fG (ds:List D) | kg (kvs:List (D×D)) | ref (a:Nat) | exc (c:Str)
 deriving Inhabited
inductive GO where
 | lst (ds:List D)
 | iO (kvs:List (D×D))
noncomputable abbrev Gp:=Nat->Option GO
noncomputable def fK(G:Gp)(a:Nat)(o:GO):Gp:=fun b=>if b=a then some o else G b
theorem aO{G:Gp}{a:Nat}{o:GO}:fK G a o a=some o:=by unfold fK; rw [if_pos rfl]
theorem dU{G:Gp}{a b:Nat}{o:GO}(h:b≠a):fK G a o b=G b:=by unfold fK; rw [if_neg h]
noncomputable abbrev SZ:Nat:=16777216
structure Ex where
 cls:Str
 amm:List (Str×D)
noncomputable abbrev lP:=Ex->Gp->Prop
noncomputable abbrev iH:=List (Option D)
noncomputable abbrev DK:=D->Gp->Prop
noncomputable abbrev gI:=lP->iH->Gp->DK->Prop
noncomputable abbrev yr:=lP->iH->Gp->(Bool->Gp->Prop)->Prop
noncomputable abbrev Iy:=lP->iH->Gp->(List D->Gp->Prop)->Prop
structure lX where
 nx:iH->Gp->Prop
 rt:DK
 bk:iH->Gp->Prop
 ct:iH->Gp->Prop
noncomputable abbrev iT:=lP->lX->iH->Gp->Prop
noncomputable abbrev oe:=List D->Gp->DK->lP->Prop
noncomputable abbrev BU:=D->D->Gp->DK->Prop
noncomputable def Ef(n:Nat)(i:Int):Option Nat:=if 0<=i then (if i < n then some i.toNat else none) else if -(n:Int)<=i then some (i+n).toNat else none
noncomputable def oz{α:Type}(xs:List α)(i:Int):Option α:=(Ef xs.length i).bind fun j=>xs[j]?
noncomputable def jM(n d:Nat):Option Int->Nat
 | none=>d
 | some v=>if v < 0 then (v+(n:Int)).toNat else min v.toNat n
noncomputable def cut{α:Type}(xs:List α)(lo hi:Option Int):List α:=(xs.drop (jM xs.length 0 lo)).take (jM xs.length xs.length hi - jM xs.length 0 lo)
mutual
noncomputable def i7:D->D->Bool
 | .du,.du=>true
 | .bl a,.bl b=>a == b
 | .bl a,.int b=>(if a then 1 else 0) == b
 | .int a,.bl b=>a == (if b then 1 else 0)
 | .int a,.int b=>a == b
 | .str a,.str b=>a == b
 | .tup a,.tup b=>lb a b
 | .fG a,.fG b=>lb a b
 | _,_=>false
noncomputable def lb:List D->List D->Bool
 | [],[]=>true
 | a :: r,b :: t=>i7 a b&&lb r t
 | _,_=>false
end
mutual
noncomputable def nr:D->Bool
 | .ref _=>false
 | .exc _=>false
 | .kg _=>false
 | .str x=>x.cps.all (· < 0x110000)
 | .tup ds=>qj ds
 | .fG ds=>qj ds
 | _=>true
noncomputable def qj:List D->Bool
 | []=>true
 | d :: r=>nr d&&qj r
end
class inductive Sn (G:Gp):Nat->D->D->Prop
 | du {n:Nat}:Sn G n .du .du
 | bl {n:Nat} (b:Bool):Sn G n (.bl b) (.bl b)
 | int {n:Nat} (i:Int):Sn G n (.int i) (.int i)
 | str {n:Nat} (x:Str) (h:x.cps.all (· < 0x110000)=true):Sn G n (.str x) (.str x)
 | JB {n:Nat}:Sn G (n+1) (.tup []) (.tup [])
 | qQ {n:Nat} {d s:D} {ds ss:List D}:Sn G n d s->Sn G (n+1) (.tup ds) (.tup ss)->Sn G (n+1) (.tup (d :: ds)) (.tup (s :: ss))
 | FR {n:Nat}:Sn G (n+1) (.fG []) (.fG [])
 | FV {n:Nat} {d s:D} {ds ss:List D}:Sn G n d s->Sn G (n+1) (.fG ds) (.fG ss)->Sn G (n+1) (.fG (d :: ds)) (.fG (s :: ss))
 | ref {n:Nat} {a:Nat} {ds ss:List D}:G a=some (.lst ds)->Sn G n (.fG ds) (.fG ss)->Sn G n (.ref a) (.fG ss)
noncomputable abbrev SN:Nat:=8
theorem Sn.nr{G:Gp}{n:Nat}{d t:D}(h:Sn G n d t):K2.nr t=true:=by
 induction h with
 | du=>rfl
 | bl b=>rfl
 | int i=>rfl
 | str x h=>exact h
 | JB=>rfl
 | qQ _ _ QO QN =>
  show (K2.nr _&&K2.qj _)=true
  rw [QO]
  exact QN
 | FR=>rfl
 | FV _ _ QO QN =>
  show (K2.nr _&&K2.qj _)=true
  rw [QO]
  exact QN
 | ref _ _ ih=>exact ih
noncomputable def fQ:D->Bool
 | .int _=>true
 | .str _=>true
 | _=>false
noncomputable def MZ:D->Gp->Option Bool
 | .du,_=>some false
 | .bl b,_=>some b
 | .int i,_=>some (i != 0)
 | .str x,_=>if x.length<=SZ then some ((x.length:Int) != 0) else none
 | .tup ds,_=>some (!ds.isEmpty)
 | .fG ds,_=>some (!ds.isEmpty)
 | .exc _,_=>none
 | .kg kvs,_=>if (kvs.all fun p=>fQ p.1)=true then some (!kvs.isEmpty) else none
 | .ref a,G=>match G a with
  | some (.lst ds)=>some (!ds.isEmpty)
  | some (.iO kvs)=>if (kvs.all fun p=>fQ p.1)=true then some (!kvs.isEmpty) else none
  | none=>none
noncomputable def aw(i:Nat):gI:=fun _ τ G Q=>match τ[i]? with
 | some (some d)=>Q d G
 | _=>False
noncomputable def dC(d:D):gI:=fun _ _ G Q=>Q d G
noncomputable def bL:Iy:=fun _ _ G Q=>Q [] G
noncomputable def aK(a:gI)(r:Iy):Iy:=fun E τ G Q=>a E τ G fun x G1=>r E τ G1 fun xs G2=>Q (x :: xs) G2
noncomputable def ko(t:Iy):gI:=fun E τ G Q=>t E τ G fun ds G1=>ds.length<=SZ/\Q (.tup ds) G1
noncomputable def nE(t:Iy):gI:=fun E τ G Q=>t E τ G fun ds G1=>ds.length<=SZ/\∀ p,G1 p=none->Q (.ref p) (fK G1 p (.lst ds))
noncomputable def bg(r:BU)(a b:gI):gI:=fun E τ G Q=>a E τ G fun x G1=>b E τ G1 fun y G2=>r x y G2 Q
noncomputable def yn(r:D->Gp->DK->Prop)(a:gI):gI:=fun E τ G Q=>a E τ G fun x G1=>r x G1 Q
noncomputable def jo(G:Gp)(o:GO)(Q:DK):Prop:=∀ p,G p=none->Q (.ref p) (fK G p o)
noncomputable def MulOk(i j:Int):Prop:=(-(2 ^ 64) < i/\i < 2 ^ 64)\/(-(2 ^ 64) < j/\j < 2 ^ 64)
noncomputable def ql:D->Gp->Option (List D)
 | .fG ds,_=>some ds
 | .ref a,G=>match G a with
  | some (.lst ds)=>some ds
  | _=>none
 | _,_=>none
noncomputable def K0(x y:D)(G:Gp)(Q:DK):Prop:=match ql x G,ql y G with
 | some xs,some ys=>xs.length+ys.length<=SZ/\jo G (.lst (xs++ys)) Q
 | _,_=>False
noncomputable def qv:BU
 | .int i,.int j,G,Q=>Q (.int (i+j)) G
 | .str a,.str b,G,Q=>a.length+b.length<=SZ/\Q (.str (a++b)) G
 | .tup a,.tup b,G,Q=>a≠[]/\a.length+b.length<=SZ/\Q (.tup (a++b)) G
 | x,y,G,Q=>K0 x y G Q
noncomputable def tL:BU
 | .int i,.int j,G,Q=>Q (.int (i - j)) G
 | _,_,_,_=>False
noncomputable def sI:BU
 | .int i,.int j,G,Q=>MulOk i j/\Q (.int (i * j)) G
 | _,_,_,_=>False
noncomputable def lI:BU
 | .int i,.int j,G,Q=>0 < j/\Q (.int (i % j)) G
 | _,_,_,_=>False
noncomputable def tu:BU
 | .int i,.int j,G,Q=>0 < j/\j < 2 ^ 30/\Q (.int (i / j)) G
 | _,_,_,_=>False
noncomputable def FX:D->Gp->DK->Prop
 | .int i,G,Q=>Q (.int (-i)) G
 | _,_,_=>False
noncomputable def xI(neg:Bool):BU:=fun x y G Q=>∃ a b,Sn G SN x a/\Sn G SN y b/\Q (.bl (if neg then !i7 a b else i7 a b)) G
noncomputable def lexLt:List Int->List Int->Bool
 | [],[]=>false
 | [],_ :: _=>true
 | _ :: _,[]=>false
 | x :: xs,y :: ys=>if x=y then lexLt xs ys else decide (x < y)
noncomputable def XA:BU
 | .int i,.int j,G,Q=>Q (.bl (decide (i < j))) G
 | .tup a,.tup b,G,Q=>∃ xs ys,a=xs.map D.int/\b=ys.map D.int/\Q (.bl (lexLt xs ys)) G
 | _,_,_,_=>False
noncomputable def XB:BU
 | .int i,.int j,G,Q=>Q (.bl (decide (i<=j))) G
 | _,_,_,_=>False
noncomputable def rGt:BU
 | .int i,.int j,G,Q=>Q (.bl (decide (i > j))) G
 | _,_,_,_=>False
noncomputable def rGe:BU
 | .int i,.int j,G,Q=>Q (.bl (decide (i>=j))) G
 | _,_,_,_=>False
noncomputable def vj(neg:Bool):D->Gp->DK->Prop:=fun x G Q=>match x with
 | .du=>Q (.bl (!neg)) G
 | _=>Q (.bl neg) G
noncomputable def itemsOf:D->Gp->Option (List D)
 | .tup ds,_=>some ds
 | .fG ds,_=>some ds
 | .ref a,G=>match G a with
  | some (.lst ds)=>some ds
  | _=>none
 | _,_=>none
noncomputable def lJ:D->Bool
 | .tup ds=>ds.all fQ
 | _=>false
noncomputable def i0(kvs:List (D×D))(k:D):Bool:=(fQ k&&kvs.all fun p=>fQ p.1)||(lJ k&&kvs.all fun p=>lJ p.1)
noncomputable def look(kvs:List (D×D))(k:D):Option D:=(kvs.find? fun p=>i7 p.1 k).map (·.2)
noncomputable def put(kvs:List (D×D))(k v:D):List (D×D) :=
 if (kvs.any fun p=>i7 p.1 k)=true then kvs.map (fun p=>if i7 p.1 k=true then (p.1,v) else p) else kvs++[(k,v)]
noncomputable def R9(neg:Bool):BU:=fun x y G Q=>match y with
 | .ref a=>(match G a with
  | some (.iO kvs)=>i0 kvs x=true/\Q (.bl (if neg then !(look kvs x).isSome else (look kvs x).isSome)) G
  | some (.lst ds)=>∃ s ss,Sn G SN x s/\Sn G SN (.fG ds) (.fG ss)/\Q (.bl (if neg then !ss.any (i7 · s) else ss.any (i7 · s))) G
  | none=>False)
 | .kg kvs=>kvs≠[]/\i0 kvs x=true/\Q (.bl (if neg then !(look kvs x).isSome else (look kvs x).isSome)) G
 | .tup ds=>∃ s ss,Sn G SN x s/\Sn G SN (.fG ds) (.fG ss)/\Q (.bl (if neg then !ss.any (i7 · s) else ss.any (i7 · s))) G
 | .fG ds=>∃ s ss,Sn G SN x s/\Sn G SN (.fG ds) (.fG ss)/\Q (.bl (if neg then !ss.any (i7 · s) else ss.any (i7 · s))) G
 | _=>False
noncomputable def jt:BU
 | .tup ds,.int i,G,Q=>(match oz ds i with
  | some d=>Q d G
  | none=>False)
 | .fG ds,.int i,G,Q=>(match oz ds i with
  | some d=>Q d G
  | none=>False)
 | .kg kvs,k,G,Q=>i0 kvs k=true/\(match look kvs k with
  | some d=>Q d G
  | none=>False)
 | .ref a,k,G,Q=>(match G a with
  | some (.lst ds)=>(match k with
   | .int i=>(match oz ds i with
    | some d=>Q d G
    | none=>False)
   | _=>False)
  | some (.iO kvs)=>i0 kvs k=true/\(match look kvs k with
   | some d=>Q d G
   | none=>False)
  | none=>False)
 | _,_,_,_=>False
noncomputable abbrev ZC:=lP->iH->Gp->(Option Int->Gp->Prop)->Prop
noncomputable def gP:ZC:=fun _ _ G Q=>Q none G
noncomputable def qr(t:gI):ZC:=fun E τ G Q=>t E τ G fun x G1=>match x with
 | .int i=>Q (some i) G1
 | _=>False
noncomputable def Vu:D->Option Int->Option Int->Gp->DK->Prop
 | .tup ds,lo,hi,G,Q=>¬ (jM ds.length 0 lo=0/\jM ds.length ds.length hi=ds.length)/\Q (.tup (cut ds lo hi)) G
 | .fG ds,lo,hi,G,Q=>jo G (.lst (cut ds lo hi)) Q
 | .ref a,lo,hi,G,Q=>(match G a with
  | some (.lst ds)=>jo G (.lst (cut ds lo hi)) Q
  | _=>False)
 | _,_,_,_,_=>False
noncomputable def Ez(a:gI)(lo hi:ZC):gI:=fun E τ G Q=>a E τ G fun x G1=>lo E τ G1 fun l G2=>hi E τ G2 fun h G3=>Vu x l h G3 Q
noncomputable def gJ(a:gI):yr:=fun E τ G Q=>a E τ G fun x G1=>match MZ x G1 with
 | some b=>Q b G1
 | none=>False
noncomputable def KO(a b:yr):yr:=fun E τ G Q=>a E τ G fun c G1=>if c=true then b E τ G1 Q else Q false G1
noncomputable def OV(a b:yr):yr:=fun E τ G Q=>a E τ G fun c G1=>if c=true then Q true G1 else b E τ G1 Q
noncomputable def yp(a:yr):yr:=fun E τ G Q=>a E τ G fun c G1=>Q (!c) G1
noncomputable def CS(a b:gI):gI:=fun E τ G Q=>a E τ G fun x G1=>match MZ x G1 with
 | some true=>b E τ G1 Q
 | some false=>Q x G1
 | none=>False
noncomputable def Y2(a b:gI):gI:=fun E τ G Q=>a E τ G fun x G1=>match MZ x G1 with
 | some true=>Q x G1
 | some false=>b E τ G1 Q
 | none=>False
noncomputable def Rz(a:gI):gI:=fun E τ G Q=>a E τ G fun x G1=>match MZ x G1 with
 | some c=>Q (.bl (!c)) G1
 | none=>False
noncomputable def Xa(c:yr)(a b:gI):gI:=fun E τ G Q=>c E τ G fun k G1=>if k=true then a E τ G1 Q else b E τ G1 Q
noncomputable def cz(sp:oe)(t:Iy):gI:=fun E τ G Q=>t E τ G fun ds G1=>sp ds G1 Q fun _ _=>False
noncomputable def mD(r:List D->Gp->DK->Prop)(t:Iy):gI:=fun E τ G Q=>t E τ G fun ds G1=>r ds G1 Q
noncomputable def yf(x:D)(G:Gp):Prop:=match x with
 | .ref a=>(match G a with
  | some (.lst _)=>True
  | _=>False)
 | .fG _=>True
 | _=>False
noncomputable def ZH(x:D)(G:Gp):Prop:=match x with
 | .kg _=>True
 | .ref a=>(match G a with
  | some (.iO _)=>True
  | _=>False)
 | _=>False
noncomputable def tyS(x:D)(_:Gp):Prop:=match x with
 | .str _=>True
 | _=>False
noncomputable def xV(ty:D->Gp->Prop)(r:D->List D->Gp->DK->Prop)(o:gI)(t:Iy):gI:=fun E τ G Q=>o E τ G fun x G1=>ty x G1/\t E τ G1 fun ds G2=>r x ds G2 Q
noncomputable def lenOf:D->Gp->Option Nat
 | .tup ds,_=>some ds.length
 | .fG ds,_=>some ds.length
 | .str x,_=>if x.length<=SZ then some x.length else none
 | .kg kvs,_=>if (kvs.all fun p=>fQ p.1)=true then some kvs.length else none
 | .ref a,G=>match G a with
  | some (.lst ds)=>some ds.length
  | some (.iO kvs)=>if (kvs.all fun p=>fQ p.1)=true then some kvs.length else none
  | none=>none
 | _,_=>none
noncomputable def nF(ds:List D)(G:Gp)(Q:DK):Prop:=match ds with
 | [x]=>(match lenOf x G with
  | some n=>Q (.int (n:Int)) G
  | none=>False)
 | _=>False
noncomputable def AZ(ds:List D)(G:Gp)(Q:DK):Prop:=match ds with
 | [x]=>(match itemsOf x G with
  | some xs=>jo G (.lst xs) Q
  | none=>False)
 | _=>False
noncomputable def W0(C:String):D->Gp->Option Bool
 | .du,_=>some false
 | .bl _,_=>some (C == "bool" || C == "int")
 | .int _,_=>some (C == "int")
 | .str _,_=>some (C == "str")
 | .tup _,_=>some (C == "tuple")
 | .fG _,_=>some (C == "list")
 | .kg _,_=>some (C == "dict")
 | .exc _,_=>none
 | .ref a,G=>match G a with
  | some (.lst _)=>some (C == "list")
  | some (.iO _)=>some (C == "dict")
  | none=>none
noncomputable def Oe(C:String)(a:gI):gI:=fun E τ G Q=>a E τ G fun x G1=>match W0 C x G1 with
 | some b=>Q (.bl b) G1
 | none=>False
noncomputable def WA(ds:List D)(G:Gp)(Q:DK):Prop:=match ds with
 | [x]=>∃ bs:List Bool,itemsOf x G=some (bs.map D.bl)/\Q (.bl (bs.all id)) G
 | _=>False
noncomputable def mi(x:D)(ds:List D)(G:Gp)(Q:DK):Prop:=match x,ds with
 | .ref a,[d]=>(match G a with
  | some (.lst xs)=>xs.length < SZ/\Q .du (fK G a (.lst (xs++[d])))
  | _=>False)
 | _,_=>False
noncomputable def yJ(x:D)(ds:List D)(G:Gp)(Q:DK):Prop:=match x,ds with
 | .ref a,[y]=>(match G a,ql y G with
  | some (.lst xs),some ys=>xs.length+ys.length<=SZ/\Q .du (fK G a (.lst (xs++ys)))
  | _,_=>False)
 | _,_=>False
noncomputable def yI(x:D)(ds:List D)(G:Gp)(Q:DK):Prop:=match x,ds with
 | .ref a,[.int i,d]=>(match G a with
  | some (.lst xs)=>0<=i/\i<=xs.length/\xs.length < SZ/\Q .du (fK G a (.lst (xs.take i.toNat++d :: xs.drop i.toNat)))
  | _=>False)
 | _,_=>False
noncomputable def pO(x:D)(ds:List D)(G:Gp)(Q:DK):Prop:=match ds with
 | [d]=>yf x G/\∃ xs s ss,itemsOf x G=some xs/\Sn G SN d s/\Sn G SN (.fG xs) (.fG ss)/\(match ss.findIdx? (i7 · s) with
  | some k=>Q (.int (k:Int)) G
  | none=>False)
 | _=>False
noncomputable def GG(x:D)(ds:List D)(G:Gp)(Q:DK):Prop:=match x,ds with
 | .ref a,[k,d]=>(match G a with
  | some (.iO kvs)=>i0 kvs k=true/\fQ k=true/\(match look kvs k with
   | some v=>Q v G
   | none=>kvs.length < SZ/\Q d (fK G a (.iO (put kvs k d))))
  | _=>False)
 | _,_=>False
noncomputable def eY:iT:=fun _ K τ G=>K.nx τ G
noncomputable def cF(a b:iT):iT:=fun E K τ G=>a E { K with nx:=b E K } τ G
noncomputable def iM(a:gI):iT:=fun E K τ G=>a E τ G fun _ G1=>K.nx τ G1
noncomputable def dH(a:gI):iT:=fun E K τ G=>a E τ G K.rt
noncomputable def UT:iT:=fun _ K _ G=>K.rt .du G
noncomputable def mZ(c:yr)(a b:iT):iT:=fun E K τ G=>c E τ G fun k G1=>if k=true then a E K τ G1 else b E K τ G1
noncomputable def RA:iT:=fun _ _ _ _=>False
noncomputable abbrev BR:=lP->D->iH->Gp->(iH->Gp->Prop)->Prop
noncomputable abbrev ER:=lP->List D->iH->Gp->(iH->Gp->Prop)->Prop
noncomputable def aI(i:Nat):BR:=fun _ d τ G Q=>Q (τ.set i (some d)) G
noncomputable def lM:ER:=fun _ ds τ G Q=>match ds with
 | []=>Q τ G
 | _=>False
noncomputable def fB(t:BR)(r:ER):ER:=fun E ds τ G Q=>match ds with
 | d :: ds=>t E d τ G fun o8 G1=>r E ds o8 G1 Q
 | _=>False
noncomputable def mj(t:ER):BR:=fun E d τ G Q=>match d with
 | .tup ds=>t E ds τ G Q
 | _=>False
noncomputable def uQ(o k d:D)(G:Gp)(Q:Gp->Prop):Prop:=match o with
 | .ref a=>(match G a with
  | some (.lst xs)=>(match k with
   | .int i=>(match Ef xs.length i with
    | some j=>Q (fK G a (.lst (xs.set j d)))
    | none=>False)
   | _=>False)
  | some (.iO kvs)=>i0 kvs k=true/\kvs.length < SZ/\Q (fK G a (.iO (put kvs k d)))
  | none=>False)
 | _=>False
noncomputable def mR(o k:gI):BR:=fun E d τ G Q=>o E τ G fun x G1=>k E τ G1 fun y G2=>uQ x y d G2 fun G3=>Q τ G3
noncomputable def bQ(a:gI)(g:BR):iT:=fun E K τ G=>a E τ G fun x G1=>g E x τ G1 K.nx
noncomputable abbrev RQ:=lP->iH->Gp->(List D->(Gp->Prop)->Gp->Prop)->Prop
noncomputable def lK(a:gI):RQ:=fun E τ G R=>a E τ G fun x G1=>match x with
 | .tup ds=>R ds (fun _=>True) G1
 | .fG ds=>R ds (fun _=>True) G1
 | .ref p=>(match G1 p with
  | some (.lst ds)=>R ds (fun G2=>G2 p=some (.lst ds)) G1
  | _=>False)
 | _=>False
noncomputable def dR(lo:Int)(n:Nat):List D:=(bq n).map fun (i:Nat)=>D.int (lo+(i:Int))
noncomputable def mP(a:gI):RQ:=fun E τ G R=>a E τ G fun x G1=>match x with
 | .int n=>-(2 ^ 62)<=n/\n < 2 ^ 62/\R (dR 0 n.toNat) (fun _=>True) G1
 | _=>False
noncomputable def tv(g:BR)(body:iT)(ok:Gp->Prop):List D->iT
 | []=>fun _ K τ G=>ok G/\K.nx τ G
 | d :: r=>fun E K τ G=>ok G/\g E d τ G fun o8 G1=>body E { K with nx:=tv g body ok r E K,ct:=tv g body ok r E K,bk:=K.nx } o8 G1
noncomputable def fW(i:RQ)(g:BR)(body:iT):iT:=fun E K τ G=>i E τ G fun ds ok G1=>tv g body ok ds E K τ G1
noncomputable def Fw(c:yr)(body:iT):Nat->iT
 | 0=>fun _ _ _ _=>False
 | n+1=>fun E K τ G=>c E τ G fun k G1=>if k=true then body E { K with nx:=Fw c body n E K,ct:=Fw c body n E K,bk:=K.nx } τ G1 else K.nx τ G1
noncomputable def Ry(c:yr)(body:iT):iT:=fun E K τ G=>∃ n,Fw c body n E K τ G
noncomputable def jq(g:BR)(c:Option yr)(e:gI)(ok:Gp->Prop):List D->lP->iH->Gp->List D->(List D->Gp->Prop)->Prop
 | [],_,_,G,acc,Q=>ok G/\Q acc G
 | d :: r,E,τ,G,acc,Q=>ok G/\g E d τ G fun o8 G1=>match c with
  | none=>e E o8 G1 fun x G2=>jq g c e ok r E o8 G2 (acc++[x]) Q
  | some c=>c E o8 G1 fun k G2=>if k=true then e E o8 G2 fun x G3=>jq g (some c) e ok r E o8 G3 (acc++[x]) Q else jq g (some c) e ok r E o8 G2 acc Q
noncomputable def AY(m:Nat)(fr:List Nat)(τ:iH):iH:=aJ m none++fr.map fun i=>(τ[i]?).getD none
noncomputable def eI(m:Nat)(fr:List Nat)(i:RQ)(g:BR)(c:Option yr)(e:gI):gI:=fun E τ G Q =>
 i E τ G fun ds ok G1=>ds.length<=SZ/\jq g c e ok ds (fun _ _=>False) (AY m fr τ) G1 [] fun xs G2=>jo G2 (.lst xs) Q
noncomputable abbrev tI(ns:List Int):D:=.tup (ns.map D.int)
noncomputable def adl:List Int->Option Int
 | []=>none
 | a :: r=>some (r.foldl (fun m x=>if x < m then x else m) a)
noncomputable def adk:List (List Int)->Option (List Int)
 | []=>none
 | a :: r=>some (r.foldl (fun m x=>if lexLt x m=true then x else m) a)
noncomputable def agj(ds:List D)(G:Gp)(Q:DK):Prop:=match ds with
 | [x]=>(∃ ns m,itemsOf x G=some (ns.map D.int)/\adl ns=some m/\Q (.int m) G)\/∃ nss m,itemsOf x G=some (nss.map tI)/\adk nss=some m/\Q (tI m) G
 | _=>False
noncomputable def ue:gI:=fun _ _ G Q=>jo G (.iO []) Q
noncomputable def ig(G G':Gp):Prop:=∀ a o,G a=some o->G' a=some o
theorem ig.refl(G:Gp):ig G G:=fun _ _ h=>h
theorem ig.trans{G G1 G2:Gp}(a:ig G G1)(b:ig G1 G2):ig G G2:=fun c o h=>b c o (a c o h)
theorem ig.new{G:Gp}{p:Nat}{o:GO}(h:G p=none):ig G (fK G p o):=fun a ob e=>by
 by_cases ha:a=p
 ·subst ha; rw [h] at e; cases e
 ·rw [dU ha]; exact e
theorem ig.free{G G':Gp}{p:Nat}(l:ig G G')(h:G' p=none):G p=none:=by
 cases q:G p with
 | none=>rfl
 | some o=>rw [l p o q] at h; cases h
theorem ig.put{G G':Gp}{p:Nat}{o:GO}(l:ig G G')(h:G p=none):ig G (fK G' p o):=fun a ob e=>by
 by_cases ha:a=p
 ·subst ha; rw [h] at e; cases e
 ·rw [dU ha]; exact l a ob e
noncomputable def ends(Q:DK):lX:=⟨fun _ G=>Q .du G,Q,fun _ _=>False,fun _ _=>False⟩
noncomputable def bU(n:Nat)(ds:List D):iH:=ds.map some++aJ (n - ds.length) none
noncomputable def Se(x:D)(G1:Gp)(R:List D->(Gp->Prop)->Gp->Prop):Prop:=match x with
 | .tup ds=>R ds (fun _=>True) G1
 | .fG ds=>R ds (fun _=>True) G1
 | .ref p=>(match G1 p with
  | some (.lst ds)=>R ds (fun G2=>G2 p=some (.lst ds)) G1
  | _=>False)
 | _=>False
noncomputable def Qj(x:D)(G1:Gp)(Q:Option Int->Gp->Prop):Prop:=match x with
 | .int i=>Q (some i) G1
 | _=>False
noncomputable def sY(x:D)(G1:Gp)(Q:Bool->Gp->Prop):Prop:=match MZ x G1 with
 | some b=>Q b G1
 | none=>False
noncomputable def Ux(x:D)(G1:Gp)(R:List D->(Gp->Prop)->Gp->Prop):Prop:=match x with
 | .int n=>-(2 ^ 62)<=n/\n < 2 ^ 62/\R (dR 0 n.toNat) (fun _=>True) G1
 | _=>False
noncomputable def isAt(C:String)(x:D)(G1:Gp)(Q:DK):Prop:=match W0 C x G1 with
 | some b=>Q (.bl b) G1
 | none=>False
theorem iw{i j:Int}{G:Gp}{Q:DK}:qv (.int i) (.int j) G Q=Q (.int (i+j)) G:=rfl
theorem FY{a b:List D}{G:Gp}{Q:DK}:qv (.tup a) (.tup b) G Q=(a≠[]/\a.length+b.length<=SZ/\Q (.tup (a++b)) G):=rfl
theorem iq{i j:Int}{G:Gp}{Q:DK}:tL (.int i) (.int j) G Q=Q (.int (i - j)) G:=rfl
theorem iu{i j:Int}{G:Gp}{Q:DK}:sI (.int i) (.int j) G Q=(MulOk i j/\Q (.int (i * j)) G):=rfl
theorem eS{i j:Int}{G:Gp}{Q:DK}:lI (.int i) (.int j) G Q=(0 < j/\Q (.int (i % j)) G):=rfl
theorem jb{i j:Int}{G:Gp}{Q:DK}:tu (.int i) (.int j) G Q=(0 < j/\j < 2 ^ 30/\Q (.int (i / j)) G):=rfl
theorem oM{i:Int}{G:Gp}{Q:DK}:FX (.int i) G Q=Q (.int (-i)) G:=rfl
theorem yB{i j:Int}{G:Gp}{Q:DK}:XA (.int i) (.int j) G Q=Q (.bl (decide (i < j))) G:=rfl
theorem yC{i j:Int}{G:Gp}{Q:DK}:XB (.int i) (.int j) G Q=Q (.bl (decide (i<=j))) G:=rfl
theorem LK{i j:Int}{G:Gp}{Q:DK}:rGt (.int i) (.int j) G Q=Q (.bl (decide (i > j))) G:=rfl
theorem LL{i j:Int}{G:Gp}{Q:DK}:rGe (.int i) (.int j) G Q=Q (.bl (decide (i>=j))) G:=rfl
theorem S6{ds:List D}{i:Int}{d:D}{G:Gp}{Q:DK}(h:oz ds i=some d):jt (.fG ds) (.int i) G Q=Q d G:=by unfold jt; simp only [h]
theorem S7{a:Nat}{ds:List D}{i:Int}{d:D}{G:Gp}{Q:DK}(h1:G a=some (.lst ds))(h:oz ds i=some d):jt (.ref a) (.int i) G Q=Q d G:=by unfold jt; simp only [h1,h]
theorem pE{ds:List D}{lo hi:Option Int}{G:Gp}{Q:DK}:Vu (.tup ds) lo hi G Q=(¬ (jM ds.length 0 lo=0/\jM ds.length ds.length hi=ds.length)/\Q (.tup (cut ds lo hi)) G):=rfl
theorem DI{ds:List D}{lo hi:Option Int}{G:Gp}{Q:DK}:Vu (.fG ds) lo hi G Q=jo G (.lst (cut ds lo hi)) Q:=rfl
theorem S5{a:Nat}{ds:List D}{lo hi:Option Int}{G:Gp}{Q:DK}(h:G a=some (.lst ds)):Vu (.ref a) lo hi G Q=jo G (.lst (cut ds lo hi)) Q:=by unfold Vu; simp only [h]
theorem A0{ds:List D}{G:Gp}{Q:DK}:nF [.fG ds] G Q=Q (.int (ds.length:Int)) G:=rfl
theorem Ib{ds:List D}{G:Gp}{Q:DK}:nF [.tup ds] G Q=Q (.int (ds.length:Int)) G:=rfl
theorem RI{a:Nat}{ds:List D}{G:Gp}{Q:DK}(h:G a=some (.lst ds)):nF [.ref a] G Q=Q (.int (ds.length:Int)) G:=by unfold nF lenOf; simp only [h]
theorem eW{a:gI}{E:lP}{τ:iH}{G:Gp}{R:List D->(Gp->Prop)->Gp->Prop}:lK a E τ G R=a E τ G fun x G1=>Se x G1 R:=by
 unfold lK Se; rfl
theorem Mc{ds:List D}{G:Gp}{R:List D->(Gp->Prop)->Gp->Prop}:Se (.fG ds) G R=R ds (fun _=>True) G:=rfl
theorem Mb{ds:List D}{G:Gp}{R:List D->(Gp->Prop)->Gp->Prop}:Se (.tup ds) G R=R ds (fun _=>True) G:=rfl
theorem Me{a:Nat}{ds:List D}{G:Gp}{R:List D->(Gp->Prop)->Gp->Prop}(h:G a=some (.lst ds)):Se (.ref a) G R=R ds (fun G2=>G2 a=some (.lst ds)) G:=by unfold Se; simp only [h]
theorem kd{t:gI}{E:lP}{τ:iH}{G:Gp}{Q:Option Int->Gp->Prop}:qr t E τ G Q=t E τ G fun x G1=>Qj x G1 Q:=rfl
theorem ie{i:Int}{G:Gp}{Q:Option Int->Gp->Prop}:Qj (.int i) G Q=Q (some i) G:=rfl
theorem dD{a:gI}{E:lP}{τ:iH}{G:Gp}{Q:Bool->Gp->Prop}:gJ a E τ G Q=a E τ G fun x G1=>sY x G1 Q:=rfl
theorem bS{b:Bool}{G:Gp}{Q:Bool->Gp->Prop}:sY (.bl b) G Q=Q b G:=rfl
theorem MX{a:Nat}{ds:List D}{G:Gp}{Q:Bool->Gp->Prop}(h:G a=some (.lst ds)):sY (.ref a) G Q=Q (!ds.isEmpty) G:=by unfold sY MZ; simp only [h]
theorem gE{a:gI}{E:lP}{τ:iH}{G:Gp}{R:List D->(Gp->Prop)->Gp->Prop}:mP a E τ G R=a E τ G fun x G1=>Ux x G1 R:=rfl
theorem fO{n:Int}{G:Gp}{R:List D->(Gp->Prop)->Gp->Prop}:Ux (.int n) G R=(-(2 ^ 62)<=n/\n < 2 ^ 62/\R (dR 0 n.toNat) (fun _=>True) G):=rfl
theorem vU{C:String}{a:gI}{E:lP}{τ:iH}{G:Gp}{Q:DK}:Oe C a E τ G Q=a E τ G fun x G1=>isAt C x G1 Q:=rfl
theorem Ay {C:String} {i:Int} {G:Gp} {Q:DK}:isAt C (.int i) G Q=Q (.bl (C == "int")) G:=rfl
theorem Hi {C:String} {ds:List D} {G:Gp} {Q:DK}:isAt C (.tup ds) G Q=Q (.bl (C == "tuple")) G:=rfl
theorem QJ {C:String} {a:Nat} {ds:List D} {G:Gp} {Q:DK} (h:G a=some (.lst ds)):isAt C (.ref a) G Q=Q (.bl (C == "list")) G:=by unfold isAt W0; simp only [h]
theorem rQ{a b:gI}{E:lP}{τ:iH}{G:Gp}{Q:DK}:CS a b E τ G Q=a E τ G fun x G1=>sY x G1 fun k G2=>if k=true then b E τ G2 Q else Q x G2:=by
 unfold CS sY
 refine congrArg (a E τ G) ?_
 funext x G1
 cases MZ x G1 with
 | none=>rfl
 | some k=>cases k <;> simp
theorem MB{a b:gI}{E:lP}{τ:iH}{G:Gp}{Q:DK}:Y2 a b E τ G Q=a E τ G fun x G1=>sY x G1 fun k G2=>if k=true then Q x G2 else b E τ G2 Q:=by
 unfold Y2 sY
 refine congrArg (a E τ G) ?_
 funext x G1
 cases MZ x G1 with
 | none=>rfl
 | some k=>cases k <;> simp
theorem AX{a:gI}{E:lP}{τ:iH}{G:Gp}{Q:DK}:Rz a E τ G Q=a E τ G fun x G1=>sY x G1 fun k G2=>Q (.bl (!k)) G2:=rfl
theorem vm{a:Nat}{y:D}{G:Gp}{Q:DK}:qv (.ref a) y G Q=K0 (.ref a) y G Q:=by cases y <;> rfl
theorem vk{a:List D}{y:D}{G:Gp}{Q:DK}:qv (.fG a) y G Q=K0 (.fG a) y G Q:=by cases y <;> rfl
theorem DJ{a:Nat}{lo hi:Option Int}{G:Gp}{Q:DK}:Vu (.ref a) lo hi G Q=(match G a with
  | some (.lst ds)=>jo G (.lst (cut ds lo hi)) Q
  | _=>False):=rfl
theorem LG{a:Nat}{k:D}{G:Gp}{Q:DK}:jt (.ref a) k G Q=(match G a with
  | some (.lst ds)=>(match k with
   | .int i=>(match oz ds i with
    | some d=>Q d G
    | none=>False)
   | _=>False)
  | some (.iO kvs)=>i0 kvs k=true/\(match look kvs k with
   | some d=>Q d G
   | none=>False)
  | none=>False):=by unfold jt; cases k <;> rfl
theorem g4{ds:List D}{i:Int}{G:Gp}{Q:DK}:jt (.tup ds) (.int i) G Q=(match oz ds i with
  | some d=>Q d G
  | none=>False):=rfl
theorem vh{ds:List D}{i:Int}{G:Gp}{Q:DK}:jt (.fG ds) (.int i) G Q=(match oz ds i with
  | some d=>Q d G
  | none=>False):=rfl
theorem Ie{a:Nat}{G:Gp}{Q:DK}:nF [.ref a] G Q=(match G a with
  | some (.lst ds)=>Q (.int (ds.length:Int)) G
  | some (.iO ds)=>(ds.all fun p=>fQ p.1)=true/\Q (.int (ds.length:Int)) G
  | none=>False):=by
 unfold nF lenOf
 cases h:G a with
 | none=>simp only [h]
 | some g =>
  cases g with
  | lst ds=>simp only [h]
  | iO ds =>
   simp only [h]
   by_cases z:(ds.all fun p=>fQ p.1)=true
   ·simp only [z,if_true,true_and]
   ·simp only [z,if_false,false_and,aF]
theorem CV{a:Nat}{G:Gp}{Q:DK}:AZ [.ref a] G Q=(match G a with
  | some (.lst ds)=>jo G (.lst ds) Q
  | _=>False):=by
 unfold AZ itemsOf
 cases h:G a with
 | none=>simp only [h]
 | some g=>cases g <;> simp only [h]
theorem iZ{a:Nat}{d:D}{G:Gp}{Q:DK}:mi (.ref a) [d] G Q=(match G a with
  | some (.lst xs)=>xs.length < SZ/\Q .du (fK G a (.lst (xs++[d])))
  | _=>False):=rfl
theorem rn{a:Nat}{y:D}{G:Gp}{Q:DK}:yJ (.ref a) [y] G Q=(match G a,ql y G with
  | some (.lst xs),some ys=>xs.length+ys.length<=SZ/\Q .du (fK G a (.lst (xs++ys)))
  | _,_=>False):=rfl
theorem rm{a:Nat}{i:Int}{d:D}{G:Gp}{Q:DK}:yI (.ref a) [.int i,d] G Q=(match G a with
  | some (.lst xs)=>0<=i/\i<=xs.length/\xs.length < SZ/\Q .du (fK G a (.lst (xs.take i.toNat++d :: xs.drop i.toNat)))
  | _=>False):=rfl
theorem qk{a:Nat}{k d:D}{G:Gp}{Q:DK}:GG (.ref a) [k,d] G Q=(match G a with
  | some (.iO kvs)=>i0 kvs k=true/\fQ k=true/\(match look kvs k with
   | some v=>Q v G
   | none=>kvs.length < SZ/\Q d (fK G a (.iO (put kvs k d))))
  | _=>False):=rfl
theorem Md{p:Nat}{G:Gp}{R:List D->(Gp->Prop)->Gp->Prop}:Se (.ref p) G R=(match G p with
  | some (.lst ds)=>R ds (fun G2=>G2 p=some (.lst ds)) G
  | _=>False):=rfl
theorem L9 {C:String} {b:Bool} {G:Gp} {Q:DK}:isAt C (.bl b) G Q=Q (.bl (C == "bool" || C == "int")) G:=rfl
theorem nM{a:Nat}{G:Gp}:yf (.ref a) G=(match G a with
  | some (.lst _)=>True
  | _=>False):=rfl
theorem Dm{a:Nat}{G:Gp}:ZH (.ref a) G=(match G a with
  | some (.iO _)=>True
  | _=>False):=rfl
theorem Lp{ds:List D}{G:Gp}:yf (.fG ds) G=True:=rfl
theorem pF{kvs:List (D×D)}{k:D}{G:Gp}{Q:DK}:jt (.kg kvs) k G Q=(i0 kvs k=true/\(match look kvs k with
  | some d=>Q d G
  | none=>False)):=by unfold jt; cases k <;> rfl
theorem Lo{x:Str}{G:Gp}:tyS (.str x) G=True:=rfl
end K2
end
section
namespace K2
open PySem (Str)
noncomputable def HP(R:Nat->Bool)(G:Gp):Gp:=fun a=>if R a=true then none else G a
mutual
inductive Fz (G:Gp) (R:Nat->Bool):D->D->Prop
 | same (d:D):Fz G R d d
 | tup {ds ss:List D}:Oy G R ds ss->Fz G R (.tup ds) (.tup ss)
 | fG {ds ss:List D}:Oy G R ds ss->Fz G R (.fG ds) (.fG ss)
 | ref {a:Nat} {ds ss:List D}:G a=some (.lst ds)->R a=true->Oy G R ds ss->Fz G R (.ref a) (.fG ss)
 | iO {a:Nat} {kvs kvt:List (D×D)}:G a=some (.iO kvs)->R a=true->La G R kvs kvt->Fz G R (.ref a) (.kg kvt)
inductive Oy (G:Gp) (R:Nat->Bool):List D->List D->Prop
 | nil:Oy G R [] []
 | cons {d s:D} {ds ss:List D}:Fz G R d s->Oy G R ds ss->Oy G R (d :: ds) (s :: ss)
inductive La (G:Gp) (R:Nat->Bool):List (D×D)->List (D×D)->Prop
 | nil:La G R [] []
 | cons {k d s:D} {ds ss:List (D×D)}:Fz G R d s->La G R ds ss->La G R ((k,d) :: ds) ((k,s) :: ss)
end
theorem La.same{G:Gp}{R:Nat->Bool}:∀ (kvs:List (D×D)),La G R kvs kvs
 | []=>.nil
 | (k,v) :: r=>.cons (.same v) (La.same r)
noncomputable def Uo(G:Gp)(x:D)(Q:DK):Prop:=∃ (R:Nat->Bool) (t:D),Fz G R x t/\Q t (HP R G)
noncomputable def gz(e:gI):gI:=fun E τ G Q=>e E τ G fun x G1=>Uo G1 x Q
noncomputable def Ws(i:Nat)(t:iT):iT:=fun E K τ G=>t E { K with nx:=fun o8 G1=>match o8[i]? with
 | some (some d)=>Uo G1 d fun t G2=>K.nx (o8.set i (some t)) G2
 | _=>False } τ G
theorem Oy.same{G:Gp}{R:Nat->Bool}:∀ (ds:List D),Oy G R ds ds
 | []=>.nil
 | d :: ds=>.cons (.same d) (Oy.same ds)
theorem AL{G G1:Gp}(l:ig G G1):HP (fun a=>(G a).isNone) G1=G:=by
 funext a
 unfold HP
 cases h:G a with
 | none=>simp [h]
 | some o=>simp [l a o h,h]
theorem mS{G:Gp}{d:D}{Q:DK}(q:Q d G):Uo G d Q:=⟨fun _=>false,d,.same d,by
 have e:HP (fun _=>false) G=G:=by funext a; simp [HP]
 rw [e]; exact q⟩
theorem yP{G G1:Gp}{d:D}{Q:DK}(l:ig G G1)(q:Q d G):Uo G1 d Q:=⟨_,d,.same d,by rw [AL l]; exact q⟩
theorem Rc{G G1:Gp}{p:Nat}{ds ss:List D}{Q:DK}(l:ig G G1)(hp:G p=none)(h1:G1 p=some (.lst ds))(hs:Oy G1 (fun a=>(G a).isNone) ds ss)(q:Q (.fG ss) G):Uo G1 (.ref p) Q :=
 ⟨_,.fG ss,.ref h1 (by simp [hp]) hs,by rw [AL l]; exact q⟩
theorem wY{G G1:Gp}{p:Nat}{kvs:List (D×D)}{Q:DK}(l:ig G G1)(hp:G p=none)(h1:G1 p=some (.iO kvs))(q:Q (.kg kvs) G):Uo G1 (.ref p) Q :=
 ⟨fun a=>(G a).isNone,.kg kvs,.iO h1 (by simp [hp]) (.same _),by rw [AL l]; exact q⟩
noncomputable def B9:oe:=fun ds G Q _=>∃ ns:List Int,ds=[.fG (ns.map D.int)]/\ns.length<=63/\(∀ a,G a=none)/\∀ G',Q (.bl true) G'
theorem fI{a b:iT}{E:lP}{K:lX}{τ:iH}{G:Gp}(P:iH->Gp->Prop)(h1:∀ N,(∀ τ G,P τ G->N τ G)->a E { K with nx:=N } τ G)(h2:∀ τ G,P τ G->b E K τ G):cF a b E K τ G:=h1 (b E K) h2
theorem oI{a b:iT}{E:lP}{K:lX}{τ:iH}{G:Gp}:cF a b E K τ G=a E { K with nx:=b E K } τ G:=rfl
theorem cQ{a:gI}{g:BR}{b:iT}{E:lP}{K:lX}{τ:iH}{G:Gp}:cF (bQ a g) b E K τ G=bQ a g E { K with nx:=b E K } τ G:=rfl
theorem uR{a:gI}{b:iT}{E:lP}{K:lX}{τ:iH}{G:Gp}:cF (iM a) b E K τ G=iM a E { K with nx:=b E K } τ G:=rfl
theorem w4{g:BR}{body:iT}{ok:Gp->Prop}{ds:List D}{E:lP}{K:lX}{τ:iH}{G:Gp}(I:List D->iH->Gp->Prop)
  (h0:I [] τ G) (cT:∀ pre τ G,I pre τ G->ok G)
  (step:∀ (pre:List D) (d:D) (post:List D) τ G (N:iH->Gp->Prop),ds=pre++d :: post->I pre τ G->(∀ wA G2,I (pre++[d]) wA G2->N wA G2) ->
   g E d τ G fun o8 G1=>body E { K with nx:=N,ct:=N,bk:=K.nx } o8 G1)
  (fin:∀ τ G,I ds τ G->K.nx τ G):tv g body ok ds E K τ G:=by
 have main:∀ (post pre:List D) τ G,ds=pre++post->I pre τ G->tv g body ok post E K τ G:=by
  intro post
  induction post with
  | nil =>
   intro pre τ G e h
   rw [cc] at e
   subst e
   exact⟨cT _ _ _ h,fin _ _ h⟩
  | cons d post ih =>
   intro pre τ G e h
   refine⟨cT _ _ _ h,?_⟩
   exact step pre d post τ G _ e h fun wA G2 h2=>ih (pre++[d]) wA G2 (by rw [e,cH]; rfl) h2
 exact main ds [] τ G rfl h0
theorem vW{g:BR}{c:Option yr}{e:gI}{ok:Gp->Prop}{ds:List D}{E:lP}{τ:iH}{G:Gp}{Q:List D->Gp->Prop}(I:List D->List D->iH->Gp->Prop)
  (h0:I [] [] τ G) (cT:∀ pre acc τ G,I pre acc τ G->ok G)
  (step:∀ (pre:List D) (d:D) (post acc:List D) τ G (N:iH->List D->Gp->Prop),ds=pre++d :: post->I pre acc τ G->(∀ wA xi G2,I (pre++[d]) xi wA G2->N wA xi G2) ->
   g E d τ G fun o8 G1=>match c with
    | none=>e E o8 G1 fun x G2=>N o8 (acc++[x]) G2
    | some c=>c E o8 G1 fun k G2=>if k=true then e E o8 G2 fun x G3=>N o8 (acc++[x]) G3 else N o8 acc G2)
  (fin:∀ acc τ G,I ds acc τ G->Q acc G):jq g c e ok ds E τ G [] Q:=by
 have main:∀ (post pre acc:List D) τ G,ds=pre++post->I pre acc τ G->jq g c e ok post E τ G acc Q:=by
  intro post
  induction post with
  | nil =>
   intro pre acc τ G e h
   rw [cc] at e
   subst e
   exact⟨cT _ _ _ _ h,fin _ _ _ h⟩
  | cons d post ih =>
   intro pre acc τ G e' h
   refine⟨cT _ _ _ _ h,?_⟩
   have:=step pre d post acc τ G (fun wA xi G2=>jq g c e ok post E wA G2 xi Q) e' h fun wA xi G2 h2=>ih (pre++[d]) xi wA G2 (by rw [e',cH]; rfl) h2
   cases c with
   | none=>exact this
   | some c=>exact this
 exact main ds [] [] τ G rfl h0
theorem pZ(a b:D)(r t:List D):lb (a :: r) (b :: t)=(i7 a b&&lb r t):=rfl
theorem ud(a b:Int):i7 (.int a) (.int b)=(a == b):=rfl
theorem KG(a b:List D):i7 (.tup a) (.tup b)=lb a b:=rfl
theorem HQ{α:Type} [DecidableEq α](a b:α)(as bs:List α):(decide (a=b)&&decide (as=bs))=decide (a :: as=b :: bs):=by
 by_cases h:a=b <;> by_cases h2:as=bs <;> simp [h,h2]
end K2
end
section
namespace K2
open PySem (Str)
set_option genInjectivity true in structure T2 where
 a:Int
 b:Int
 deriving DecidableEq
set_option genInjectivity true in structure T3 where
 a:Int
 b:Int
 c:Int
 deriving DecidableEq
class Enc (α:Type) [DecidableEq α] where
 enc:α->D
 dep:Nat
 eqv:∀ a b,i7 (enc a) (enc b)=decide (a=b)
 sn:∀ (G:Gp) (n:Nat) (a:α),dep<=n->Sn G n (enc a) (enc a)
open Enc (enc)
noncomputable instance:Enc Int where
 enc:=D.int
 dep:=0
 eqv:=fun a b=>rfl
 sn:=fun G n a _=>.int a
noncomputable instance:Enc Bool where
 enc:=D.bl
 dep:=0
 eqv:=fun a b=>R5 a b
 sn:=fun G n a _=>.bl a
noncomputable instance:Enc T2 where
 enc:=fun t=>.tup [.int t.a,.int t.b]
 dep:=1
 eqv:=fun x y=>by
  cases x; cases y
  rw [KG,pZ,pZ,ud,ud]; simp only [T2.mk.injEq]; rename_i a b c d; by_cases h:a=c <;> by_cases h2:b=d <;> simp [h,h2,show lb [] []=true from rfl]
 sn:=fun G n t h=>by
  obtain⟨m,rfl⟩:∃ m,n=m+1:=⟨n - 1,by lia⟩
  exact .qQ (.int _) (.qQ (.int _) .JB)
noncomputable instance:Enc T3 where
 enc:=fun t=>.tup [.int t.a,.int t.b,.int t.c]
 dep:=1
 eqv:=fun x y=>by
  cases x; cases y
  rw [KG,pZ,pZ,pZ,ud,ud,ud]; simp only [T3.mk.injEq]; rename_i a b e c d f; by_cases h:a=c <;> by_cases h2:b=d <;> by_cases h3:e=f <;> simp [h,h2,h3,show lb [] []=true from rfl]
 sn:=fun G n t h=>by
  obtain⟨m,rfl⟩:∃ m,n=m+1:=⟨n - 1,by lia⟩
  exact .qQ (.int _) (.qQ (.int _) (.qQ (.int _) .JB))
noncomputable instance {α β:Type} [DecidableEq α] [DecidableEq β] [Enc α] [Enc β]:Enc (α×β) where
 enc:=fun t=>.tup [enc t.1,enc t.2]
 dep:=max (Enc.dep α) (Enc.dep β)+1
 eqv:=fun x y=>by
  cases x; cases y
  rw [KG,pZ,pZ,Enc.eqv,Enc.eqv]; simp only [Prod.mk.injEq]; rename_i a b c d; by_cases h:a=c <;> by_cases h2:b=d <;> simp [h,h2,show lb [] []=true from rfl]
 sn:=fun G n t h=>by
  obtain⟨m,rfl⟩:∃ m,n=m+1:=⟨n - 1,by lia⟩
  exact .qQ (Enc.sn _ _ _ (by lia)) (.qQ (Enc.sn _ _ _ (by lia)) .JB)
theorem HJ{α:Type} [DecidableEq α] [Enc α]:∀ (a b:List α),lb (a.map enc) (b.map enc)=decide (a=b)
 | [],[]=>(decide_eq_true rfl).symm
 | [],b :: bs=>(decide_eq_false (fun z=>nomatch z)).symm
 | a :: as,[]=>(decide_eq_false (fun z=>nomatch z)).symm
 | a :: as,b :: bs=>by
  show (i7 (enc a) (enc b)&&lb (as.map enc) (bs.map enc))=_
  rw [Enc.eqv,HJ as bs,HQ]
theorem zu{α:Type} [DecidableEq α] [Enc α](G:Gp)(n:Nat)(h:Enc.dep α<=n):∀ (xs:List α),Sn G (n+1) (.fG (xs.map enc)) (.fG (xs.map enc))
 | []=>.FR
 | a :: as=>.FV (Enc.sn _ _ _ h) (zu G n h as)
noncomputable instance {α:Type} [DecidableEq α] [Enc α]:Enc (List α) where
 enc:=fun xs=>.fG (xs.map enc)
 dep:=Enc.dep α+1
 eqv:=fun a b=>by
  show lb _ _=_
  exact HJ a b
 sn:=fun G n t h=>by
  obtain⟨m,rfl⟩:∃ m,n=m+1:=⟨n - 1,by lia⟩
  exact zu G m (by lia) t
section
variable {α:Type} [DecidableEq α] [Enc α]
theorem Ug(L:List α)(t:α):(L.map enc).any (i7 · (enc t))=decide (t∈L):=by
 induction L with
 | nil=>simp
 | cons a r ih =>
  simp only [au,lE,Enc.eqv,ih,gh]
  by_cases h:a=t
  ·simp [h]
  ·have h':¬ t=a:=fun z=>h z.symm
   by_cases h2:t∈r <;> simp [h,h',h2]
end
section
variable {κ α:Type} [DecidableEq κ] [Enc κ] [DecidableEq α] [Enc α]
noncomputable def bO(l:List (κ×α)):List (D×D):=l.map fun p=>(enc p.1,enc p.2)
noncomputable def qe(l:List (κ×α))(k:κ):Option α:=(l.find? fun p=>p.1=k).map (·.2)
noncomputable def nG(l:List (κ×α))(k:κ)(v:α):List (κ×α):=if (l.any fun p=>p.1=k)=true then l.map (fun p=>if p.1=k then (p.1,v) else p) else l++[(k,v)]
theorem jB(l:List (κ×α))(k:κ):look (bO l) (enc k)=(qe l k).map enc:=by
 unfold look qe bO
 induction l with
 | nil=>rfl
 | cons p r ih =>
  rw [au,gq,gq]
  simp only [Enc.eqv]
  by_cases h:p.1=k
  ·simp [h]
  ·simp only [h,decide_false]; exact ih
theorem LO(l:List (κ×α))(k:κ)(v:α):put (bO l) (enc k) (enc v)=bO (nG l k v):=by
 unfold put nG
 have e:((bO l).any fun p=>i7 p.1 (enc k))=l.any fun p=>decide (p.1=k):=by
  unfold bO; rw [List.any_map]; congr 1; funext p; exact Enc.eqv _ _
 rw [e]
 split
 ·unfold bO; rw [bV,bV]
  refine oY fun p _=>?_
  simp only [IU,Enc.eqv,decide_eq_true_eq]
  split <;> rfl
 ·unfold bO; rw [aE]; rfl
theorem Iw(l:List (κ×α))(k:κ)(v:α):(nG l k v).length<=l.length+1:=by
 unfold nG; split <;> simp
end
class um (κ:Type) [DecidableEq κ] [Enc κ] where
 ok:(∀ k:κ,fQ (enc k)=true)\/∀ k:κ,lJ (enc k)=true
noncomputable instance:um Int:=⟨.inl fun _=>rfl⟩
noncomputable instance:um T2:=⟨.inr fun _=>rfl⟩
noncomputable instance:um T3:=⟨.inr fun _=>rfl⟩
theorem gf{κ α:Type} [DecidableEq κ] [Enc κ] [um κ] [DecidableEq α] [Enc α](l:List (κ×α))(k:κ):i0 (bO l) (enc k)=true:=by
 unfold i0 bO
 rcases um.ok (κ:=κ) with h | h
 ·rw [wo]; left
  rw [h k,Bool.true_and,wj,ft]
  intro p _; exact h p.1
 ·rw [wo]; right
  rw [h k,Bool.true_and,wj,ft]
  intro p _; exact h p.1
end K2
end
section
namespace K2
open PySem (Str)
open Enc (enc)
mutual
noncomputable def nC:D->D->Bool
 | .int a,.int b=>decide (a < b)
 | .tup a,.tup b=>nB a b
 | .fG a,.fG b=>nB a b
 | _,_=>false
noncomputable def nB:List D->List D->Bool
 | [],[]=>false
 | [],_ :: _=>true
 | _ :: _,[]=>false
 | x :: xs,y :: ys=>if i7 x y=true then nB xs ys else nC x y
end
theorem pP(x y:D)(xs ys:List D):nB (x :: xs) (y :: ys)=if i7 x y=true then nB xs ys else nC x y:=rfl
theorem Qx(a b:Int):nC (.int a) (.int b)=decide (a < b):=rfl
inductive nH where
 | int | tup (l:List nH) | lst (s:nH)
mutual
noncomputable def dF:nH->D->Bool
 | .int,.int _=>true
 | .tup l,.tup ds=>fY l ds
 | .lst s,.fG ds=>g6 s ds
 | _,_=>false
noncomputable def fY:List nH->List D->Bool
 | [],[]=>true
 | s :: l,d :: ds=>dF s d&&fY l ds
 | _,_=>false
noncomputable def g6:nH->List D->Bool
 | _,[]=>true
 | s,d :: ds=>dF s d&&g6 s ds
end
theorem eB{a:D}(h:dF .int a=true):∃ i,a=.int i:=by cases a <;> first | exact⟨_,rfl⟩ | exact bZ (show false=true from h)
theorem eu{l:List nH}{a:D}(h:dF (.tup l) a=true):∃ x,a=.tup x:=by cases a <;> first | exact⟨_,rfl⟩ | exact bZ (show false=true from h)
theorem eA{l:nH}{a:D}(h:dF (.lst l) a=true):∃ x,a=.fG x:=by cases a <;> first | exact⟨_,rfl⟩ | exact bZ (show false=true from h)
mutual
noncomputable def T4:nH->Nat
 | .int=>0
 | .tup l=>Rq l+1
 | .lst s=>T4 s+1
noncomputable def Rq:List nH->Nat
 | []=>0
 | s :: l=>max (T4 s) (Rq l)
end
noncomputable def Qn(sh:nH):Bool:=decide (T4 sh<=7)&&(match sh with
 | .tup []=>false
 | _=>true)
noncomputable def Sa(a b:D):Bool:=!nC b a
noncomputable def nW(ds:List D):List D:=ds.mergeSort Sa
noncomputable def yT(ds:List D)(G:Gp)(Q:DK):Prop:=match ds with
 | [x]=>∃ (sh:nH) (xs:List D),yf x G/\itemsOf x G=some xs/\xs.all (dF sh)=true/\Qn sh=true/\xs.length < 64/\jo G (.lst (nW xs)) Q
 | _=>False
class cA (α:Type) [DecidableEq α] [Enc α] where
 lt:α->α->Bool
 xp:nH
 Ku:∀ a:α,dF xp (enc a)=true
 WZ:∀ a b:α,nC (enc a) (enc b)=lt a b
 Sd:∀ a,lt a a=false
 trans:∀ a b c,lt a b=true->lt b c=true->lt a c=true
 SR:∀ a b,lt a b=false->lt b a=false->a=b
noncomputable instance:cA Int where
 lt:=fun a b=>decide (a < b)
 xp:=.int
 Ku:=fun _=>rfl
 WZ:=fun a b=>rfl
 Sd:=fun a=>by simp
 trans:=fun a b c h1 h2=>by simp at *; lia
 SR:=fun a b h1 h2=>by simp at *; lia
noncomputable def vB{α:Type} [DecidableEq α](lt:α->α->Bool):List α->List α->Bool
 | [],[]=>false
 | [],_ :: _=>true
 | _ :: _,[]=>false
 | x :: xs,y :: ys=>if x=y then vB lt xs ys else lt x y
theorem Af{α:Type} [DecidableEq α](lt:α->α->Bool)(x y:α)(xs ys:List α):vB lt (x :: xs) (y :: ys)=if x=y then vB lt xs ys else lt x y:=rfl
section
variable {α:Type} [DecidableEq α] {lt:α->α->Bool}
theorem vA:∀ x:List α,vB lt x x=false
 | []=>rfl
 | a :: x=>by simp only [Af,if_true]; exact vA x
theorem vz(t:∀ a b,lt a b=false->lt b a=false->a=b):∀ (x y:List α),vB lt x y=false->vB lt y x=false->x=y
 | [],[],_,_=>rfl
 | [],_ :: _,h,_=>by cases h
 | _ :: _,[],_,h=>by cases h
 | a :: x,b :: y,h1,h2=>by
  simp only [Af] at h1 h2
  by_cases e:a=b
  ·subst e
   simp only [if_true] at h1 h2
   rw [vz t x y h1 h2]
  ·rw [if_neg e] at h1
   rw [if_neg (eC e)] at h2
   exact absurd (t a b h1 h2) e
theorem pQ(ir:∀ a,lt a a=false)(tr:∀ a b c,lt a b=true->lt b c=true->lt a c=true):∀ (x y z:List α),vB lt x y=true->vB lt y z=true->vB lt x z=true
 | [],[],_,h,_=>by cases h
 | [],_ :: _,[],_,h=>by cases h
 | [],_ :: _,_ :: _,_,_=>rfl
 | _ :: _,[],_,h,_=>by cases h
 | _ :: _,_ :: _,[],_,h=>by cases h
 | a :: x,b :: y,c :: z,h1,h2=>by
  simp only [Af] at h1 h2 ⊢
  by_cases e1:a=b
  ·subst e1
   simp only [if_true] at h1
   by_cases e2:a=c
   ·subst e2
    simp only [if_true] at h2 ⊢
    exact pQ ir tr x y z h1 h2
   ·rw [if_neg e2] at h2 ⊢; exact h2
  ·rw [if_neg e1] at h1
   by_cases e2:b=c
   ·subst e2
    rw [if_neg e1]; exact h1
   ·rw [if_neg e2] at h2
    have h3:=tr _ _ _ h1 h2
    rw [if_neg (by rintro rfl; rw [ir] at h3; cases h3)]; exact h3
end
theorem vr{α:Type} [DecidableEq α] [Enc α] [cA α]:∀ (x y:List α),nB (x.map enc) (y.map enc)=vB (cA.lt (α:=α)) x y
 | [],[]=>rfl
 | [],_ :: _=>rfl
 | _ :: _,[]=>rfl
 | a :: x,b :: y=>by simp only [au,pP,Af,Enc.eqv,vr x y,cA.WZ,decide_eq_true_eq]
theorem CF{α:Type} [DecidableEq α] [Enc α] [cA α]:∀ (x:List α),g6 (cA.xp α) (x.map enc)=true
 | []=>rfl
 | a :: x=>by simp only [au,g6,cA.Ku,CF x,Bool.and_self]
noncomputable instance {α:Type} [DecidableEq α] [Enc α] [cA α]:cA (List α) where
 lt:=vB cA.lt
 xp:=.lst (cA.xp α)
 Ku:=fun a=>CF a
 WZ:=fun a b=>vr a b
 Sd:=vA
 trans:=pQ cA.Sd cA.trans
 SR:=vz cA.SR
noncomputable def T2.l(t:T2):List Int:=[t.a,t.b]
noncomputable def T3.l(t:T3):List Int:=[t.a,t.b,t.c]
noncomputable instance:cA T2 where
 lt:=fun x y=>vB (fun a b=>decide (a < b)) x.l y.l
 xp:=.tup [.int,.int]
 Ku:=fun _=>rfl
 WZ:=fun a b=>vr a.l b.l
 Sd:=fun a=>vA _
 trans:=fun a b c=>pQ (α:=Int) cA.Sd cA.trans _ _ _
 SR:=fun ⟨a,b⟩ ⟨c,d⟩ h1 h2=>by
  have:=vz (α:=Int) cA.SR _ _ h1 h2
  simpa [T2.l] using this
noncomputable instance:cA T3 where
 lt:=fun x y=>vB (fun a b=>decide (a < b)) x.l y.l
 xp:=.tup [.int,.int,.int]
 Ku:=fun _=>rfl
 WZ:=fun a b=>vr a.l b.l
 Sd:=fun a=>vA _
 trans:=fun a b c=>pQ (α:=Int) cA.Sd cA.trans _ _ _
 SR:=fun ⟨a,b,e⟩ ⟨c,d,f⟩ h1 h2=>by
  have:=vz (α:=Int) cA.SR _ _ h1 h2
  simpa [T3.l] using this
section
variable {α:Type} [DecidableEq α] [Enc α] [cA α]
noncomputable def BG(a b:α):Bool:=!cA.lt b a
noncomputable def Ly(xs:List α):List α:=xs.mergeSort BG
theorem Ca(xs:List α):nW (xs.map enc)=(Ly xs).map enc:=by
 unfold nW Ly
 symm
 exact List.map_mergeSort fun a _ b _=>by unfold BG Sa; rw [cA.WZ]
theorem wO(a b c:α)(h1:BG a b=true)(h2:BG b c=true):BG a c=true:=by
 unfold BG at *
 simp only [rV] at *
 cases h:cA.lt c a with
 | false=>rfl
 | true =>
  by_cases e:a=b
  ·subst e; rw [h] at h2; cases h2
  ·have YF:cA.lt a b=true:=by
    cases q:cA.lt a b with
    | true=>rfl
    | false=>exact absurd (cA.SR _ _ q h1) e
   rw [cA.trans _ _ _ h YF] at h2; cases h2
theorem NG(a b:α):(BG a b||BG b a)=true:=by
 unfold BG
 cases h:cA.lt b a with
 | false=>rfl
 | true =>
  cases h2:cA.lt a b with
  | false=>rfl
  | true=>have:=cA.trans _ _ _ h h2; rw [cA.Sd] at this; cases this
theorem Qz(a b:α)(h1:BG a b=true)(h2:BG b a=true):a=b:=by
 unfold BG at *
 exact cA.SR a b (by simpa using h2) (by simpa using h1)
theorem uN(xs:List α):(Ly xs).Perm xs:=List.mergeSort_perm xs BG
theorem zt(xs:List α):(Ly xs).Pairwise fun a b=>BG a b=true:=OF wO NG xs
theorem Bw:∀ {xs ys:List α},xs.Perm ys->xs.Pairwise (fun a b=>BG a b=true)->ys.Pairwise (fun a b=>BG a b=true)->xs=ys:=by
 intro xs ys hp h1 h2
 exact E9 (fun a b _ _ h h'=>Qz a b h h') h1 h2 hp
theorem Vg{xs ys:List α}(h:xs.Perm ys):Ly xs=Ly ys:=Bw (((uN xs).trans h).trans (uN ys).symm) (zt xs) (zt ys)
theorem Lw{xs:List α}{x:α}:x∈Ly xs↔x∈xs:=(uN xs).mem_iff
theorem Lx(xs:List α):(Ly xs).length=xs.length:=(uN xs).length_eq
end
end K2
end
section
namespace K2
open PySem (Str)
mutual
theorem kH:∀ (sh:nH) (a:D),dF sh a=true->i7 a a=true
 | .int,.int i,_=>by show (i == i)=true; exact beq_self_eq_true i
 | .tup l,.tup xs,h=>by show lb xs xs=true; exact xO l xs h
 | .lst l,.fG xs,h=>by show lb xs xs=true; exact xP l xs h
theorem xO:∀ (l:List nH) (xs:List D),fY l xs=true->lb xs xs=true
 | [],[],_=>rfl
 | s :: l,x :: xs,h=>by
  have h:(dF s x&&fY l xs)=true:=h
  rw [aP] at h
  show (i7 x x&&lb xs xs)=true
  rw [kH s x h.1,xO l xs h.2]; rfl
theorem xP:∀ (s:nH) (xs:List D),g6 s xs=true->lb xs xs=true
 | _,[],_=>rfl
 | s,x :: xs,h=>by
  have h:(dF s x&&g6 s xs)=true:=h
  rw [aP] at h
  show (i7 x x&&lb xs xs)=true
  rw [kH s x h.1,xP s xs h.2]; rfl
end
theorem Wl(s:nH)(ih:∀ (a b:D),dF s a=true->dF s b=true->i7 a b=true->a=b):∀ (xs ys:List D),g6 s xs=true->g6 s ys=true->lb xs ys=true->xs=ys:=by
 intro xs
 induction xs with
 | nil=>intro ys _ _ h; cases ys with
  | nil=>rfl
  | cons _ _=>cases h
 | cons x xs Yd =>
  intro ys h1 h2 h
  cases ys with
  | nil=>cases h
  | cons y ys =>
   have h1:(dF s x&&g6 s xs)=true:=h1
   have h2:(dF s y&&g6 s ys)=true:=h2
   have h:(i7 x y&&lb xs ys)=true:=h
   rw [aP] at h1 h2 h
   rw [ih x y h1.1 h2.1 h.1,Yd ys h1.2 h2.2 h.2]
mutual
theorem qp:∀ (sh:nH) (a b:D),dF sh a=true->dF sh b=true->i7 a b=true->a=b
 | .int,a,b,h1,h2,h=>by
  first | obtain⟨_,rfl⟩:=eB h1 | obtain⟨_,rfl⟩:=eu h1 | obtain⟨_,rfl⟩:=eA h1
  first | obtain⟨_,rfl⟩:=eB h2 | obtain⟨_,rfl⟩:=eu h2 | obtain⟨_,rfl⟩:=eA h2
  rw [ud] at h; rw [beq_iff_eq.mp h]
 | .tup l,a,b,h1,h2,h=>by
  first | obtain⟨_,rfl⟩:=eB h1 | obtain⟨_,rfl⟩:=eu h1 | obtain⟨_,rfl⟩:=eA h1
  first | obtain⟨_,rfl⟩:=eB h2 | obtain⟨_,rfl⟩:=eu h2 | obtain⟨_,rfl⟩:=eA h2
  rw [Rm l _ _ h1 h2 h]
 | .lst l,a,b,h1,h2,h=>by
  first | obtain⟨_,rfl⟩:=eB h1 | obtain⟨_,rfl⟩:=eu h1 | obtain⟨_,rfl⟩:=eA h1
  first | obtain⟨_,rfl⟩:=eB h2 | obtain⟨_,rfl⟩:=eu h2 | obtain⟨_,rfl⟩:=eA h2
  rw [Wl l (qp l) _ _ h1 h2 h]
theorem Rm:∀ (l:List nH) (xs ys:List D),fY l xs=true->fY l ys=true->lb xs ys=true->xs=ys
 | [],xs,ys,h1,h2,_=>by
  cases xs with
  | nil=>cases ys with
   | nil=>rfl
   | cons _ _=>cases h2
  | cons _ _=>cases h1
 | s :: l,xs,ys,h1,h2,h=>by
  cases xs with
  | nil=>cases h1
  | cons x xs =>
   cases ys with
   | nil=>cases h2
   | cons y ys =>
    have h1:(dF s x&&fY l xs)=true:=h1
    have h2:(dF s y&&fY l ys)=true:=h2
    have h:(i7 x y&&lb xs ys)=true:=h
    rw [aP] at h1 h2 h
    rw [qp s x y h1.1 h2.1 h.1,Rm l xs ys h1.2 h2.2 h.2]
end
theorem Qw(s:nH)(ih:∀ (a b:D),dF s a=true->dF s b=true->nC a b=false->nC b a=false->a=b):∀ (xs ys:List D),g6 s xs=true->g6 s ys=true->nB xs ys=false->nB ys xs=false->xs=ys:=by
 intro xs
 induction xs with
 | nil=>intro ys _ _ h _; cases ys with
  | nil=>rfl
  | cons _ _=>cases h
 | cons x xs Yd =>
  intro ys h1 h2 h3 h4
  cases ys with
  | nil=>cases h4
  | cons y ys =>
   have h1:(dF s x&&g6 s xs)=true:=h1
   have h2:(dF s y&&g6 s ys)=true:=h2
   rw [aP] at h1 h2
   simp only [pP] at h3 h4
   by_cases e:i7 x y=true
   ·have exy:=qp s x y h1.1 h2.1 e
    subst exy
    rw [if_pos e] at h3 h4
    rw [Yd ys h1.2 h2.2 h3 h4]
   ·rw [if_neg e] at h3
    by_cases e2:i7 y x=true
    ·have:=qp s y x h2.1 h1.1 e2
     subst this; exact absurd e2 e
    ·rw [if_neg e2] at h4
     have:=ih x y h1.1 h2.1 h3 h4
     subst this
     exact absurd (kH s x h1.1) e
mutual
theorem yK:∀ (sh:nH) (a b:D),dF sh a=true->dF sh b=true->nC a b=false->nC b a=false->a=b
 | .int,a,b,h1,h2,h3,h4=>by
  first | obtain⟨_,rfl⟩:=eB h1 | obtain⟨_,rfl⟩:=eu h1 | obtain⟨_,rfl⟩:=eA h1
  first | obtain⟨_,rfl⟩:=eB h2 | obtain⟨_,rfl⟩:=eu h2 | obtain⟨_,rfl⟩:=eA h2
  simp [Qx] at h3 h4; congr 1; lia
 | .tup l,a,b,h1,h2,h3,h4=>by
  first | obtain⟨_,rfl⟩:=eB h1 | obtain⟨_,rfl⟩:=eu h1 | obtain⟨_,rfl⟩:=eA h1
  first | obtain⟨_,rfl⟩:=eB h2 | obtain⟨_,rfl⟩:=eu h2 | obtain⟨_,rfl⟩:=eA h2
  rw [GH l _ _ h1 h2 h3 h4]
 | .lst l,a,b,h1,h2,h3,h4=>by
  first | obtain⟨_,rfl⟩:=eB h1 | obtain⟨_,rfl⟩:=eu h1 | obtain⟨_,rfl⟩:=eA h1
  first | obtain⟨_,rfl⟩:=eB h2 | obtain⟨_,rfl⟩:=eu h2 | obtain⟨_,rfl⟩:=eA h2
  rw [Qw l (yK l) _ _ h1 h2 h3 h4]
theorem GH:∀ (l:List nH) (xs ys:List D),fY l xs=true->fY l ys=true->nB xs ys=false->nB ys xs=false->xs=ys
 | [],xs,ys,h1,h2,_,_=>by
  cases xs with
  | nil=>cases ys with
   | nil=>rfl
   | cons _ _=>cases h2
  | cons _ _=>cases h1
 | s :: l,xs,ys,h1,h2,h3,h4=>by
  cases xs with
  | nil=>cases h1
  | cons x xs =>
   cases ys with
   | nil=>cases h2
   | cons y ys =>
    have h1:(dF s x&&fY l xs)=true:=h1
    have h2:(dF s y&&fY l ys)=true:=h2
    rw [aP] at h1 h2
    simp only [pP] at h3 h4
    by_cases e:i7 x y=true
    ·have exy:=qp s x y h1.1 h2.1 e
     subst exy
     rw [if_pos e] at h3 h4
     rw [GH l xs ys h1.2 h2.2 h3 h4]
    ·rw [if_neg e] at h3
     by_cases e2:i7 y x=true
     ·have:=qp s y x h2.1 h1.1 e2
      subst this; exact absurd e2 e
     ·rw [if_neg e2] at h4
      have:=yK s x y h1.1 h2.1 h3 h4
      subst this
      exact absurd (kH s x h1.1) e
end
mutual
theorem D6:∀ (sh:nH) (a:D),dF sh a=true->nC a a=false
 | .int,.int i,_=>by rw [Qx]; exact decide_eq_false (Int.lt_irrefl _)
 | .tup l,.tup xs,h=>by show nB xs xs=false; exact GJ l xs h
 | .lst l,.fG xs,h=>by show nB xs xs=false; exact GK l xs h
theorem GJ:∀ (l:List nH) (xs:List D),fY l xs=true->nB xs xs=false
 | [],[],_=>rfl
 | s :: l,x :: xs,h=>by
  have h:(dF s x&&fY l xs)=true:=h
  rw [aP] at h
  simp only [pP,kH s x h.1,if_true]; exact GJ l xs h.2
theorem GK:∀ (s:nH) (xs:List D),g6 s xs=true->nB xs xs=false
 | _,[],_=>rfl
 | s,x :: xs,h=>by
  have h:(dF s x&&g6 s xs)=true:=h
  rw [aP] at h
  simp only [pP,kH s x h.1,if_true]; exact GK s xs h.2
end
theorem Kc(s:nH)(ih:∀ (a b c:D),dF s a=true->dF s b=true->dF s c=true->nC a b=true->nC b c=true->nC a c=true):∀ (xs ys zs:List D),g6 s xs=true->g6 s ys=true->g6 s zs=true->nB xs ys=true->nB ys zs=true->nB xs zs=true:=by
 intro xs
 induction xs with
 | nil =>
  intro ys zs _ _ _ h4 h5
  cases ys with
  | nil=>cases h4
  | cons _ _=>cases zs with
   | nil=>cases h5
   | cons _ _=>rfl
 | cons x xs Yd =>
  intro ys zs h1 h2 h3 h4 h5
  cases ys with
  | nil=>cases h4
  | cons y ys =>
   cases zs with
   | nil=>cases h5
   | cons z zs =>
    have h1:(dF s x&&g6 s xs)=true:=h1
    have h2:(dF s y&&g6 s ys)=true:=h2
    have h3:(dF s z&&g6 s zs)=true:=h3
    rw [aP] at h1 h2 h3
    simp only [pP] at h4 h5 ⊢
    by_cases e1:i7 x y=true
    ·have:=qp s x y h1.1 h2.1 e1
     subst this
     rw [if_pos e1] at h4
     by_cases e2:i7 x z=true
     ·rw [if_pos e2] at h5 ⊢
      exact Yd ys zs h1.2 h2.2 h3.2 h4 h5
     ·rw [if_neg e2] at h5 ⊢; exact h5
    ·rw [if_neg e1] at h4
     by_cases e2:i7 y z=true
     ·have:=qp s y z h2.1 h3.1 e2
      subst this
      rw [if_neg e1]; exact h4
     ·rw [if_neg e2] at h5
      have h6:=ih x y z h1.1 h2.1 h3.1 h4 h5
      rw [if_neg (fun e3=>by
       have:=qp s x z h1.1 h3.1 e3
       subst this
       rw [D6 s x h1.1] at h6; cases h6)]
      exact h6
mutual
theorem se:∀ (sh:nH) (a b c:D),dF sh a=true->dF sh b=true->dF sh c=true->nC a b=true->nC b c=true->nC a c=true
 | .int,a,b,c,h1,h2,h3,h4,h5=>by
  first | obtain⟨_,rfl⟩:=eB h1 | obtain⟨_,rfl⟩:=eu h1 | obtain⟨_,rfl⟩:=eA h1
  first | obtain⟨_,rfl⟩:=eB h2 | obtain⟨_,rfl⟩:=eu h2 | obtain⟨_,rfl⟩:=eA h2
  first | obtain⟨_,rfl⟩:=eB h3 | obtain⟨_,rfl⟩:=eu h3 | obtain⟨_,rfl⟩:=eA h3
  simp [Qx] at *; lia
 | .tup l,a,b,c,h1,h2,h3,h4,h5=>by
  first | obtain⟨_,rfl⟩:=eB h1 | obtain⟨_,rfl⟩:=eu h1 | obtain⟨_,rfl⟩:=eA h1
  first | obtain⟨_,rfl⟩:=eB h2 | obtain⟨_,rfl⟩:=eu h2 | obtain⟨_,rfl⟩:=eA h2
  first | obtain⟨_,rfl⟩:=eB h3 | obtain⟨_,rfl⟩:=eu h3 | obtain⟨_,rfl⟩:=eA h3
  exact z8 l _ _ _ h1 h2 h3 h4 h5
 | .lst l,a,b,c,h1,h2,h3,h4,h5=>by
  first | obtain⟨_,rfl⟩:=eB h1 | obtain⟨_,rfl⟩:=eu h1 | obtain⟨_,rfl⟩:=eA h1
  first | obtain⟨_,rfl⟩:=eB h2 | obtain⟨_,rfl⟩:=eu h2 | obtain⟨_,rfl⟩:=eA h2
  first | obtain⟨_,rfl⟩:=eB h3 | obtain⟨_,rfl⟩:=eu h3 | obtain⟨_,rfl⟩:=eA h3
  exact Kc l (se l) _ _ _ h1 h2 h3 h4 h5
theorem z8:∀ (l:List nH) (xs ys zs:List D),fY l xs=true->fY l ys=true->fY l zs=true->nB xs ys=true->nB ys zs=true->nB xs zs=true
 | [],xs,ys,zs,h1,h2,_,h,_=>by
  cases xs with
  | nil=>cases ys with
   | nil=>cases h
   | cons _ _=>cases h2
  | cons _ _=>cases h1
 | s :: l,xs,ys,zs,h1,h2,h3,h4,h5=>by
  cases xs with
  | nil=>cases h1
  | cons x xs =>
   cases ys with
   | nil=>cases h2
   | cons y ys =>
    cases zs with
    | nil=>cases h3
    | cons z zs =>
     have h1:(dF s x&&fY l xs)=true:=h1
     have h2:(dF s y&&fY l ys)=true:=h2
     have h3:(dF s z&&fY l zs)=true:=h3
     rw [aP] at h1 h2 h3
     simp only [pP] at h4 h5 ⊢
     by_cases e1:i7 x y=true
     ·have:=qp s x y h1.1 h2.1 e1
      subst this
      rw [if_pos e1] at h4
      by_cases e2:i7 x z=true
      ·rw [if_pos e2] at h5 ⊢
       exact z8 l xs ys zs h1.2 h2.2 h3.2 h4 h5
      ·rw [if_neg e2] at h5 ⊢; exact h5
     ·rw [if_neg e1] at h4
      by_cases e2:i7 y z=true
      ·have:=qp s y z h2.1 h3.1 e2
       subst this
       rw [if_neg e1]; exact h4
      ·rw [if_neg e2] at h5
       have h6:=se s x y z h1.1 h2.1 h3.1 h4 h5
       rw [if_neg (fun e3=>by
        have:=qp s x z h1.1 h3.1 e3
        subst this
        rw [D6 s x h1.1] at h6; cases h6)]
       exact h6
end
theorem wN(sh:nH){a b:D}(h1:dF sh a=true)(h2:dF sh b=true)(h:nC a b=true):nC b a=false:=by
 cases q:nC b a with
 | false=>rfl
 | true=>have:=se sh a b a h1 h2 h1 h q; rw [D6 sh a h1] at this; cases this
theorem tQ(sh:nH){a b c:D}(h1:dF sh a=true)(h2:dF sh b=true)(h3:dF sh c=true)(q1:nC b a=false)(q2:nC c b=false):nC c a=false:=by
 cases h:nC c a with
 | false=>rfl
 | true =>
  exfalso
  cases q:nC a b with
  | false =>
   have:=yK sh a b h1 h2 q q1
   subst this; rw [h] at q2; cases q2
  | true=>rw [se sh c a b h3 h1 h2 h q] at q2; cases q2
theorem mf(sh:nH){xs ys:List D}(hx:∀ x∈xs,dF sh x=true)(hp:ys.Perm xs)(hs:ys.Pairwise fun a b=>nC b a=false):nW xs=ys:=by
 have hy:∀ y∈ys,dF sh y=true:=fun y h=>hx y (hp.mem_iff.mp h)
 have p1:(nW xs).Perm xs:=List.mergeSort_perm xs Sa
 have hz:∀ z∈nW xs,dF sh z=true:=fun z h=>hx z (p1.mem_iff.mp h)
 have s1:(nW xs).Pairwise fun a b=>nC b a=false:=by
  let Xh:List { d:D // dF sh d=true }:=xs.attach.map fun x=>⟨x.1,hx x.1 x.2⟩
  have ex:xs=Xh.map (·.1):=by
   simp only [Xh,bV]
   conv=>lhs; rw [← List.attach_map_subtype_val xs]
   rfl
  have e2:nW xs=(Xh.mergeSort fun a b=>Sa a.1 b.1).map (·.1):=by
   unfold nW
   rw [ex]
   exact(List.map_mergeSort (r:=fun (a b:{ d:D // dF sh d=true })=>Sa a.1 b.1) (s:=Sa) (f:=fun x=>x.1) (l:=Xh) fun a _ b _=>rfl).symm
  rw [e2,iB]
  have:=OF (le:=fun (a b:{ d:D // dF sh d=true })=>Sa a.1 b.1) (fun a b c h1 h2=>by
   unfold Sa at *
   simp only [rV] at *
   exact tQ sh a.2 b.2 c.2 h1 h2) (fun a b=>by
   unfold Sa
   cases q:nC b.1 a.1 with
   | false=>rfl
   | true=>rw [wN sh b.2 a.2 q]; rfl) Xh
  exact this.imp fun h=>by unfold Sa at h; simpa using h
 refine E9 (le:=fun a b=>nC b a=false) (fun a b ha hb h h'=>?_) s1 hs (p1.trans hp.symm)
 exact yK sh a b (hz a ha) (hy b hb) h' h
end K2
end
section
namespace K2
open PySem (Str)
open Enc (enc)
noncomputable def lg(k:Nat):List D->List D
 | []=>[]
 | d :: r=>.tup [.int (k:Int),d] :: lg (k+1) r
theorem CM:∀ (ds:List D) (k i:Nat),(lg k ds)[i]?=(ds[i]?).map fun d=>D.tup [.int ((k+i:Nat):Int),d]
 | [],k,i=>by simp [lg]
 | d :: r,k,0=>by simp [lg]
 | d :: r,k,i+1=>by
  rw [lg,ae,CM r (k+1) i,ae]
  congr 1; funext x; congr 3; lia
theorem CL:∀ (ds:List D) (k:Nat),(lg k ds).length=ds.length
 | [],_=>rfl
 | d :: r,k=>by rw [lg,ak,ak,CL r]
noncomputable def vG(x:D)(G1:Gp)(R:List D->(Gp->Prop)->Gp->Prop):Prop:=match x with
 | .fG ds=>R (lg 0 ds) (fun _=>True) G1
 | .ref p=>(match G1 p with
  | some (.lst ds)=>R (lg 0 ds) (fun G2=>G2 p=some (.lst ds)) G1
  | _=>False)
 | _=>False
noncomputable def rz(a:gI):RQ:=fun E τ G R=>a E τ G fun x G1=>vG x G1 R
noncomputable def ab0(P:D->Gp->Prop):List D->Gp->Prop
 | [x],G=>P x G
 | _,_=>False
noncomputable def abZ(P:D->D->Gp->Prop):List D->Gp->Prop
 | [x,y],G=>P x y G
 | _,_=>False
noncomputable def pf:List D->List D->List D
 | x :: xs,y :: ys=>.tup [x,y] :: pf xs ys
 | _,_=>[]
theorem Ft:∀ (xs ys:List D) (i:Nat),(pf xs ys)[i]?=(xs[i]?).bind fun x=>(ys[i]?).map fun y=>D.tup [x,y]
 | [],ys,i=>by simp [pf]
 | x :: xs,[],i=>by cases h:(x :: xs)[i]? <;> simp [pf]
 | x :: xs,y :: ys,0=>by simp [pf]
 | x :: xs,y :: ys,i+1=>by rw [pf,ae,Ft xs ys i,ae,ae]
theorem Fs:∀ (xs ys:List D),(pf xs ys).length=min xs.length ys.length
 | [],ys=>by simp [pf]
 | x :: xs,[]=>by simp [pf]
 | x :: xs,y :: ys=>by rw [pf,ak,Fs xs ys,ak,ak]; lia
noncomputable def vt(x:D)(G:Gp):Option (List D×(Gp->Prop)):=match x with
 | .fG ds=>some (ds,fun _=>True)
 | .ref p=>(match G p with
  | some (.lst ds)=>some (ds,fun G2=>G2 p=some (.lst ds))
  | _=>none)
 | _=>none
noncomputable def tU(x y:D)(G1:Gp)(R:List D->(Gp->Prop)->Gp->Prop):Prop:=match vt x G1,vt y G1 with
 | some (xs,k1),some (ys,k2)=>R (pf xs ys) (fun G2=>k1 G2/\k2 G2) G1
 | _,_=>False
noncomputable def Ko(a b:gI):RQ:=fun E τ G R=>a E τ G fun x G1=>b E τ G1 fun y G2=>tU x y G2 R
noncomputable def yN(x:D)(G1:Gp)(R:List D->(Gp->Prop)->Gp->Prop):Prop:=match x with
 | .kg kvs=>R (kvs.map (·.1)) (fun _=>True) G1
 | _=>False
noncomputable def Hk(a:gI):RQ:=fun E τ G R=>a E τ G fun x G1=>yN x G1 R
noncomputable def IsL(G:Gp)(d:D)(ds:List D):Prop:=d=.fG ds\/∃ a,d=.ref a/\G a=some (.lst ds)
theorem IsL.enc{α:Type} [DecidableEq α] [Enc α]{G:Gp}(xs:List α):IsL G (enc xs) (xs.map enc):=.inl rfl
theorem IsL.ref{G:Gp}{a:Nat}{ds:List D}(h:G a=some (.lst ds)):IsL G (.ref a) ds:=.inr ⟨a,rfl,h⟩
theorem QQ{G:Gp}{d:D}{ds:List D}{R:List D->(Gp->Prop)->Gp->Prop}(h:IsL G d ds)(k:∀ ok:Gp->Prop,(∀ G',ig G G'->ok G')->R ds ok G):Se d G R:=by
 rcases h with rfl | ⟨a,rfl,e⟩
 ·exact k _ fun _ _=>trivial
 ·rw [Me e]; exact k _ fun G' l=>l a _ e
theorem GN{G:Gp}{d:D}{ds:List D}(h:IsL G d ds):∃ ok:Gp->Prop,vt d G=some (ds,ok)/\∀ G',ig G G'->ok G':=by
 rcases h with rfl | ⟨a,rfl,e⟩
 ·exact⟨_,rfl,fun _ _=>trivial⟩
 ·unfold vt; simp only [e]; exact⟨_,rfl,fun G' l=>l a _ e⟩
theorem CC{G:Gp}{d d':D}{ds ds':List D}{R:List D->(Gp->Prop)->Gp->Prop}(h:IsL G d ds)(h':IsL G d' ds')(k:∀ ok:Gp->Prop,(∀ G',ig G G'->ok G')->R (pf ds ds') ok G):tU d d' G R:=by
 obtain⟨k1,e1,h1⟩:=GN h
 obtain⟨k2,e2,h2⟩:=GN h'
 unfold tU; simp only [e1,e2]
 exact k _ fun G' l=>⟨h1 G' l,h2 G' l⟩
theorem L8 {G:Gp} {d:D} {ds:List D} {C:String} {Q:DK} (h:IsL G d ds) (k:Q (.bl (C == "list")) G):isAt C d G Q:=by
 rcases h with rfl | ⟨a,rfl,e⟩
 ·exact k
 ·rw [QJ e]; exact k
theorem zk{G:Gp}{d:D}{ds:List D}{Q:Bool->Gp->Prop}(h:IsL G d ds)(k:Q (!ds.isEmpty) G):sY d G Q:=by
 rcases h with rfl | ⟨a,rfl,e⟩
 ·exact k
 ·rw [MX e]; exact k
theorem mO{G:Gp}{d:D}{ds:List D}(h:IsL G d ds):itemsOf d G=some ds:=by
 rcases h with rfl | ⟨a,rfl,e⟩
 ·rfl
 ·unfold itemsOf; simp only [e]
theorem pz{G:Gp}{d:D}{ds:List D}(h:IsL G d ds):yf d G:=by
 rcases h with rfl | ⟨a,rfl,e⟩
 ·trivial
 ·unfold yf; simp only [e]
theorem P6{G:Gp}{d:D}{ds:List D}{lo hi:Option Int}{Q:DK}(h:IsL G d ds)(k:jo G (.lst (cut ds lo hi)) Q):Vu d lo hi G Q:=by
 rcases h with rfl | ⟨a,rfl,e⟩
 ·exact k
 ·rw [S5 e]; exact k
theorem kP{G:Gp}{d:D}{ds:List D}{Q:DK}(h:IsL G d ds)(k:Q (.int (ds.length:Int)) G):nF [d] G Q:=by
 rcases h with rfl | ⟨a,rfl,e⟩
 ·exact k
 ·rw [RI e]; exact k
theorem RH{G:Gp}{d:D}{ds:List D}{Q:DK}(h:IsL G d ds)(k:jo G (.lst ds) Q):AZ [d] G Q:=by
 unfold AZ; simp only [mO h]; exact k
theorem KU{α:Type} [DecidableEq α] [Enc α] [cA α]{G:Gp}{d:D}{xs:List α}{Q:DK}(h:IsL G d (xs.map enc))(hl:xs.length < 64)(k:jo G (.lst ((Ly xs).map enc)) Q)(ok:autoParam (Qn (cA.xp α)=true) Ad._auto_1):yT [d] G Q :=
 ⟨cA.xp α,xs.map enc,pz h,mO h,by rw [wj,ft]; intro x _; exact cA.Ku x,ok,by rw [ah]; exact hl,by rw [Ca]; exact k⟩
theorem gv{G:Gp}{d x:D}{ds:List D}{i:Int}{Q:DK}(h:IsL G d ds)(e:oz ds i=some x)(k:Q x G):jt d (.int i) G Q:=by
 rcases h with rfl | ⟨a,rfl,e2⟩
 ·rw [S6 e]; exact k
 ·rw [S7 e2 e]; exact k
theorem Aa{G:Gp}{d:D}{ds:List D}(h:IsL G d ds):ql d G=some ds:=by
 rcases h with rfl | ⟨a,rfl,e⟩
 ·rfl
 ·unfold ql; simp only [e]
theorem Uh{G:Gp}{d e:D}{ds es:List D}{Q:DK}(h:IsL G d ds)(h':IsL G e es)(hz:ds.length+es.length<=SZ)(k:jo G (.lst (ds++es)) Q):K0 d e G Q:=by
 unfold K0; simp only [Aa h,Aa h']; exact⟨hz,k⟩
theorem S9{G:Gp}{d e:D}{ds es:List D}{Q:DK}(h:IsL G d ds)(h':IsL G e es)(hz:ds.length+es.length<=SZ)(k:jo G (.lst (ds++es)) Q):qv d e G Q:=by
 have:=Uh h h' hz k
 rcases h with rfl | ⟨a,rfl,_⟩
 ·rw [vk]; exact this
 ·rw [vm]; exact this
theorem RB{α:Type}(xs:List α)(i:Nat)(h:i<=xs.length):cut xs (some (i:Int)) none=xs.drop i:=by
 unfold cut jM
 simp only
 rw [if_neg (by lia),aX,Jk h]
 exact gS (by rw [cM]; lia)
theorem Wt{α:Type}(xs:List α)(i:Nat)(h:i<=xs.length):cut xs none (some (i:Int))=xs.take i:=by
 unfold cut jM
 simp only
 rw [if_neg (by lia),aX,Jk h]
 simp
theorem vV{α β:Type}(f:α->β)(xs:List α)(lo hi:Option Int):cut (xs.map f) lo hi=(cut xs lo hi).map f:=by
 unfold cut; rw [ah,OG,List.map_drop]
theorem kQ{α:Type}(xs:List α){k:Int}(h0:0<=k)(h1:k < xs.length):oz xs k=some (xs[k.toNat]'(by lia)):=by
 unfold oz Ef
 rw [if_pos h0,if_pos h1]
 show xs[k.toNat]?=_
 exact ag (by lia)
theorem jN{n:Nat}{pre post:List D}{d:D}(h:dR 0 n=pre++d :: post):d=.int (pre.length:Int)/\pre.length < n:=by
 have hl:pre.length < n:=by
  have:=congrArg dP h
  simp [dR] at this; lia
 have:=congrArg (fun l=>l[pre.length]?) h
 simp only [dR,bA,List.getElem?_range hl] at this
 rw [cC (aM _)] at this
 simp at this
 exact⟨this.symm,hl⟩
noncomputable def Xr{α β:Type} [DecidableEq α] [Enc α] [DecidableEq β] [Enc β](pre:α->Prop)(f:α->β):oe:=fun ds G Q _=>∃ a:α,ds=[enc a]/\pre a/\Q (enc (f a)) G
noncomputable def aaS{α β γ:Type} [DecidableEq α] [Enc α] [DecidableEq β] [Enc β] [DecidableEq γ] [Enc γ](pre:α->β->Prop)(f:α->β->γ):oe:=fun ds G Q _=>∃ (a:α) (b:β),ds=[enc a,enc b]/\pre a b/\Q (enc (f a b)) G
end K2
end
section
namespace K2
open PySem (Str)
open Enc (enc)
noncomputable def Hf(kvs:List (D×D)):Bool:=kvs.all fun p=>fQ p.1
noncomputable def Hj(x:D)(G1:Gp)(R:List D->(Gp->Prop)->Gp->Prop):Prop:=match x with
 | .kg kvs=>Hf kvs=true/\R (kvs.map fun p=>.tup [p.1,p.2]) (fun _=>True) G1
 | _=>False
noncomputable def Kq(a:gI):RQ:=fun E τ G R=>a E τ G fun x G1=>Hj x G1 R
noncomputable def tM:D->Bool
 | .du=>true
 | .bl _=>true
 | .int _=>true
 | _=>false
section
variable {κ α:Type} [DecidableEq κ] [Enc κ] [DecidableEq α] [Enc α] {l:List (κ×α)} {G G':Gp} {d:D}
theorem NL{β:Type} [DecidableEq β] [Enc β](l:List (Int×β)):Hf (bO l)=true:=by
 unfold Hf bO; rw [wj,ft]; intro p _; rfl
theorem CN(l:List (κ×α)):(bO l).length=l.length:=by unfold bO; rw [ah]
end
section
variable {α:Type} [DecidableEq α] [Enc α] {l:List (Int×α)} {G:Gp} {d:D}
theorem jU{a:Nat}{i:Int}{v:α}{Q:Gp->Prop}(h:G a=some (.iO (bO l)))(hs:l.length < SZ)(k:Q (fK G a (.iO (bO (nG l i v))))):uQ (.ref a) (.int i) (enc v) G Q:=by
 unfold uQ
 simp only [h]
 refine⟨gf l i,by rw [CN]; exact hs,?_⟩
 rw [show (D.int i)=enc i from rfl,LO]; exact k
end
end K2
end
section
namespace K2
open PySem (Str)
open Enc (enc)
noncomputable abbrev TF2:=lP->iH->Gp->(List Str->Gp->Prop)->Prop
end K2
end
section
namespace K2
open PySem (Str)
open Enc (enc)
noncomputable def Wz(ds:List D)(G:Gp)(Q:DK):Prop:=match ds with
 | [x]=>∃ ns:List Int,yf x G/\itemsOf x G=some (ns.map D.int)/\(ns.length<=1000/\∀ n∈ns,-1000<=n/\n<=1000)/\Q (.int ns.sum) G
 | _=>False
end K2
end
section
namespace K2
open PySem (Str)
open Enc (enc)
noncomputable def EF(ds:List D)(G:Gp)(Q:DK):Prop:=match ds with
 | [.ref a]=>(match G a with
  | some (.iO kvs)=>kvs.length<=1000/\jo G (.lst (kvs.map (·.1))) Q
  | _=>False)
 | _=>False
noncomputable def cInt(ds:List D)(G:Gp)(Q:DK):Prop:=match ds with
 | [.bl b]=>Q (.int (if b=true then 1 else 0)) G
 | _=>False
end K2
end
section
namespace K2
open PySem (Str)
open Enc (enc)
noncomputable def KN(r r':BU)(ta tb tc:gI):gI:=fun E τ G Q=>ta E τ G fun x G1=>tb E τ G1 fun y G2=>r x y G2 fun z G3=>∃ k,z=.bl k/\(if k=true then tc E τ G3 fun w G4=>r' y w G4 Q else Q (.bl false) G3)
end K2
end
section
namespace K2
open PySem (Str)
open Enc (enc)
noncomputable def h2(t:T2):Int:=PySem.reduceHash (PySem.Builtin.Tuple.tupleHashOf [PySem.hashInt t.a,PySem.hashInt t.b])
noncomputable def Qv(x:D)(ds:List D)(G:Gp)(Q:DK):Prop:=match x,ds with
 | .ref a,[y]=>∃ l m:List (T2×T2),G a=some (.iO (bO l))/\y=.kg (bO m)/\(l.length+m.length<=500/\((l++m).map (·.1)).Nodup/\(l=[]->(m.map fun p=>h2 p.1).Nodup))/\Q .du (fK G a (.iO (bO (l++m))))
 | _,_=>False
noncomputable def KL(t:gI):gI:=fun E τ G Q=>t E τ G fun x G1=>∃ l:List (T2×T2),x=.kg (bO l)/\l.length<=500/\jo G1 (.lst (l.map fun p=>enc p.2)) Q
noncomputable def su(ds:List D)(G:Gp)(Q:DK):Prop:=match ds with
 | [x]=>∃ l:List T2,ql x G=some (l.map enc)/\(1<=l.length/\l.length < 64)/\∀ m:List T2,m.Nodup->(∀ y,y∈m↔y∈l)->jo G (.lst ((Ly m).map enc)) Q
 | _=>False
noncomputable def T7(neg:Bool)(ns:List Int)(a:gI):gI:=fun E τ G Q=>a E τ G fun x G1=>∃ i,x=.int i/\Q (.bl (if neg then !ns.contains i else ns.contains i)) G1
end K2
end
section
namespace K2
open PySem (Str)
noncomputable def HI:D->Bool
 | .fG ds=>ds.all tM
 | d=>tM d
noncomputable def YN(z y:Nat)(t:gI):List D->lP->iH->Gp->(iH->Prop)->Prop
 | [],_,τ,_,R=>R τ
 | k :: ks,E,τ,G,R=>t E (τ.set z (some k)) G fun d G1=>YN z y t ks E ((τ.set z (some k)).set y (some d)) G1 R
noncomputable def UU(i z y:Nat)(t:gI):iT:=fun E K τ G=>∃ p kvs,τ[i]?=some (some (.ref p))/\G p=some (.iO kvs) /\
 YN z y t (kvs.map (·.1)) E (τ.set i (some (.kg kvs))) (fun _=>none) fun nK=>∃ d,nK[y]?=some (some d)/\HI d=true/\K.nx ((τ.set z none).set y (some d)) G
end K2
namespace K2
noncomputable def Nf(neg:Bool):BU:=fun x y G Q=>match y with
 | .kg []=>(∃ n,x=.int n)/\Q (.bl neg) G
 | y=>R9 neg x y G Q
theorem LJ{neg:Bool}{x y:D}{G:Gp}{Q:DK}(h:y≠.kg []):Nf neg x y G Q=R9 neg x y G Q:=by
 unfold Nf
 split
 ·exact absurd rfl h
 ·rfl
end K2
end
section
namespace K2.S
open PySem PySem.SetTable
noncomputable def f5(m i:Nat):Nat:=(i * 5+1) % (m+1)
noncomputable def Sb(m:Nat):Nat->Nat->Nat
 | 0,i=>i
 | k+1,i=>Sb m k (f5 m i)
theorem yL(m:Nat):∀ (a b i:Nat),Sb m (a+b) i=Sb m b (Sb m a i)
 | 0,b,i=>by rw [fT]; rfl
 | a+1,b,i=>by rw [E2]; exact yL m a b (f5 m i)
noncomputable def Mk(m:Nat):Prop:=m=7\/m=31\/m=127
noncomputable def XH(m:Nat):Nat->Nat->List Nat
 | 0,_=>[]
 | k+1,i=>i :: XH m k (f5 m i)
theorem DQ(m:Nat):∀ (n i e:Nat),e∈XH m n i->∃ k,k < n/\Sb m k i=e
 | 0,_,_,h=>by cases h
 | n+1,i,e,h=>by
  rcases List.mem_cons.mp h with rfl | h
  ·exact⟨0,kL _,rfl⟩
  ·obtain⟨k,hk,q⟩:=DQ m n (f5 m i) e h
   exact⟨k+1,Nat.succ_lt_succ hk,q⟩
theorem Tn{m:Nat}(h:Mk m):(∀ e,e < m+1->e∈XH m (m+1) 0)/\Sb m (m+1) 0=0:=by
 have key:∀ m,((bq (m+1)).all fun e=>(XH m (m+1) 0).contains e)=true->Sb m (m+1) 0=0->(∀ e,e < m+1->e∈XH m (m+1) 0)/\Sb m (m+1) 0=0:=fun m h1 h2 =>
  ⟨fun e he=>by simpa using (List.all_eq_true.mp h1) e (List.mem_range.mpr he),h2⟩
 rcases h with rfl | rfl | rfl
 ·exact key _ (by decide +kernel) (by decide +kernel)
 ·exact key _ (by decide +kernel) (by decide +kernel)
 ·exact key _ (by decide +kernel) (by decide +kernel)
theorem cover{m:Nat}(h:Mk m){i e:Nat}(hi:i < m+1)(he:e < m+1):∃ k,k < m+1/\Sb m k i=e:=by
 obtain⟨all,back⟩:=Tn h
 obtain⟨a,ha,qa⟩:=DQ m _ _ _ (all i hi)
 obtain⟨b,hb,qb⟩:=DQ m _ _ _ (all e he)
 by_cases c:a<=b
 ·refine⟨b - a,by lia,?_⟩
  rw [← qa,← yL,show a+(b - a)=b by lia,qb]
 ·refine⟨m+1 - a+b,by lia,?_⟩
  rw [← qa,← yL,show a+(m+1 - a+b)=(m+1)+b by lia,yL,back,qb]
noncomputable def lp(m:Nat):Nat->Nat×Nat->Nat×Nat
 | 0,x=>x
 | k+1,x=>lp m k (leap m x.1 x.2)
theorem Qy(m:Nat):∀ (a b:Nat) (x:Nat×Nat),lp m (a+b) x=lp m b (lp m a x)
 | 0,b,i=>by rw [fT]; rfl
 | a+1,b,i=>by rw [E2]; exact Qy m a b _
theorem LU(m:Nat):∀ (k:Nat) (x:Nat×Nat),(lp m k x).2=x.2 / 32 ^ k
 | 0,x=>by rw [Nat.pow_zero,Nat.div_one]; rfl
 | k+1,x=>by
  show (lp m k _).2=_
  rw [LU m k]
  show x.2 / 32 / 32 ^ k=_
  rw [Nat.div_div_eq_div_mul,E4,E5]
theorem LS(m:Nat):∀ (k i:Nat),lp m k (i,0)=(Sb m k i,0)
 | 0,_=>rfl
 | k+1,i=>by
  show lp m k ((i * 5+1+0 / 32) % (m+1),0 / 32)=_
  rw [Nat.zero_div,Nat.add_zero]
  exact LS m k _
theorem UG(m:Nat):∀ (k:Nat) (x:Nat×Nat),x.1 < m+1->(lp m k x).1 < m+1
 | 0,_,h=>h
 | k+1,x,_=>UG m k _ (jX _ (kL m))
theorem GP{m:Nat}(h:Mk m){x:Nat×Nat}(h1:x.1 < m+1)(h2:x.2 < 2 ^ 64){e:Nat}(he:e < m+1):∃ k,k < m+14/\(lp m k x).1=e:=by
 have z:(lp m 13 x).2=0:=by
  rw [LU]; exact Nat.div_eq_of_lt (cv h2 (by decide))
 obtain⟨k,hk,q⟩:=cover h (UG m 13 x h1) he
 refine⟨13+k,by lia,?_⟩
 rw [Qy,show lp m 13 x=((lp m 13 x).1,0) from by rw [← z],LS]
 exact q
noncomputable def lF(m:Nat)(p:Probe):Probe :=
 if p.more > 0 then { p with j:=p.j+1,more:=p.more - 1 } else
 { p with j:=(leap m p.i p.perturb).1,more:=runEnd m (leap m p.i p.perturb).1 - (leap m p.i p.perturb).1,i:=(leap m p.i p.perturb).1,perturb:=(leap m p.i p.perturb).2 }
noncomputable def eV(m:Nat):Nat->Probe->Probe
 | 0,p=>p
 | k+1,p=>eV m k (lF m p)
theorem jy(m:Nat):∀ (a b:Nat) (p:Probe),eV m (a+b) p=eV m b (eV m a p)
 | 0,b,p=>by rw [fT]; rfl
 | a+1,b,p=>by rw [E2]; exact jy m a b _
theorem M5(m k:Nat)(p:Probe):eV m (k+1) p=lF m (eV m k p):=jy m k 1 p
noncomputable def Oh(m:Nat)(x:Nat×Nat):Probe:={ j:=x.1,more:=runEnd m x.1 - x.1,i:=x.1,perturb:=x.2,dummy:=none }
theorem more_le(m i:Nat):runEnd m i - i<=9:=by unfold runEnd; split <;> lia
theorem uX(m:Nat):∀ (n:Nat) (p:Probe),p.more=n->p.dummy=none->eV m (n+1) p=Oh m (leap m p.i p.perturb)
 | 0,p,h,hd=>by
  show lF m p=_
  unfold lF
  rw [if_neg (by lia)]
  obtain⟨j,mo,i,pe,d⟩:=p
  cases hd; rfl
 | n+1,p,h,hd=>by
  show eV m (n+1) (lF m p)=_
  have e:lF m p={ p with j:=p.j+1,more:=p.more - 1 }:=by unfold lF; rw [if_pos (by lia)]
  rw [e]
  exact uX m n _ (by show p.more - 1=n; lia) hd
theorem Zu(m:Nat):∀ (k:Nat) (x:Nat×Nat),∃ n,n<=10 * k/\eV m n (Oh m x)=Oh m (lp m k x)
 | 0,x=>⟨0,aM _,rfl⟩
 | k+1,x=>by
  obtain⟨n,hn,q⟩:=Zu m k (leap m x.1 x.2)
  refine⟨(runEnd m x.1 - x.1+1)+n,?_,?_⟩
  ·have:=more_le m x.1; lia
  ·rw [jy,uX m (runEnd m x.1 - x.1) (Oh m x) rfl rfl]; exact q
structure Pb(m:Nat)(p:Probe):Prop where
 hi:p.i < m+1
 hp:p.perturb < 2 ^ 64
 hm:p.more<=9
 hd:p.dummy=none
theorem Pb.leap{m:Nat}{p:Probe}(h:Pb m p):(leap m p.i p.perturb).1 < m+1/\(leap m p.i p.perturb).2 < 2 ^ 64 :=
 ⟨jX _ (kL m),qx (Nat.div_le_self _ _) h.hp⟩
theorem Pb.lF{m:Nat}{p:Probe}(h:Pb m p):Pb m (lF m p):=by
 unfold S.lF
 split
 ·exact⟨h.hi,h.hp,cG (OD _ _) h.hm,h.hd⟩
 ·exact⟨h.leap.1,h.leap.2,more_le _ _,h.hd⟩
theorem Pb.eV{m:Nat}:∀ (k:Nat) {p:Probe},Pb m p->Pb m (eV m k p)
 | 0,_,h=>h
 | k+1,_,h=>Pb.eV k h.lF
theorem Pb.cover{m:Nat}(hm:Mk m){p:Probe}(h:Pb m p){e:Nat}(he:e < m+1):∃ n,n < 10 * turns m/\(S.eV m n p).j=e:=by
 obtain⟨k,hk,q⟩:=GP hm h.leap.1 h.leap.2 he
 obtain⟨n,hn,q2⟩:=Zu m k (SetTable.leap m p.i p.perturb)
 refine⟨p.more+1+n,?_,?_⟩
 ·have:=h.hm; unfold turns; lia
 ·rw [jy,uX m p.more p rfl h.hd,q2]; exact q
theorem Pb.start(t:ik)(h:Int):Pb t.mask (t.probeStart h):=by
 refine⟨jX _ (kL _),?_,more_le _ _,rfl⟩
 show bits h < 2 ^ 64
 unfold bits
 have h1:0<=h % (2 ^ 64:Int):=dZ _ (by decide)
 have h2:h % (2 ^ 64:Int) < 2 ^ 64:=dE _ (by decide)
 lia
end K2.S
end
section
namespace K2.S
open PySem PySem.SetTable
noncomputable def Up(xs:Array Nat):Prop:=∀ a b,a < b->b < xs.size->xs.getD a 0 < xs.getD b 0
theorem Rb(xs:Array Nat){k:Nat}(h:k < xs.size)(a b:Nat):xs.getD k a=xs.getD k b:=by
 rw [bC,bC,bz h]; rfl
theorem Eh{xs:Array Nat}(up:Up xs)(j:Nat):∀ (fuel lo hi:Nat),hi - lo<=fuel->lo<=hi->hi<=xs.size->(∀ k,k < lo->xs.getD k 0 < j)->(∀ k,hi<=k->k < xs.size->j<=xs.getD k 0) ->
  below.go xs j fuel lo hi<=xs.size/\(∀ k,k < below.go xs j fuel lo hi->xs.getD k 0 < j)/\(∀ k,below.go xs j fuel lo hi<=k->k < xs.size->j<=xs.getD k 0)
 | 0,lo,hi,h1,h2,h3,h4,h5=>by
  have e:lo=hi:=by lia
  subst e
  exact⟨h3,h4,h5⟩
 | fuel+1,lo,hi,h1,h2,h3,h4,h5=>by
  show (below.go xs j (fuel+1) lo hi)<=_/\_
  unfold below.go
  by_cases c:lo < hi
  ·rw [if_pos c]
   have hm:(lo+hi) / 2 < xs.size:=by lia
   dsimp only
   rw [Rb xs hm j 0]
   by_cases q:xs.getD ((lo+hi) / 2) 0 < j
   ·rw [if_pos q]
    refine Eh up j fuel _ _ (by lia) (by lia) h3 (fun k hk=>?_) h5
    by_cases e:k=(lo+hi) / 2
    ·rw [e]; exact q
    ·exact Sy (up _ _ (by lia) hm) q
   ·rw [if_neg q]
    refine Eh up j fuel _ _ (by lia) (by lia) (by lia) h4 fun k hk hs=>?_
    by_cases e:k=(lo+hi) / 2
    ·rw [e]; lia
    ·have:=up ((lo+hi) / 2) k (by lia) hs; lia
  ·rw [if_neg c]
   exact⟨by lia,h4,fun k hk hs=>h5 k (by lia) hs⟩
theorem p9{xs:Array Nat}(up:Up xs)(j:Nat):below xs j<=xs.size/\(∀ k,k < below xs j->xs.getD k 0 < j)/\(∀ k,below xs j<=k->k < xs.size->j<=xs.getD k 0) :=
 Eh up j _ _ _ (by lia) (by lia) (by lia) (fun k h=>by lia) (fun k h1 h2=>by lia)
theorem below_at{xs:Array Nat}(up:Up xs){k:Nat}(hk:k < xs.size):below xs (xs.getD k 0)=k:=by
 obtain⟨h1,h2,h3⟩:=p9 up (xs.getD k 0)
 by_cases a:below xs (xs.getD k 0) < k
 ·have:=h3 _ (aM _) (by lia)
  have:=up _ _ a hk
  lia
 ·by_cases b:k < below xs (xs.getD k 0)
  ·have:=h2 _ b; lia
  ·lia
noncomputable def Full(xs:Array Nat)(j:Nat):Prop:=∃ k,k < xs.size/\xs.getD k 0=j
theorem Up.inj{xs:Array Nat}(up:Up xs){a b:Nat}(ha:a < xs.size)(hb:b < xs.size)(e:xs.getD a 0=xs.getD b 0):a=b:=by
 by_cases c:a < b
 ·have:=up _ _ c hb; lia
 ·by_cases d:b < a
  ·have:=up _ _ d ha; lia
  ·lia
theorem Q9(xs:Array Nat){k:Nat}(h:k < xs.size):xs[k]?=some (xs.getD k 0):=by
 rw [bC,bz h]; rfl
theorem Cb{t:ik}(up:Up t.place){k:Nat}(hk:k < t.place.size):t.slot (t.place.getD k 0)=.live k:=by
 unfold slot
 dsimp only
 rw [below_at up hk,Q9 _ hk]
 rw [if_pos (by simp)]
theorem JL{t:ik}(up:Up t.place)(dm:t.dummies=#[]){j:Nat}(h:¬ Full t.place j):t.slot j=.empty:=by
 unfold slot
 dsimp only
 have n1:(t.place[below t.place j]? == some j)=false:=by
  rw [Bool.eq_false_iff]
  intro q
  have q:=beq_iff_eq.mp q
  obtain⟨lt,e⟩:=Array.getElem?_eq_some_iff.mp q
  exact h ⟨_,lt,by rw [bC,q]; rfl⟩
 rw [n1,dm]
 rfl
theorem JM{t:ik}(up:Up t.place)(dm:t.dummies=#[])(j:Nat):(¬ Full t.place j/\t.slot j=.empty)\/(∃ k,k < t.place.size/\t.place.getD k 0=j/\t.slot j=.live k):=by
 by_cases h:Full t.place j
 ·obtain⟨k,hk,e⟩:=h
  exact .inr ⟨k,hk,e,e ▸ Cb up hk⟩
 ·exact .inl ⟨h,JL up dm h⟩
theorem Gd{t:ik}(up:Up t.place)(dm:t.dummies=#[])(hashAt:Nat->Int)(h:Int):∀ (fuel:Nat) (p:Probe),Pb t.mask p->(∃ n,n < fuel/\¬ Full t.place (eV t.mask n p).j) ->
    ∃ n met,probe.go t hashAt h fuel p=some met/\(∀ n',n' < n->∃ k,k < t.place.size/\t.place.getD k 0=(eV t.mask n' p).j/\hashAt k≠h) /\
      ((¬ Full t.place (eV t.mask n p).j/\met=.empty (eV t.mask n p).j none) \/
       (∃ k,k < t.place.size/\t.place.getD k 0=(eV t.mask n p).j/\hashAt k=h/\met=.candidate (eV t.mask n p).j k (eV t.mask (n+1) p)))
  | 0,_,_,⟨n,hn,_⟩=>absurd hn (cE _)
  | fuel+1,p,hp,⟨n,hn,hf⟩=>by
    rcases JM up dm p.j with ⟨nf,e⟩ | ⟨k,hk,ek,e⟩
    · refine⟨0,.empty p.j p.dummy,?_,fun n' z=>absurd z (cE _),.inl ⟨nf,by rw [hp.hd]; rfl⟩⟩
      unfold probe.go
      rw [e]
    · by_cases q:hashAt k=h
      · refine⟨0,.candidate p.j k (t.advance p),?_,fun n' z=>absurd z (cE _),.inr ⟨k,hk,ek,q,rfl⟩⟩
        unfold probe.go
        rw [e]
        dsimp only
        rw [if_pos (beq_iff_eq.mpr q)]
      · have hn0:∃ m,n=m+1:=by
          cases n with
          | zero=>exact absurd ⟨k,hk,ek⟩ hf
          | succ m=>exact⟨m,rfl⟩
        obtain⟨m,rfl⟩:=hn0
        obtain⟨n',met,g,all,fin⟩:=Gd up dm hashAt h fuel (lF t.mask p) hp.lF ⟨m,by lia,hf⟩
        refine⟨n'+1,met,?_,fun n'' z=>?_,fin⟩
        · unfold probe.go
          rw [e]
          dsimp only
          rw [if_neg (fun z=>q (beq_iff_eq.mp z))]
          exact g
        · cases n'' with
          | zero=>exact⟨k,hk,ek,q⟩
          | succ n''=>exact all n'' (by lia)
end K2.S
end
section
namespace K2.S
open PySem PySem.SetTable
noncomputable abbrev En:=Array (Int×Value)
noncomputable def hk(es:En)(k:Nat):Int:=(es[k]?.map (·.1)).getD 0
structure Ul(t:ik)(es:En):Prop where
 ms:Mk t.mask
 dm:t.dummies=#[]
 sz:t.place.size=es.size
 up:Up t.place
 le:∀ k,k < t.place.size->t.place.getD k 0<=t.mask
 mU:t.place.size<=t.mask
 way:∀ k,k < t.place.size->∃ n,(eV t.mask n (probeStart t (hk es k))).j=t.place.getD k 0/\∀ n',n' < n->Full t.place (eV t.mask n' (probeStart t (hk es k))).j
theorem QP{xs:Array Nat}(up:Up xs){m:Nat}(all:∀ e,e<=m->Full xs e):∀ e,e<=m->∀ k,k < xs.size->xs.getD k 0=e->e<=k
 | 0,_,_,_,_=>cJ _
 | e+1,he,k,hk,q=>by
  obtain⟨k',Sk,q'⟩:=all e (by lia)
  have ih:=QP up all e (by lia) k' Sk q'
  have:k' < k:=by
   by_cases c:k' < k
   ·exact c
   ·by_cases d:k=k'
    ·subst d; lia
    ·have:=up k k' (by lia) Sk; lia
  lia
theorem M7{xs:Array Nat}(up:Up xs){m:Nat}(mU:xs.size<=m):∃ e,e<=m/\¬ Full xs e:=by
 apply cj
 intro no
 have all:∀ e,e<=m->Full xs e:=fun e he=>cj fun z=>no ⟨e,he,z⟩
 obtain⟨k,hk,q⟩:=all m (aM _)
 have:=QP up all m (aM _) k hk q
 lia
theorem AF{t:ik}{es:En}(O:Ul t es)(p:Probe)(hp:Pb t.mask p):∃ N,N < 10 * turns t.mask/\¬ Full t.place (eV t.mask N p).j/\∀ n,n < N->Full t.place (eV t.mask n p).j:=by
 obtain⟨e,he,hf⟩:=M7 O.up O.mU
 obtain⟨n0,hn,q⟩:=hp.cover O.ms (show e < t.mask+1 by lia)
 have:∀ n,n<=n0->(∃ N,N < 10 * turns t.mask/\¬ Full t.place (eV t.mask N p).j/\∀ n,n < N->Full t.place (eV t.mask n p).j)\/(∀ n',n' < n->Full t.place (eV t.mask n' p).j):=by
  intro n
  induction n with
  | zero=>intro _; exact .inr fun n' z=>absurd z (cE _)
  | succ n ih =>
   intro Hm
   rcases ih (by lia) with a | a
   ·exact .inl a
   ·by_cases c:Full t.place (eV t.mask n p).j
    ·refine .inr fun n' z=>?_
     by_cases d:n'=n
     ·rw [d]; exact c
     ·exact a n' (by lia)
    ·exact .inl ⟨n,by lia,c,a⟩
 rcases this n0 (aM _) with a | a
 ·exact a
 ·exact⟨n0,hn,by rw [q]; exact hf,a⟩
theorem iz{α:Type}(xs:Array α)(p:Nat)(x:α)(hp:p<=xs.size):(insertAt xs p x).size=xs.size+1:=by
 rw [← bJ,toList_insertAt,aq,ak,dW,cM,bJ]; lia
theorem vF{α:Type}(xs:Array α)(p:Nat)(x:α)(hp:p<=xs.size)(k:Nat):(insertAt xs p x)[k]?=if k < p then xs[k]? else if k=p then some x else xs[k - 1]?:=by
 rw [← cP,toList_insertAt]
 have hl:(xs.toList.take p).length=p:=by rw [dW,bJ]; lia
 by_cases c:k < p
 ·rw [if_pos c,dG (by lia),kr c,cP]
 ·rw [if_neg c,cC (by lia),hl]
  by_cases d:k=p
  ·subst d; rw [if_pos rfl,E3]; rfl
  ·rw [if_neg d,show k - p=(k - p - 1)+1 by lia,ae,Bj,show p+(k - p - 1)=k - 1 by lia,cP]
theorem jD(xs:Array Nat)(p x:Nat)(hp:p<=xs.size)(k:Nat):(insertAt xs p x).getD k 0=if k < p then xs.getD k 0 else if k=p then x else xs.getD (k - 1) 0:=by
 rw [bC,vF xs p x hp]
 split
 ·rw [bC]
 ·split
  ·rfl
  ·rw [bC]
theorem Nh(t:ik)(dm:t.dummies=#[])(j:Nat):t.put j=({ t with place:=insertAt t.place (below t.place j) j },below t.place j):=by
 unfold SetTable.put
 dsimp only
 rw [dm]
 have:has #[] j=false:=rfl
 rw [this]
 cases t
 cases dm
 rfl
theorem Hv{xs:Array Nat}{p j:Nat}(hp:p<=xs.size){e:Nat}:Full (insertAt xs p j) e↔Full xs e\/e=j:=by
 constructor
 ·rintro⟨k,hk,q⟩
  rw [iz xs p j hp] at hk
  rw [jD xs p j hp] at q
  by_cases c:k < p
  ·rw [if_pos c] at q; exact .inl ⟨k,by lia,q⟩
  ·rw [if_neg c] at q
   by_cases d:k=p
   ·rw [if_pos d] at q; exact .inr q.symm
   ·rw [if_neg d] at q; exact .inl ⟨k - 1,by lia,q⟩
 ·rintro(⟨k,hk,q⟩ | q)
  ·by_cases c:k < p
   ·exact⟨k,by rw [iz xs p j hp]; lia,by rw [jD xs p j hp,if_pos c]; exact q⟩
   ·exact⟨k+1,by rw [iz xs p j hp]; lia,by rw [jD xs p j hp,if_neg (by lia),if_neg (by lia)]; exact q⟩
  ·exact⟨p,by rw [iz xs p j hp]; lia,by rw [jD xs p j hp,if_neg (by lia),if_pos rfl]; exact q.symm⟩
theorem Ul.add{t:ik}{es:En}(O:Ul t es){h:Int}{x:Value}{N:Nat}(h1:¬ Full t.place (eV t.mask N (probeStart t h)).j)(h2:∀ n,n < N->Full t.place (eV t.mask n (probeStart t h)).j)
  (hj:(eV t.mask N (probeStart t h)).j<=t.mask) (room:t.place.size+1<=t.mask) {t':ik} (e1:t'.mask=t.mask) (e2:t'.dummies=t.dummies)
  (e3:t'.place=insertAt t.place (below t.place (eV t.mask N (probeStart t h)).j) (eV t.mask N (probeStart t h)).j) :
  Ul t' (insertAt es (below t.place (eV t.mask N (probeStart t h)).j) (h,x)):=by
 generalize ej:(eV t.mask N (probeStart t h)).j=j at *
 obtain⟨b1,b2,b3⟩:=p9 O.up j
 generalize below t.place j=p at *
 have RM:p<=es.size:=by rw [← O.sz]; exact b1
 have Va:t'.place.size=t.place.size+1:=by rw [e3,iz _ _ _ b1]
 have NR:∀ h,probeStart t' h=probeStart t h:=fun h=>by unfold probeStart; rw [e1]
 have fl:∀ e,Full t.place e->Full t'.place e:=fun e z=>by rw [e3]; exact(Hv b1).mpr (.inl z)
 refine⟨by rw [e1]; exact O.ms,e2.trans O.dm,by rw [Va,iz _ _ _ RM,O.sz],?_,?_,by rw [Va,e1]; exact room,?_⟩
 ·intro a b ab hb
  rw [Va] at hb
  rw [e3,jD _ _ _ b1,jD _ _ _ b1]
  by_cases c1:a < p
  ·rw [if_pos c1]
   by_cases c2:b < p
   ·rw [if_pos c2]; exact O.up a b ab (by lia)
   ·rw [if_neg c2]
    by_cases c3:b=p
    ·rw [if_pos c3]; exact b2 a c1
    ·rw [if_neg c3]
     by_cases c4:a=b - 1
     ·lia
     ·exact O.up a (b - 1) (by lia) (by lia)
  ·rw [if_neg c1,if_neg (by lia:¬ b < p),if_neg (by lia:¬ b=p)]
   by_cases c3:a=p
   ·rw [if_pos c3]
    have:=b3 (b - 1) (by lia) (by lia)
    by_cases c5:t.place.getD (b - 1) 0=j
    ·exact absurd ⟨b - 1,by lia,c5⟩ h1
    ·lia
   ·rw [if_neg c3]; exact O.up (a - 1) (b - 1) (by lia) (by lia)
 ·intro k hk
  rw [Va] at hk
  rw [e3,jD _ _ _ b1,e1]
  by_cases c1:k < p
  ·rw [if_pos c1]; exact O.le k (by lia)
  ·rw [if_neg c1]
   by_cases c2:k=p
   ·rw [if_pos c2]; exact hj
   ·rw [if_neg c2]; exact O.le (k - 1) (by lia)
 ·intro k hk
  rw [Va] at hk
  have key:∀ k',k' < t.place.size->hk=hk->(insertAt es p (h,x))[k]?=es[k']?->t'.place.getD k 0=t.place.getD k' 0 ->
    ∃ n,(eV t'.mask n (probeStart t' (S.hk (insertAt es p (h,x)) k))).j=t'.place.getD k 0/\∀ n',n' < n->Full t'.place (eV t'.mask n' (probeStart t' (S.hk (insertAt es p (h,x)) k))).j:=by
   intro k' Sk _ ee ep
   obtain⟨n,q1,q2⟩:=O.way k' Sk
   have eh:S.hk (insertAt es p (h,x)) k=S.hk es k':=by unfold S.hk; rw [ee]
   rw [eh,NR,e1,ep]
   exact⟨n,q1,fun n' z=>fl _ (q2 n' z)⟩
  by_cases c1:k < p
  ·refine key k (by lia) rfl ?_ ?_
   ·rw [vF _ _ _ RM,if_pos c1]
   ·rw [e3,jD _ _ _ b1,if_pos c1]
  ·by_cases c2:k=p
   ·have eh:S.hk (insertAt es p (h,x)) k=h:=by unfold S.hk; rw [vF _ _ _ RM,if_neg c1,if_pos c2]; rfl
    rw [eh,NR,e1,e3,jD _ _ _ b1,if_neg c1,if_pos c2]
    refine⟨N,ej,fun n' z=>?_⟩
    exact(Hv b1).mpr (.inl (h2 n' z))
   ·refine key (k - 1) (by lia) rfl ?_ ?_
    ·rw [vF _ _ _ RM,if_neg c1,if_neg c2]
    ·rw [e3,jD _ _ _ b1,if_neg c1,if_neg c2]
end K2.S
end
section
namespace K2.S
open PySem PySem.SetTable
theorem Uv(m:Nat)(x:Nat×Nat):∀ n,n<=runEnd m x.1 - x.1->eV m n (Oh m x)={ Oh m x with j:=x.1+n,more:=runEnd m x.1 - x.1 - n }
 | 0,_=>rfl
 | n+1,h=>by
  rw [M5,Uv m x n (by lia)]
  unfold lF
  dsimp only
  rw [if_pos (by lia)]
  rfl
theorem DD{m i:Nat}(h:i < m+1){n:Nat}(hn:n<=runEnd m i - i):i+n < m+1:=by
 unfold runEnd at hn
 split at hn <;> lia
noncomputable def ow(o:Array (Option Nat))(j:Nat):Option Nat:=o.getD j none
theorem Tj{o:Array (Option Nat)}{j:Nat}(h:j < o.size):o.getD j (some 0)=ow o j:=by
 unfold ow; rw [bC,bC,bz h]; rfl
theorem UB{o:Array (Option Nat)}{j k:Nat}(h:ow o j=some k):j < o.size:=by
 apply cj
 intro z
 unfold ow at h
 rw [bC,gR (by lia)] at h
 cases h
theorem CJ{m:Nat}{o:Array (Option Nat)}(sz:o.size=m+1):∀ (fuel:Nat) (x:Nat×Nat),x.1 < m+1->(∃ k,k < fuel/\ow o (lp m k x).1=none) ->
  ∃ n j,layClean.free m o fuel x.1 x.2=some j/\(eV m n (Oh m x)).j=j/\j < m+1/\ow o j=none/\∀ n',n' < n->(eV m n' (Oh m x)).j < m+1/\ow o (eV m n' (Oh m x)).j≠none
 | 0,_,_,⟨_,h,_⟩=>absurd h (cE _)
 | fuel+1,x,hx,⟨k,hk,q⟩=>by
  have pe:∀ n,n<=runEnd m x.1 - x.1->(o.getD (x.1+n) (some 0))=ow o (x.1+n):=fun n hn=>Tj (by rw [sz]; exact DD hx hn)
  have pj:∀ n,n<=runEnd m x.1 - x.1->(eV m n (Oh m x)).j=x.1+n:=fun n hn=>by rw [Uv m x n hn]
  have hre:x.1<=runEnd m x.1:=by unfold runEnd; split <;> lia
  cases hf:(bq (runEnd m x.1+1 - x.1)).find? fun k=>(o.getD (x.1+k) (some 0)).isNone with
  | some n =>
   obtain⟨h1,h2,h3⟩:=List.find?_range_eq_some.mp hf
   have hn:n<=runEnd m x.1 - x.1:=by have:=List.mem_range.mp h2; lia
   rw [pe n hn] at h1
   refine⟨n,x.1+n,?_,pj n hn,DD hx hn,Option.isNone_iff_eq_none.mp h1,fun n' z=>?_⟩
   ·unfold layClean.free; rw [hf]
   ·have Hm:n'<=runEnd m x.1 - x.1:=by lia
    have:=h3 n' z
    rw [pe n' Hm] at this
    rw [pj n' Hm]
    refine⟨DD hx Hm,fun e=>?_⟩
    rw [e] at this; cases this
  | none =>
   have h3:=List.find?_range_eq_none.mp hf
   have all:∀ n',n'<=runEnd m x.1 - x.1->ow o (x.1+n')≠none:=fun n' Hm e=>by
    have:=h3 n' (by lia)
    rw [pe n' Hm,e] at this; cases this
   obtain⟨k,rfl⟩:∃ k',k=k'+1:=by
    cases k with
    | zero=>exact absurd q (all 0 (cJ _))
    | succ k=>exact⟨k,rfl⟩
   obtain⟨n,j,g,gj,hj,gn,ga⟩:=CJ sz fuel (leap m x.1 x.2) (jX _ (kL m)) ⟨k,by lia,q⟩
   refine⟨(runEnd m x.1 - x.1+1)+n,j,?_,?_,hj,gn,fun n' z=>?_⟩
   ·unfold layClean.free; rw [hf]; exact g
   ·rw [jy,uX m (runEnd m x.1 - x.1) (Oh m x) rfl rfl]; exact gj
   ·by_cases c:n'<=runEnd m x.1 - x.1
    ·rw [pj n' c]; exact⟨DD hx c,all n' c⟩
    ·have e:n'=(runEnd m x.1 - x.1+1)+(n' - (runEnd m x.1 - x.1+1)):=by lia
     rw [e,jy,uX m (runEnd m x.1 - x.1) (Oh m x) rfl rfl]
     exact ga _ (by lia)
theorem pig:∀ (L:Nat) (l:List Nat),l.Nodup->(∀ x∈l,x < L)->l.length<=L
 | 0,l,_,h=>by
  cases l with
  | nil=>exact aM _
  | cons a r=>exact absurd (h a ay) (cE _)
 | L+1,l,hn,h=>by
  have:=pig L (l.erase L) (hn.erase L) fun x hx=>by
   have:=(hn.mem_erase_iff).mp hx
   have:=h x this.2
   lia
  rw [List.length_erase] at this
  split at this <;> lia
noncomputable def NR(m:Nat)(h:Int):Probe:=Oh m (bits h % (m+1),bits h)
structure Lay(m:Nat)(hs:List Int)(o:Array (Option Nat)):Prop where
 sz:o.size=m+1
 lt:∀ j k,ow o j=some k->k < hs.length
 one:∀ k,k < hs.length->∃ j,ow o j=some k
 uni:∀ j j' k,ow o j=some k->ow o j'=some k->j=j'
 way:∀ j k,ow o j=some k->∃ n,(eV m n (NR m (hs.getD k 0))).j=j/\∀ n',n' < n->ow o (eV m n' (NR m (hs.getD k 0))).j≠none
theorem Lay.nil(m:Nat):Lay m [] (Array.replicate (m+1) none):=by
 have no:∀ j,ow (Array.replicate (m+1) none) j=none:=fun j=>by
  unfold ow
  rw [bC,Array.getElem?_replicate]
  split <;> rfl
 refine⟨Array.size_replicate,fun j k h=>?_,fun k h=>absurd h (cE _),fun j j' k h=>?_,fun j k h=>?_⟩ <;> (rw [no] at h; cases h)
theorem Lay.free{m:Nat}{hs:List Int}{o:Array (Option Nat)}(L:Lay m hs o)(mU:hs.length<=m):∃ j,j < m+1/\ow o j=none:=by
 apply cj
 intro no
 have all:∀ j,j < m+1->ow o j≠none:=fun j hj e=>no ⟨j,hj,e⟩
 have nd:((bq (m+1)).map fun j=>(ow o j).getD 0).Nodup:=by
  rw [jY,iB]
  refine Bm (fun {a b} ha hb kD e=>?_) (List.nodup_iff_pairwise_ne.mp (List.nodup_range (n:=m+1)))
  obtain⟨x,hx⟩:=Option.ne_none_iff_exists'.mp (all a (List.mem_range.mp ha))
  obtain⟨y,hy⟩:=Option.ne_none_iff_exists'.mp (all b (List.mem_range.mp hb))
  rw [hx,hy] at e
  have e:x=y:=e
  subst e
  exact kD (L.uni a b x hx hy)
 have:=pig hs.length _ nd fun x hx=>by
  obtain⟨j,hj,rfl⟩:=List.mem_map.mp hx
  obtain⟨k,e⟩:=Option.ne_none_iff_exists'.mp (all j (List.mem_range.mp hj))
  rw [e]; exact L.lt j k e
 rw [ah,d4] at this
 lia
theorem JQ{o:Array (Option Nat)}{j k:Nat}(hj:j < o.size)(i:Nat):ow (o.setIfInBounds j (some k)) i=if j=i then some k else ow o i:=by
 unfold ow
 rw [bC,Array.getElem?_setIfInBounds]
 by_cases c:j=i
 ·rw [if_pos c,if_pos c,if_pos hj]; rfl
 ·rw [if_neg c,if_neg c,bC]
theorem Lay.step{m:Nat}(hm:Mk m){hs:List Int}{o:Array (Option Nat)}(L:Lay m hs o)(mU:hs.length<=m)(h:Int) :
  ∃ j,layClean.free m o (turns m) (bits h % (m+1)) (bits h)=some j/\Lay m (hs++[h]) (o.setIfInBounds j (some hs.length)):=by
 obtain⟨e,he,hf⟩:=L.free mU
 have hb:bits h < 2 ^ 64:=by
  unfold bits
  have h1:0<=h % (2 ^ 64:Int):=dZ _ (by decide)
  have h2:h % (2 ^ 64:Int) < 2 ^ 64:=dE _ (by decide)
  lia
 have hx:bits h % (m+1) < m+1:=jX _ (kL m)
 obtain⟨k,hk,q⟩:=GP hm (x:=(bits h % (m+1),bits h)) hx hb he
 obtain⟨n,j,g,gj,hj,gn,ga⟩:=CJ L.sz (turns m) (bits h % (m+1),bits h) hx ⟨k,by unfold turns; lia,by rw [q]; exact hf⟩
 have hjs:j < o.size:=by rw [L.sz]; exact hj
 have old:∀ i k,ow o i=some k->ow (o.setIfInBounds j (some hs.length)) i=some k:=fun i k z=>by
  rw [JQ hjs,if_neg (fun z2:j=i=>by rw [← z2,gn] at z; cases z)]; exact z
 have inv:∀ i k,ow (o.setIfInBounds j (some hs.length)) i=some k->(i=j/\k=hs.length)\/(i≠j/\ow o i=some k/\k < hs.length):=fun i k z=>by
  rw [JQ hjs] at z
  by_cases c:j=i
  ·rw [if_pos c] at z; cases z; exact .inl ⟨c.symm,rfl⟩
  ·rw [if_neg c] at z; exact .inr ⟨fun z2=>c z2.symm,z,L.lt _ _ z⟩
 have nn:∀ i,ow o i≠none->ow (o.setIfInBounds j (some hs.length)) i≠none:=fun i z=>by
  obtain⟨k,e⟩:=Option.ne_none_iff_exists'.mp z
  rw [old i k e]; exact fun z=>by cases z
 refine⟨j,g,⟨by rw [Array.size_setIfInBounds]; exact L.sz,fun i k z=>?_,fun k hk=>?_,fun i i' k z z'=>?_,fun i k z=>?_⟩⟩
 ·rw [aq,bp]
  rcases inv i k z with ⟨_,rfl⟩ | ⟨_,_,hk⟩ <;> lia
 ·rw [aq,bp] at hk
  by_cases c:k=hs.length
  ·exact⟨j,by rw [JQ hjs,if_pos rfl,c]⟩
  ·obtain⟨i,z⟩:=L.one k (by lia)
   exact⟨i,old i k z⟩
 ·rcases inv i k z with ⟨a,b⟩ | ⟨a,b,c⟩ <;> rcases inv i' k z' with ⟨a',b'⟩ | ⟨a',b',c'⟩
  ·rw [a,a']
  ·lia
  ·lia
  ·exact L.uni i i' k b b'
 ·rcases inv i k z with ⟨a,b⟩ | ⟨a,b,c⟩
  ·have e:(hs++[h]).getD k 0=h:=by rw [b,az,cC (aM _),E3]; rfl
   rw [e,a]
   exact⟨n,gj,fun n' z=>nn _ (ga n' z).2⟩
  ·have e:(hs++[h]).getD k 0=hs.getD k 0:=by rw [az,dG c,← az]
   rw [e]
   obtain⟨n,q1,q2⟩:=L.way i k b
   exact⟨n,q1,fun n' z=>nn _ (q2 n' z)⟩
theorem LY{m:Nat}(hm:Mk m):∀ (hs:List Int) (Sf:List Int) (o:Array (Option Nat)),Lay m Sf o->Sf.length+hs.length<=m+1 ->
  ∃ o',hs.foldl (fun acc h=>do
   let (owner,k) ← acc
   let j ← layClean.free m owner (turns m) (bits h % (m+1)) (bits h)
   pure (owner.setIfInBounds j (some k),k+1)) (some (o,Sf.length))=some (o',(Sf++hs).length)/\Lay m (Sf++hs) o'
 | [],Sf,o,L,_=>⟨o,by rw [cc]; rfl,by rw [cc]; exact L⟩
 | h :: hs,Sf,o,L,mU=>by
  obtain⟨j,g,L'⟩:=L.step hm (by rw [ak] at mU; lia) h
  obtain⟨o',e,L''⟩:=LY hm hs (Sf++[h]) _ L' (by rw [aq,bp]; rw [ak] at mU; lia)
  rw [cH,List.singleton_append] at e L''
  refine⟨o',?_,L''⟩
  rw [dQ]
  rw [aq,bp] at e
  rw [← e]
  congr 1
  show (do let j ← layClean.free m o (turns m) (bits h % (m+1)) (bits h); pure (o.setIfInBounds j (some Sf.length),Sf.length+1))=_
  rw [g]; rfl
theorem GR{m:Nat}(hm:Mk m)(hs:Array Int)(mU:hs.size<=m+1):∃ o,layClean m hs=some o/\Lay m hs.toList o:=by
 obtain⟨o,e,L⟩:=LY hm hs.toList [] _ (Lay.nil m) (by rw [aG,bJ]; lia)
 refine⟨o,?_,L⟩
 unfold layClean
 rw [← Array.foldl_toList]
 rw [aG] at e
 rw [e]
 rfl
end K2.S
end
section
namespace K2.S
open PySem PySem.SetTable
theorem Rh(es:En):∀ (l:List Nat),(∀ k∈l,k < es.size)->l.filterMap (es[·]?)=l.map fun k=>es.getD k (0,.none)
 | [],_=>rfl
 | k :: l,h=>by
  have hk:k < es.size:=h k ay
  have e:es[k]?=some (es.getD k (0,.none)):=by rw [bC,bz hk]; rfl
  rw [List.filterMap_cons_some e,au,Rh es l fun x hx=>h x (ao _ hx)]
theorem Tz{m:Nat}(hm:Mk m)(es:En)(mU:es.size<=m)(finger moves:Nat)(led plain:Bool) :
  ∃ t' order,laid m finger moves led plain (es.map (·.1))=some (t',order)/\t'.mask=m/\t'.led=led/\t'.plain=plain/\(order.filterMap (es[·]?)).size=es.size /\
   List.Perm (order.filterMap (es[·]?)).toList es.toList/\Ul t' (order.filterMap (es[·]?)):=by
 obtain⟨o,e,L⟩:=GR hm (es.map (·.1)) (by rw [Array.size_map]; lia)
 have hl:(es.map (·.1)).toList.length=es.size:=by rw [bJ,Array.size_map]
 generalize hlv:((bq (m+1)).filterMap fun j=>(o.getD j none).map (j,·))=lv
 have mem:∀ p:Nat×Nat,p∈lv↔ow o p.1=some p.2:=by
  rintro⟨j,k⟩
  rw [← hlv,List.mem_filterMap]
  constructor
  ·rintro⟨a,_,q⟩
   obtain⟨b,hb,q⟩:=Option.map_eq_some_iff.mp q
   cases q; exact hb
  ·intro q
   exact⟨j,List.mem_range.mpr (by have:=UB q; rw [L.sz] at this; exact this),Option.map_eq_some_iff.mpr ⟨k,q,rfl⟩⟩
 have asc:lv.Pairwise fun a b=>a.1 < b.1:=by
  rw [← hlv]
  refine List.Pairwise.filterMap _ (fun a a' r b hb b' Hs=>?_) (uv (n:=m+1))
  obtain⟨_,_,rfl⟩:=Option.map_eq_some_iff.mp hb
  obtain⟨_,_,rfl⟩:=Option.map_eq_some_iff.mp Hs
  exact r
 have nd:(lv.map (·.2)).Nodup:=by
  rw [jY,iB]
  refine Bm (fun {a b} ha hb r e=>?_) asc
  have h1:=(mem a).mp ha
  have h2:=(mem b).mp hb
  rw [e] at h1
  have:=L.uni _ _ _ h1 h2
  lia
 have pm:(lv.map (·.2)).Perm (bq es.size):=by
  refine(Jl nd List.nodup_range).mpr fun k=>?_
  rw [ya,List.mem_map]
  constructor
  ·rintro⟨p,hp,rfl⟩
   have:=L.lt _ _ ((mem p).mp hp)
   rw [hl] at this; exact this
  ·intro hk
   obtain⟨j,q⟩:=L.one k (by rw [hl]; exact hk)
   exact⟨(j,k),(mem _).mpr q,rfl⟩
 have ll:lv.length=es.size:=by have:=pm.length_eq; rw [ah,d4] at this; exact this
 have inb:∀ k∈lv.map (·.2),k < es.size:=fun k hk=>List.mem_range.mp (pm.mem_iff.mp hk)
 have es':((lv.map (·.2)).toArray.filterMap (es[·]?)).toList=lv.map fun p=>es.getD p.2 (0,.none):=by
  rw [OM,Rh es _ inb,bV]; rfl
 have pes:List.Perm ((lv.map (·.2)).toArray.filterMap (es[·]?)).toList es.toList:=by
  rw [OM]
  refine(pm.filterMap _).trans ?_
  rw [filterMap_getElem?_range]
 have ges:∀ i,((lv.map (·.2)).toArray.filterMap (es[·]?))[i]?=lv[i]?.map fun p:Nat×Nat=>es.getD p.2 (0,.none):=fun i=>by
  rw [← cP,es',bA]
 have szs:((lv.map (·.2)).toArray.filterMap (es[·]?)).size=es.size:=by
  rw [← bJ,pes.length_eq,bJ]
 have YM:∀ i (hi:i < lv.length),(lv.map (·.1)).toArray.getD i 0=lv[i].1:=fun i hi=>by
  rw [bC,RY,bA,ag hi]; rfl
 have WR:(lv.map (·.1)).toArray.size=es.size:=by rw [aZ,ah,ll]
 have ful:∀ j,ow o j≠none->Full (lv.map (·.1)).toArray j:=fun j z=>by
  obtain⟨k,q⟩:=Option.ne_none_iff_exists'.mp z
  obtain⟨i,hi,ei⟩:=da ((mem (j,k)).mpr q)
  exact⟨i,by rw [WR,← ll]; exact hi,by rw [YM i hi,ei]⟩
 refine⟨{ mask:=m,place:=(lv.map (·.1)).toArray,dummies:=#[],finger,led,moves,plain },(lv.map (·.2)).toArray,?_,rfl,rfl,rfl,szs,pes,?_⟩
 ·unfold laid
  rw [e]
  show some _=some _
  rw [hlv]
 ·refine⟨hm,rfl,by show (lv.map (·.1)).toArray.size=_; rw [WR,szs],?_,?_,by show (lv.map (·.1)).toArray.size<=m; rw [WR]; exact mU,?_⟩
  ·intro a b ab hb
   have hb:b < lv.length:=by rw [ll,← WR]; exact hb
   show (lv.map (·.1)).toArray.getD a 0 < (lv.map (·.1)).toArray.getD b 0
   rw [YM a (by lia),YM b hb]
   exact List.pairwise_iff_getElem.mp asc a b (by lia) hb ab
  ·intro k hk
   have hk:k < lv.length:=by rw [ll,← WR]; exact hk
   show (lv.map (·.1)).toArray.getD k 0<=m
   rw [YM k hk]
   have:=UB ((mem _).mp (cq hk))
   rw [L.sz] at this; lia
  ·intro k hk
   have hk:k < lv.length:=by rw [ll,← WR]; exact hk
   have hi:=(mem _).mp (cq hk)
   have lG:=inb lv[k].2 (aW (cq hk))
   have eh:S.hk ((lv.map (·.2)).toArray.filterMap (es[·]?)) k=(es.map (·.1)).toList.getD lv[k].2 0:=by
    unfold S.hk
    rw [ges,ag hk,az,cP,Array.getElem?_map,bz lG]
    show (es.getD lv[k].2 (0,.none)).1=(es[lv[k].2]).1
    rw [bC,bz lG]; rfl
   rw [eh]
   obtain⟨n,q1,q2⟩:=L.way _ _ hi
   refine⟨n,?_,fun n' z=>ful _ (q2 n' z)⟩
   show _=(lv.map (·.1)).toArray.getD k 0
   rw [YM k hk]; exact q1
end K2.S
end
section
namespace K2
open PySem PySem.Spec PyProof.Rows L2
noncomputable def Xe(K:aj)(H:Hp)(a:Addr)(xs:List V):Prop :=
 (∃ o,H a=some (.lW o (.lst xs))) \/
  ∃ (o:Obj) (bM:Array Value) (n:Nat),K.lookup a=some o/\o.cls=.type "list"/\o.dict=none/\o.data=.seq bM n/\bM.size<=bG/\Vals xs bM.toList
theorem Xe.sq{K:aj}{H:Hp}{a:Addr}{xs:List V}(h:Xe K H a xs):qt K H a xs:=by
 rcases h with ⟨o,h⟩ | h
 ·exact .inl (.inr ⟨o,h⟩)
 ·exact .inr h
noncomputable def eE:Key->D
 | .inl i=>.int i
 | .inr x=>.str x
noncomputable def ExcAt(K:aj)(H:Hp)(a:Addr)(c:Str):Prop:=∃ (o:Obj) (C:Addr),H a=some (.lW o (.ext fun h=>h.get? a=some o))/\o.cls=.ref C/\br K aY c=some (some (.ref C))
mutual
inductive cX (K:aj) (H:Hp):V->D->Prop
 | du:cX K H .du .du
 | bl (b:Bool):cX K H (.bl b) (.bl b)
 | int (i:Int):cX K H (.int i) (.int i)
 | str (x:Str):cX K H (.str x) (.str x)
 | tup {a:Addr} {vs:List V} {ds:List D}:H a=some (.tup vs)->bF K H vs ds->cX K H (.ref a) (.tup ds)
 | fG {a:Addr} {vs:List V} {ds:List D}:Xe K H a vs->bF K H vs ds->cX K H (.ref a) (.fG ds)
 | oK {a:Addr} {o:Obj} {kv:List (Key×V)} {kvs:List (D×D)}:H a=some (.lW o (.dK kv))->oA K H kv kvs->cX K H (.ref a) (.kg kvs)
 | oJ {a:Addr} {o:Obj} {kv:List (List Key×V)} {kvs:List (D×D)}:H a=some (.lW o (.dT kv))->lQ K H kv kvs->cX K H (.ref a) (.kg kvs)
 | ref (a:Addr):cX K H (.ref a) (.ref a)
 | exc {a:Addr} {c:Str}:ExcAt K H a c->cX K H (.ref a) (.exc c)
inductive bF (K:aj) (H:Hp):List V->List D->Prop
 | nil:bF K H [] []
 | cons {v:V} {d:D} {vs:List V} {ds:List D}:cX K H v d->bF K H vs ds->bF K H (v :: vs) (d :: ds)
inductive oA (K:aj) (H:Hp):List (Key×V)->List (D×D)->Prop
 | nil:oA K H [] []
 | cons {k:Key} {v:V} {d:D} {r:List (Key×V)} {t:List (D×D)}:cX K H v d->oA K H r t->oA K H ((k,v) :: r) ((eE k,d) :: t)
inductive lQ (K:aj) (H:Hp):List (List Key×V)->List (D×D)->Prop
 | nil:lQ K H [] []
 | cons {k:List Key} {v:V} {d:D} {r:List (List Key×V)} {t:List (D×D)}:cX K H v d->lQ K H r t->lQ K H ((k,v) :: r) ((.tup (k.map eE),d) :: t)
end
structure Kp(H H':Hp):Prop where
 tup:∀ a xs,H a=some (.tup xs)->H' a=some (.tup xs)
 lW:∀ a o u,H a=some (.lW o u)->H' a=some (.lW o u)
theorem Kp.refl(H:Hp):Kp H H:=⟨fun _ _ h=>h,fun _ _ _ h=>h⟩
theorem Kp.trans{H H1 H2:Hp}(a:Kp H H1)(b:Kp H1 H2):Kp H H2:=⟨fun c xs h=>b.tup c xs (a.tup c xs h),fun c o u h=>b.lW c o u (a.lW c o u h)⟩
theorem Kp.sqT{K:aj}{H H':Hp}{a:Addr}{xs:List V}(k:Kp H H')(h:A7 K H a xs):A7 K H' a xs:=by
 rcases h with (h | ⟨o,h⟩) | h
 ·exact .inl (.inl (k.tup _ _ h))
 ·exact .inl (.inr ⟨o,k.lW _ _ _ h⟩)
 ·exact .inr h
theorem Kp.Vh{K:aj}{H H':Hp}{a:Addr}{xs:List V}(k:Kp H H')(h:Xe K H a xs):Xe K H' a xs:=by
 rcases h with ⟨o,h⟩ | h
 ·exact .inl ⟨o,k.lW _ _ _ h⟩
 ·exact .inr h
theorem ExcAt.mono{K:aj}{H H':Hp}(k:Kp H H'){a:Addr}{c:Str}(h:ExcAt K H a c):ExcAt K H' a c :=
 let ⟨o,C,h1,h2,h3⟩:=h
 ⟨o,C,k.lW _ _ _ h1,h2,h3⟩
theorem bF.Kn{K:aj}{H:Hp}{P:List V->List D->Prop}(h0:P [] [])(h1:∀ {v:V} {d:D} {vs:List V} {ds:List D},cX K H v d->bF K H vs ds->P vs ds->P (v :: vs) (d :: ds)){vs:List V}{ds:List D}(h:bF K H vs ds):P vs ds :=
 bF.rec (motive_1:=fun _ _ _=>True) (motive_2:=fun vs ds _=>P vs ds) (motive_3:=fun _ _ _=>True) (motive_4:=fun _ _ _=>True) trivial (fun _=>trivial) (fun _=>trivial) (fun _=>trivial) (fun _ _ _=>trivial) (fun _ _ _=>trivial) (fun _ _ _=>trivial) (fun _ _ _=>trivial) (fun _=>trivial) (fun _=>trivial) h0 (fun a b _ ih=>h1 a b ih) trivial (fun _ _ _ _=>trivial) trivial (fun _ _ _ _=>trivial) h
theorem cX.mono{K:aj}{H H':Hp}(k:Kp H H'):∀ {v:V} {d:D},cX K H v d->cX K H' v d:=fun h =>
 cX.rec (motive_1:=fun v d _=>cX K H' v d) (motive_2:=fun v d _=>bF K H' v d) (motive_3:=fun v d _=>oA K H' v d) (motive_4:=fun v d _=>lQ K H' v d)
  .du .bl .int .str (fun h _ r=>.tup (k.tup _ _ h) r) (fun h _ r=>.fG (k.Vh h) r) (fun h _ r=>.oK (k.lW _ _ _ h) r) (fun h _ r=>.oJ (k.lW _ _ _ h) r) .ref (fun h=>.exc (h.mono k)) .nil (fun _ _ a b=>.cons a b) .nil (fun _ _ a b=>.cons a b) .nil (fun _ _ a b=>.cons a b) h
theorem bF.mono{K:aj}{H H':Hp}(k:Kp H H'){v:List V}{d:List D}(h:bF K H v d):bF K H' v d :=
 bF.Kn (P:=fun v d=>bF K H' v d) .nil (fun r _ ih=>.cons (r.mono k) ih) h
theorem oA.mono{K:aj}{H H':Hp}(k:Kp H H'){v:List (Key×V)}{d:List (D×D)}(h:oA K H v d):oA K H' v d :=
 oA.rec (motive_1:=fun v d _=>cX K H' v d) (motive_2:=fun v d _=>bF K H' v d) (motive_3:=fun v d _=>oA K H' v d) (motive_4:=fun v d _=>lQ K H' v d)
  .du .bl .int .str (fun h _ r=>.tup (k.tup _ _ h) r) (fun h _ r=>.fG (k.Vh h) r) (fun h _ r=>.oK (k.lW _ _ _ h) r) (fun h _ r=>.oJ (k.lW _ _ _ h) r) .ref (fun h=>.exc (h.mono k)) .nil (fun _ _ a b=>.cons a b) .nil (fun _ _ a b=>.cons a b) .nil (fun _ _ a b=>.cons a b) h
theorem lQ.mono{K:aj}{H H':Hp}(k:Kp H H'){v:List (List Key×V)}{d:List (D×D)}(h:lQ K H v d):lQ K H' v d :=
 lQ.rec (motive_1:=fun v d _=>cX K H' v d) (motive_2:=fun v d _=>bF K H' v d) (motive_3:=fun v d _=>oA K H' v d) (motive_4:=fun v d _=>lQ K H' v d)
  .du .bl .int .str (fun h _ r=>.tup (k.tup _ _ h) r) (fun h _ r=>.fG (k.Vh h) r) (fun h _ r=>.oK (k.lW _ _ _ h) r) (fun h _ r=>.oJ (k.lW _ _ _ h) r) .ref (fun h=>.exc (h.mono k)) .nil (fun _ _ a b=>.cons a b) .nil (fun _ _ a b=>.cons a b) .nil (fun _ _ a b=>.cons a b) h
theorem bF.length{K:aj}{H:Hp}:∀ {vs:List V} {ds:List D},bF K H vs ds->vs.length=ds.length:=fun h =>
 bF.Kn (P:=fun vs ds=>vs.length=ds.length) rfl (fun _ _ ih=>congrArg (· + 1) ih) h
theorem bF.get{K:aj}{H:Hp}:∀ {vs:List V} {ds:List D} {i:Nat} {d:D},bF K H vs ds->ds[i]?=some d->∃ v,vs[i]?=some v/\cX K H v d:=by
 intro vs ds i d h
 refine bF.Kn (P:=fun vs ds=>∀ (i:Nat) (d:D),ds[i]?=some d->∃ v,vs[i]?=some v/\cX K H v d) (fun i d e=>by cases e) (fun r _ ih i d e=>?_) h i d
 cases i with
 | zero=>cases e; exact⟨_,rfl,r⟩
 | succ i=>exact ih i d e
theorem bF.append{K:aj}{H:Hp}:∀ {vs ws:List V} {ds es:List D},bF K H vs ds->bF K H ws es->bF K H (vs++ws) (ds++es):=fun {_ ws _ es} h s =>
 bF.Kn (P:=fun vs ds=>bF K H (vs++ws) (ds++es)) s (fun r _ ih=>.cons r ih) h
theorem bF.take{K:aj}{H:Hp}:∀ {vs:List V} {ds:List D} (n:Nat),bF K H vs ds->bF K H (vs.take n) (ds.take n):=fun {_ _} n h =>
 bF.Kn (P:=fun vs ds=>∀ n,bF K H (vs.take n) (ds.take n)) (fun n=>by rw [Bi,Bi]; exact .nil) (fun r _ ih n=>by
  cases n with
  | zero=>exact .nil
  | succ n=>exact .cons r (ih n)) h n
theorem bF.drop{K:aj}{H:Hp}:∀ {vs:List V} {ds:List D} (n:Nat),bF K H vs ds->bF K H (vs.drop n) (ds.drop n):=fun {_ _} n h =>
 bF.Kn (P:=fun vs ds=>∀ n,bF K H (vs.drop n) (ds.drop n)) (fun n=>by rw [Bk,Bk]; exact .nil) (fun r t ih n=>by
  cases n with
  | zero=>exact .cons r t
  | succ n=>exact ih n) h n
theorem bF.set{K:aj}{H:Hp}{v:V}{d:D}(r:cX K H v d):∀ {vs:List V} {ds:List D} (i:Nat),bF K H vs ds->bF K H (vs.set i v) (ds.set i d):=fun {_ _} i h =>
 bF.Kn (P:=fun vs ds=>∀ i,bF K H (vs.set i v) (ds.set i d)) (fun i=>by rw [Dc,Dc]; exact .nil) (fun q t ih i=>by
  cases i with
  | zero=>exact .cons r t
  | succ i=>exact .cons q (ih i)) h i
theorem bF.one{K:aj}{H:Hp}:∀ {vs:List V} {d:D},bF K H vs [d]->∃ v,vs=[v]/\cX K H v d:=by
 intro vs d h
 cases h with
 | cons r t=>cases t; exact⟨_,rfl,r⟩
theorem bF.two{K:aj}{H:Hp}:∀ {vs:List V} {d e:D},bF K H vs [d,e]->∃ v u,vs=[v,u]/\cX K H v d/\cX K H u e:=by
 intro vs d e h
 cases h with
 | cons r t =>
  obtain⟨u,rfl,q⟩:=bF.one t
  exact⟨_,_,rfl,r,q⟩
theorem bF.zero{K:aj}{H:Hp}:∀ {vs:List V},bF K H vs []->vs=[]
 | _,.nil=>rfl
theorem bF.ints{K:aj}{H:Hp}:∀ {vs:List V} {ns:List Int},bF K H vs (ns.map D.int)->vs=ns.map V.int:=by
 intro vs ns
 induction ns generalizing vs with
 | nil=>intro h; exact h.zero
 | cons n ns ih =>
  intro h
  cases h with
  | cons r t =>
   cases r
   rw [ih t]; rfl
theorem bF.DW{K:aj}{H:Hp}:∀ (ns:List Int),bF K H (ns.map V.int) (ns.map D.int)
 | []=>.nil
 | n :: ns=>.cons (.int n) (bF.DW ns)
theorem oA.ind{K:aj}{H:Hp}{motive:∀ (kv:List (Key×V)) (kvs:List (D×D)),oA K H kv kvs->Prop}(nil:motive [] [] .nil)
  (cons:∀ {k:Key} {v:V} {d:D} {r:List (Key×V)} {t:List (D×D)} (re:cX K H v d) (rs:oA K H r t),motive r t rs->motive ((k,v) :: r) ((eE k,d) :: t) (.cons re rs)):∀ {kv:List (Key×V)} {kvs:List (D×D)} (h:oA K H kv kvs),motive kv kvs h:=fun h =>
 oA.rec (motive_1:=fun _ _ _=>True) (motive_2:=fun _ _ _=>True) (motive_3:=motive) (motive_4:=fun _ _ _=>True) trivial (fun _=>trivial) (fun _=>trivial) (fun _=>trivial) (fun _ _ _=>trivial) (fun _ _ _=>trivial) (fun _ _ _=>trivial) (fun _ _ _=>trivial) (fun _=>trivial) (fun _=>trivial) trivial (fun _ _ _ _=>trivial) nil (fun a b _ ih=>cons a b ih) trivial (fun _ _ _ _=>trivial) h
theorem lQ.ind{K:aj}{H:Hp}{motive:∀ (kv:List (List Key×V)) (kvs:List (D×D)),lQ K H kv kvs->Prop}(nil:motive [] [] .nil)
  (cons:∀ {k:List Key} {v:V} {d:D} {r:List (List Key×V)} {t:List (D×D)} (re:cX K H v d) (rs:lQ K H r t),motive r t rs->motive ((k,v) :: r) ((.tup (k.map eE),d) :: t) (.cons re rs)):∀ {kv:List (List Key×V)} {kvs:List (D×D)} (h:lQ K H kv kvs),motive kv kvs h:=fun h =>
 lQ.rec (motive_1:=fun _ _ _=>True) (motive_2:=fun _ _ _=>True) (motive_3:=fun _ _ _=>True) (motive_4:=motive) trivial (fun _=>trivial) (fun _=>trivial) (fun _=>trivial) (fun _ _ _=>trivial) (fun _ _ _=>trivial) (fun _ _ _=>trivial) (fun _ _ _=>trivial) (fun _=>trivial) (fun _=>trivial) trivial (fun _ _ _ _=>trivial) trivial (fun _ _ _ _=>trivial) nil (fun a b _ ih=>cons a b ih) h
theorem oA.length{K:aj}{H:Hp}:∀ {v:List (Key×V)} {d:List (D×D)},oA K H v d->v.length=d.length:=fun h =>
 oA.ind (motive:=fun v d _=>v.length=d.length) rfl (fun _ _ ih=>congrArg (· + 1) ih) h
theorem lQ.length{K:aj}{H:Hp}:∀ {v:List (List Key×V)} {d:List (D×D)},lQ K H v d->v.length=d.length:=fun h =>
 lQ.ind (motive:=fun v d _=>v.length=d.length) rfl (fun _ _ ih=>congrArg (· + 1) ih) h
noncomputable def OA(K:aj)(H:Hp)(a:Addr):GO->Prop
 | .lst ds=>∃ vs,H a=some (.lst vs)/\bF K H vs ds
 | .iO kvs=>(∃ kv,H a=some (.dK kv)/\oA K H kv kvs)\/∃ kv,H a=some (.dT kv)/\lQ K H kv kvs
noncomputable def mw(K:aj)(H:Hp)(G:Gp):Prop:=∀ a g,G a=some g->OA K H a g
theorem OA.dk{K:aj}{H:Hp}{a:Addr}{kv:List (Key×V)}{kvs:List (D×D)}(h:H a=some (.dK kv))(r:oA K H kv kvs):OA K H a (.iO kvs):=.inl ⟨kv,h,r⟩
theorem OA.dt{K:aj}{H:Hp}{a:Addr}{kv:List (List Key×V)}{kvs:List (D×D)}(h:H a=some (.dT kv))(r:lQ K H kv kvs):OA K H a (.iO kvs):=.inr ⟨kv,h,r⟩
theorem OA.mono{K:aj}{H H':Hp}{a:Addr}{g:GO}(k:Kp H H')(e:H' a=H a)(h:OA K H a g):OA K H' a g:=by
 cases g with
 | lst ds=>obtain⟨vs,q,r⟩:=h; exact⟨vs,e.trans q,r.mono k⟩
 | iO kvs =>
  rcases h with ⟨kv,q,r⟩ | ⟨kv,q,r⟩
  ·exact .inl ⟨kv,e.trans q,r.mono k⟩
  ·exact .inr ⟨kv,e.trans q,r.mono k⟩
theorem OA.tracked{K:aj}{H:Hp}{a:Addr}{g:GO}(h:OA K H a g):H a≠none:=by
 cases g with
 | lst ds=>obtain⟨vs,q,r⟩:=h; rw [q]; simp
 | iO kvs =>
  rcases h with ⟨kv,q,r⟩ | ⟨kv,q,r⟩
  ·rw [q]; simp
  ·rw [q]; simp
theorem mw.free{K:aj}{H:Hp}{G:Gp}{a:Addr}(h:mw K H G)(e:H a=none):G a=none:=by
 cases q:G a with
 | none=>rfl
 | some g=>exact absurd e (h a g q).tracked
theorem mw.XW{K:aj}{H:Hp}{G:Gp}{a:Addr}{xs:List V}(h:mw K H G)(e:H a=some (.tup xs)):G a=none:=by
 cases q:G a with
 | none=>rfl
 | some g =>
  have z:=h a g q
  cases g with
  | lst ds=>obtain⟨vs,q,r⟩:=z; rw [e] at q; cases q
  | iO kvs =>
   rcases z with ⟨kv,q,r⟩ | ⟨kv,q,r⟩
   ·rw [e] at q; cases q
   ·rw [e] at q; cases q
theorem mw.XX{K:aj}{H:Hp}{G:Gp}{a:Addr}{o:Obj}{u:HO}(h:mw K H G)(e:H a=some (.lW o u)):G a=none:=by
 cases q:G a with
 | none=>rfl
 | some g =>
  have z:=h a g q
  cases g with
  | lst ds=>obtain⟨vs,q,r⟩:=z; rw [e] at q; cases q
  | iO kvs =>
   rcases z with ⟨kv,q,r⟩ | ⟨kv,q,r⟩
   ·rw [e] at q; cases q
   ·rw [e] at q; cases q
structure Mv(K:aj)(H:Hp)(G:Gp)(H':Hp)(G':Gp):Prop where
 keep:∀ a o,H a=some o->G a=none->H' a=some o/\G' a=none
 nA:∀ a,G a≠none->H' a≠none
 ab:mw K H' G'
theorem Mv.refl{K:aj}{H:Hp}{G:Gp}(h:mw K H G):Mv K H G H G:=⟨fun _ _ e n=>⟨e,n⟩,fun a n=>by
 cases q:G a with
 | none=>exact absurd q n
 | some g=>exact(h a g q).tracked,h⟩
theorem Mv.trans{K:aj}{H H1 H2:Hp}{G G1 G2:Gp}(a:Mv K H G H1 G1)(b:Mv K H1 G1 H2 G2):Mv K H G H2 G2 :=
 ⟨fun c o e n=>let ⟨e1,n1⟩:=a.keep c o e n; b.keep c o e1 n1,fun c n=>by
  have h1:=a.nA c n
  cases q:G1 c with
  | some g=>exact b.nA c (by rw [q]; simp)
  | none =>
   cases q1:H1 c with
   | none=>exact absurd q1 h1
   | some o=>rw [(b.keep c o q1 q).1]; simp,b.ab⟩
theorem Mv.kp{K:aj}{H H':Hp}{G G':Gp}(m:Mv K H G H' G')(h:mw K H G):Kp H H' :=
 ⟨fun a xs e=>(m.keep a _ e (h.XW e)).1,fun a o u e=>(m.keep a _ e (h.XX e)).1⟩
theorem Kp.new{H:Hp}{p:Addr}{o:HO}(hp:H p=none):Kp H (upd H p o):=⟨fun a xs e=>by rw [cu (fA e hp)]; exact e,fun a ob u e=>by rw [cu (fA e hp)]; exact e⟩
theorem Kp.putL{H:Hp}{p:Addr}{xs:List V}{o:HO}(hp:H p=some (.lst xs)):Kp H (upd H p o) :=
 ⟨fun a ys e=>by rw [cu (by rintro rfl; rw [hp] at e; cases e)]; exact e,fun a ob u e=>by rw [cu (by rintro rfl; rw [hp] at e; cases e)]; exact e⟩
theorem Mv.new{K:aj}{H:Hp}{G:Gp}{p:Addr}{o:HO}{g:GO}(h:mw K H G)(hp:H p=none)(ho:OA K (upd H p o) p g):Mv K H G (upd H p o) (fK G p g) where
 keep:=fun a ob e n=>by
  have ne:=fA e hp
  exact⟨by rw [cu ne]; exact e,by rw [dU ne]; exact n⟩
 nA:=fun a n=>by
  have ne:a≠p:=by rintro rfl; exact n (h.free hp)
  rw [cu ne]
  exact(Mv.refl h).nA a n
 ab:=fun a g' e=>by
  by_cases ha:a=p
  ·subst ha; rw [aO] at e; cases e; exact ho
  ·rw [dU ha] at e
   exact(h a g' e).mono (.new hp) (cu ha)
theorem Mv.OR{K:aj}{H:Hp}{G:Gp}{p:Addr}{o:HO}(h:mw K H G)(hp:H p=none):Mv K H G (upd H p o) G where
 keep:=fun a ob e n=>⟨by rw [cu (fA e hp)]; exact e,n⟩
 nA:=fun a n=>by
  have ne:a≠p:=by rintro rfl; exact n (h.free hp)
  rw [cu ne]
  exact(Mv.refl h).nA a n
 ab:=fun a g' e=>by
  have ne:a≠p:=by rintro rfl; rw [h.free hp] at e; cases e
  exact(h a g' e).mono (.new hp) (cu ne)
theorem Mv.put{K:aj}{H:Hp}{G:Gp}{p:Addr}{o:HO}{g g0:GO}(h:mw K H G)(hg:G p=some g0)(k:Kp H (upd H p o))(ho:OA K (upd H p o) p g):Mv K H G (upd H p o) (fK G p g) where
 keep:=fun a ob e n=>by
  have ne:a≠p:=by rintro rfl; rw [hg] at n; cases n
  exact⟨by rw [cu ne]; exact e,by rw [dU ne]; exact n⟩
 nA:=fun a n=>by
  by_cases ha:a=p
  ·subst ha; rw [dj]; simp
  ·rw [cu ha]; exact(Mv.refl h).nA a n
 ab:=fun a g' e=>by
  by_cases ha:a=p
  ·subst ha; rw [aO] at e; cases e; exact ho
  ·rw [dU ha] at e
   exact(h a g' e).mono k (cu ha)
theorem mw.lst{K:aj}{H:Hp}{G:Gp}{a:Addr}{ds:List D}(h:mw K H G)(e:G a=some (.lst ds)):∃ vs,H a=some (.lst vs)/\bF K H vs ds:=h a _ e
theorem Mv.BA{K:aj}{H:Hp}{G:Gp}{p:Addr}{vs:List V}{ds:List D}(h:mw K H G)(hp:H p=none)(r:bF K H vs ds):Mv K H G (upd H p (.lst vs)) (fK G p (.lst ds)) :=
 .new h hp ⟨vs,dj,r.mono (.new hp)⟩
theorem Mv.putL{K:aj}{H:Hp}{G:Gp}{p:Addr}{vs0 vs:List V}{ds0 ds:List D}(h:mw K H G)(hg:G p=some (.lst ds0))(hp:H p=some (.lst vs0))(r:bF K H vs ds):Mv K H G (upd H p (.lst vs)) (fK G p (.lst ds)) :=
 .put h hg (.putL hp) ⟨vs,dj,r.mono (.putL hp)⟩
structure OZ(K:aj)(H:Hp)(σ:L2.St)(τ:iH):Prop where
 len:σ.length=τ.length
 at':∀ (i:Nat) (d:D),τ[i]?=some (some d)->∃ v,σ[i]?=some (some v)/\cX K H v d
theorem OZ.mono{K:aj}{H H':Hp}{σ:L2.St}{τ:iH}(k:Kp H H')(a:OZ K H σ τ):OZ K H' σ τ :=
 ⟨a.len,fun i d e=>let ⟨v,h1,h2⟩:=a.at' i d e; ⟨v,h1,h2.mono k⟩⟩
theorem OZ.set{K:aj}{H:Hp}{σ:L2.St}{τ:iH}{v:V}{d:D}(a:OZ K H σ τ)(i:Nat)(r:cX K H v d):OZ K H (σ.set i (some v)) (τ.set i (some d)):=by
 refine⟨by rw [cb,cb]; exact a.len,fun j e h=>?_⟩
 by_cases hj:i=j
 ·subst hj
  by_cases hi:i < τ.length
  ·rw [fh hi] at h
   cases h
   exact⟨v,by rw [fh (by rw [a.len]; exact hi)],r⟩
  ·rw [List.set_eq_of_length_le (by lia)] at h
   rw [gm (by lia)] at h
   cases h
 ·rw [eX hj] at h
  obtain⟨w,h1,h2⟩:=a.at' j e h
  exact⟨w,by rw [eX hj]; exact h1,h2⟩
structure I2(X:Cx)(pins:List (Addr×Obj))(σ:L2.St)(H:Hp)(τ:iH)(G:Gp)(s:aA):Prop where
 inv:Inv X pins σ H s
 st:OZ X.K H σ τ
 ab:mw X.K H G
theorem I2.mv{X:Cx}{pins:List (Addr×Obj)}{σ:L2.St}{H H':Hp}{τ:iH}{G G':Gp}{s s':aA}(I:I2 X pins σ H τ G s)(I':Inv X pins σ H' s')(m:Mv X.K H G H' G'):I2 X pins σ H' τ G' s' :=
 ⟨I',I.st.mono (m.kp I.ab),m.ab⟩
noncomputable def CXe(P:ck)(w:World):OY:=fun outer H s E e s'=>∃ (a C t:Addr) (B:Heap) (H':Hp),e=.ref a/\s'.os=s.os/\Df s'.gens/\Un (OT outer) [] H H' s.heap s'.heap/\uz P w H' s'.heap /\
 (∀ b o,s'.heap.get? b=some o->b∉OT outer->(s.heap.get? b≠none\/H' b≠none)->B.get? b=some o)/\PySem.Heap.FlyingW B outer a (.ref C) (.ref t) s'.heap/\H' a=none/\s.heap.get? a=none/\E (.ref C) none H'
noncomputable def exK(mg:Str->Option Value)(E:lP):XK:=fun cls _ _=>∃ (ex:Ex) (C:Addr),cls=.ref C/\mg ex.cls=some (.ref C)/\E ex (fun _=>none)
structure Lk(X:Cx)(E:lP):Prop where
 made:∀ (pins:List (Addr×Obj)) (σ:L2.St) (H:Hp) (s:aA) (h1:Heap) (a C:Addr) (args:List Value) (ex:Ex),Inv X pins σ H s->PySem.Heap.MadeExcOf s.heap h1 a (.ref C) args->X.mg ex.cls=some (.ref C)->E ex (fun _=>none)->X.xe (.ref a) { s with heap:=h1 }
 pass:∀ (pins:List (Addr×Obj)) (σ:L2.St) (H:Hp) (s s':aA) (e:Value),Inv X pins σ H s->CXe X.prog X.w X.stack H s (exK X.mg E) e s'->X.xe e s'
theorem Lk.none{X:Cx}{E:lP}(h:∀ ex G,¬ E ex G):Lk X E where
 made:=fun _ _ _ _ _ _ _ _ ex _ _ _ z=>absurd z (h ex _)
 pass:=fun _ _ _ _ _ _ _ hc=>by
  obtain⟨_,_,_,_,_,_,_,_,_,_,_,_,_,_,hz⟩:=hc
  obtain⟨ex,_,_,_,z⟩:=hz
  exact absurd z (h ex _)
inductive sV (X:Cx) (pins:List (Addr×Obj)) (σ:L2.St) (H:Hp) (G:Gp) (Q:DK) (u:Value) (s':aA):Prop
 | mk (v:V) (H':Hp) (d:D) (G':Gp) (i:Inv X pins σ H' s') (m:Mv X.K H G H' G') (r:RelV v u) (rd:cX X.K H' v d) (q:Q d G'):sV X pins σ H G Q u s'
inductive Xb (X:Cx) (pins:List (Addr×Obj)) (σ:L2.St) (H:Hp) (G:Gp) (Q:Bool->Gp->Prop) (b:Bool) (s':aA):Prop
 | mk (H':Hp) (G':Gp) (i:Inv X pins σ H' s') (m:Mv X.K H G H' G') (q:Q b G'):Xb X pins σ H G Q b s'
inductive AP2 (X:Cx) (pins:List (Addr×Obj)) (σ:L2.St) (H:Hp) (G:Gp) (Q:List D->Gp->Prop) (us:List Value) (s':aA):Prop
 | mk (vs:List V) (H':Hp) (ds:List D) (G':Gp) (i:Inv X pins σ H' s') (m:Mv X.K H G H' G') (r:Vals vs us) (rd:bF X.K H' vs ds) (q:Q ds G'):AP2 X pins σ H G Q us s'
inductive SPn (X:Cx) (pins:List (Addr×Obj)) (H:Hp) (G:Gp) (P:iH->Gp->Prop) (s':aA):Prop
 | mk (jx:L2.St) (H':Hp) (nK:iH) (G':Gp) (i:I2 X pins jx H' nK G' s') (m:Mv X.K H G H' G') (q:P nK G'):SPn X pins H G P s'
inductive SPr (X:Cx) (pins:List (Addr×Obj)) (H:Hp) (G:Gp) (P:D->Gp->Prop) (u:Value) (s':aA):Prop
 | mk (v:V) (jx:L2.St) (H':Hp) (d:D) (G':Gp) (i:Inv X pins jx H' s') (m:Mv X.K H G H' G') (r:RelV v u) (rd:cX X.K H' v d) (q:P d G'):SPr X pins H G P u s'
noncomputable def WI(X:Cx)(pins:List (Addr×Obj))(H:Hp)(G:Gp)(D:lX)(f:Flow)(s':aA):Prop :=
 match f with
 | .next=>SPn X pins H G D.nx s'
 | .brk=>SPn X pins H G D.bk s'
 | .cont=>SPn X pins H G D.ct s'
 | .ret u=>SPr X pins H G D.rt u s'
noncomputable def gW(X:Cx)(e:Expr)(t:gI):Prop :=
 ∀ (E:lP) (pins:List (Addr×Obj)) (s:aA) (σ:L2.St) (H:Hp) (τ:iH) (G:Gp) (Q:DK),Lk X E->I2 X pins σ H τ G s->t E τ G Q->wpAny (model X.prog X.w) X.A (eval e X.env) (sV X pins σ H G Q) X.xe s
noncomputable def C3(X:Cx)(e:Expr)(t:yr):Prop :=
 ∀ (E:lP) (pins:List (Addr×Obj)) (s:aA) (σ:L2.St) (H:Hp) (τ:iH) (G:Gp) (Q:Bool->Gp->Prop),Lk X E->I2 X pins σ H τ G s->t E τ G Q->wpAny (model X.prog X.w) X.A (isTrue e X.env (eval e X.env)) (Xb X pins σ H G Q) X.xe s
noncomputable def Oq(X:Cx)(e:Expr)(t:yr):Prop :=
 ∀ (wh:Sem Value) (E:lP) (pins:List (Addr×Obj)) (s:aA) (σ:L2.St) (H:Hp) (τ:iH) (G:Gp) (Q:Bool->Gp->Prop),Lk X E->I2 X pins σ H τ G s->t E τ G Q->wpAny (model X.prog X.w) X.A (isTrue e X.env wh) (Xb X pins σ H G Q) X.xe s
noncomputable def K3(X:Cx)(es:List Expr)(t:Iy):Prop :=
 ∀ (pos:Pos) (E:lP) (pins:List (Addr×Obj)) (s:aA) (σ:L2.St) (H:Hp) (τ:iH) (G:Gp) (Q:List D->Gp->Prop),Lk X E->I2 X pins σ H τ G s->t E τ G Q->wpAny (model X.prog X.w) X.A (O4 (kS pos (cB es X.env))) (AP2 X pins σ H G Q) X.xe s
noncomputable def Jb(X:Cx)(st:Stmt)(t:iT):Prop :=
 ∀ (E:lP) (pins:List (Addr×Obj)) (s:aA) (σ:L2.St) (H:Hp) (τ:iH) (G:Gp) (D:lX),Lk X E->I2 X pins σ H τ G s->t E D τ G->wpAny (model X.prog X.w) X.A (exec st X.env) (WI X pins H G D) X.xe s
noncomputable def A8(X:Cx)(st:List Stmt)(t:iT):Prop :=
 ∀ (E:lP) (pins:List (Addr×Obj)) (s:aA) (σ:L2.St) (H:Hp) (τ:iH) (G:Gp) (D:lX),Lk X E->I2 X pins σ H τ G s->t E D τ G->wpAny (model X.prog X.w) X.A (execs st X.env) (WI X pins H G D) X.xe s
theorem WI.trans{X:Cx}{pins:List (Addr×Obj)}{H H1:Hp}{G G1:Gp}{D:lX}{f:Flow}{s':aA}(m:Mv X.K H G H1 G1)(h:WI X pins H1 G1 D f s'):WI X pins H G D f s':=by
 cases f with
 | next=>obtain⟨jx,H',nK,G',I,m',q⟩:=h; exact⟨jx,H',nK,G',I,m.trans m',q⟩
 | brk=>obtain⟨jx,H',nK,G',I,m',q⟩:=h; exact⟨jx,H',nK,G',I,m.trans m',q⟩
 | cont=>obtain⟨jx,H',nK,G',I,m',q⟩:=h; exact⟨jx,H',nK,G',I,m.trans m',q⟩
 | ret u=>obtain⟨v,jx,H',d,G',I,m',r,rd,q⟩:=h; exact⟨v,jx,H',d,G',I,m.trans m',r,rd,q⟩
section
variable {X:Cx} {a b c:Expr} {ta tb tc:gI} {pos:Pos}
theorem kn{pins:List (Addr×Obj)}{σ:L2.St}{H:Hp}{τ:iH}{G:Gp}{s:aA}{E:lP}{R:DK}{Q:Value->aA->Prop}(ha:gW X a ta)(hE:Lk X E)(I:I2 X pins σ H τ G s)(h:ta E τ G R)
  (k:∀ v H1 d G1 u s1,I2 X pins σ H1 τ G1 s1->Mv X.K H G H1 G1->RelV v u->cX X.K H1 v d->R d G1->Q u s1):wpAny (model X.prog X.w) X.A (eval a X.env) Q X.xe s :=
 gN (ha E pins s σ H τ G R hE I h) (by rintro u s1 ⟨v,H1,d,G1,I1,m,r,rd,q⟩; exact k v H1 d G1 u s1 (I.mv I1 m) m r rd q)
theorem sV.trans{pins:List (Addr×Obj)}{σ:L2.St}{H H1:Hp}{G G1:Gp}{Q:DK}{u:Value}{s':aA}(m:Mv X.K H G H1 G1)(h:sV X pins σ H1 G1 Q u s'):sV X pins σ H G Q u s':=by
 obtain⟨v,H',d,G',I,m',r,rd,q⟩:=h
 exact⟨v,H',d,G',I,m.trans m',r,rd,q⟩
theorem Xb.trans{pins:List (Addr×Obj)}{σ:L2.St}{H H1:Hp}{G G1:Gp}{Q:Bool->Gp->Prop}{u:Bool}{s':aA}(m:Mv X.K H G H1 G1)(h:Xb X pins σ H1 G1 Q u s'):Xb X pins σ H G Q u s':=by
 obtain⟨H',G',I,m',r⟩:=h
 exact⟨H',G',I,m.trans m',r⟩
theorem Tg {i:Nat} {x:Str} (hN:X.N[i]?=some x) (hv:Vis X.env.scope x) (hd:autoParam ((x == ("__debug__" : Str))=false) Ad._auto_1) (Kt:autoParam ((x == ("__classdict__" : Str))=false) Ad._auto_1):gW X (.Name x pos) (aw i):=by
 intro E pins s σ H τ G Q hE I h
 unfold aw at h
 split at h
 ·rename_i d e
  obtain⟨v,h1,h2⟩:=I.st.at' i d e
  exact gN (Vy hN hv hd Kt pins s σ H (fun v' H'=>v'=v/\H'=H) I.inv ⟨v,h1,rfl,rfl⟩) fun u s1 Mh=>by
   obtain⟨v',H',I1,r,e1,e2⟩:=Mh
   subst e1; subst e2
   exact⟨_,_,d,G,I1,.refl I.ab,r,h2,h⟩
 ·exact h.elim
theorem wH{e:Expr}{v:V}{d:D}(h:PE X e (tC v))(r:∀ K H,cX K H v d):gW X e (dC d):=by
 intro E pins s σ H τ G Q hE I hq
 exact gN (h pins s σ H (fun v' H'=>v'=v/\H'=H) I.inv ⟨rfl,rfl⟩) fun u s1 hp1=>by
  obtain⟨v',H',I1,rr,e1,e2⟩:=hp1
  subst e1; subst e2
  exact⟨_,_,d,G,I1,.refl I.ab,rr,r _ _,hq⟩
theorem aS{i j}:gW X (.Constant (.int i) j pos) (dC (.int i)):=wH VA fun _ _=>.int i
noncomputable def oX(X:Cx)(f:Value->Value->Sem Value)(r:BU):Prop :=
 ∀ (pins:List (Addr×Obj)) (s:aA) (σ:L2.St) (H:Hp) (G:Gp) (x y:V) (dx dy:D) (v u:Value) (Q:DK),Inv X pins σ H s->mw X.K H G->RelV x v->RelV y u->cX X.K H x dx->cX X.K H y dy->r dx dy G Q ->
  wpAny (model X.prog X.w) X.A (f v u) (sV X pins σ H G Q) X.xe s
noncomputable def Zz(X:Cx)(f:Value->Sem Value)(r:D->Gp->DK->Prop):Prop :=
 ∀ (pins:List (Addr×Obj)) (s:aA) (σ:L2.St) (H:Hp) (G:Gp) (x:V) (dx:D) (v:Value) (Q:DK),Inv X pins σ H s->mw X.K H G->RelV x v->cX X.K H x dx->r dx G Q ->
  wpAny (model X.prog X.w) X.A (f v) (sV X pins σ H G Q) X.xe s
noncomputable def qf(X:Cx)(f:Value)(r:List D->Gp->DK->Prop):Prop :=
 ∀ (pins:List (Addr×Obj)) (s:aA) (σ:L2.St) (H:Hp) (G:Gp) (xs:List V) (ds:List D) (us:List Value) (Q:DK),Inv X pins σ H s->mw X.K H G->Vals xs us->bF X.K H xs ds->r ds G Q ->
  wpAny (model X.prog X.w) X.A (call f us) (sV X pins σ H G Q) X.xe s
noncomputable abbrev ES(K:aj)(H:Hp)(G:Gp)(Q:DK):VK:=fun v H'=>∃ d G',Mv K H G H' G'/\cX K H' v d/\Q d G'
theorem sV.of{pins:List (Addr×Obj)}{σ:L2.St}{H:Hp}{G:Gp}{Q:DK}{u:Value}{s':aA}(h:EP X pins σ (ES X.K H G Q) u s'):sV X pins σ H G Q u s':=by
 obtain⟨v,H',I,r,d,G',m,rd,q⟩:=h
 exact⟨v,H',d,G',I,m,r,rd,q⟩
theorem RL(ha:gW X a ta)(hb:gW X b tb){E:lP}{pins:List (Addr×Obj)}{s:aA}{σ:L2.St}{H:Hp}{τ:iH}{G:Gp}{R:D->D->Gp->Prop}(hE:Lk X E)(I:I2 X pins σ H τ G s)
  (h:ta E τ G fun x G1=>tb E τ G1 fun y G2=>R x y G2) {Q:Value->aA->Prop} {f:Value->Value->Sem Value}
  (hf:∀ v u s2 x y dx dy H2 G2,I2 X pins σ H2 τ G2 s2->Mv X.K H G H2 G2->RelV x v->RelV y u->cX X.K H2 x dx->cX X.K H2 y dy->R dx dy G2->wpAny (model X.prog X.w) X.A (f v u) Q X.xe s2) :
  wpAny (model X.prog X.w) X.A (eval a X.env) (fun v gr=>wpAny (model X.prog X.w) X.A (eval b X.env) (fun u zm=>wpAny (model X.prog X.w) X.A (f v u) Q X.xe zm) X.xe gr) X.xe s:=by
 refine kn ha hE I h fun x H1 dx G1 v s1 I1 m1 r1 jV q1=>?_
 refine kn hb hE I1 q1 fun y H2 dy G2 u s2 nh m2 r2 yA q2=>?_
 exact hf v u s2 x y dx dy H2 G2 nh (m1.trans m2) r1 r2 (jV.mono (m2.kp I1.ab)) yA q2
theorem cg{op:Operator}{r:BU}(ho:oX X (kj op) r)(ha:gW X a ta)(hb:gW X b tb):gW X (.BinOp a op b pos) (bg r ta tb):=by
 intro E pins s σ H τ G Q hE I h
 exact wpAny_BinOp (RL ha hb hE I h fun v u s2 x y dx dy H2 G2 nh m rx ry dX dY q=>gN (ho pins s2 σ H2 G2 x y dx dy v u Q nh.inv nh.ab rx ry dX dY q) fun _ _ z=>z.trans m)
theorem zO{op:UnaryOp}{r:D->Gp->DK->Prop}(ho:Zz X (unaryOp op) r)(ha:gW X a ta):gW X (.UnaryOp op a pos) (yn r ta):=by
 intro E pins s σ H τ G Q hE I h
 exact UnaryOp_ (kn ha hE I h fun x H1 dx G1 v s1 I1 m1 r1 jV q1=>gN (ho pins s1 σ H1 G1 x dx v Q I1.inv I1.ab r1 jV q1) fun _ _ z=>z.trans m1)
theorem yG{op:CmpOp}{r:BU}(ho:oX X (ff op) r)(ha:gW X a ta)(hb:gW X b tb)(hm:wu op b=false):gW X (.Compare a [op] [b] pos) (bg r ta tb):=by
 intro E pins s σ H τ G Q hE I h
 exact wpAny_Compare1 (RL ha hb hE I h fun v u s2 x y dx dy H2 G2 nh m rx ry dX dY q=>gN (ho pins s2 σ H2 G2 x y dx dy v u Q nh.inv nh.ab rx ry dX dY q) fun _ _ z=>z.trans m) hm
end
end K2
end
section
namespace K2
open PySem PySem.Spec PyProof.Rows L2
theorem Xi{K:aj}{H:Hp}{G:Gp}{x:V}{d:D}{k:Bool}(ab:mw K H G)(r:cX K H x d)(e:MZ d G=some k):(∃ p,x=.ref p/\Rd H p (.dT [])/\k=false)\/(∃ p kv,x=.ref p/\Rd H p (.dK kv)/\k=!kv.isEmpty)\/WH K x H k:=by
 have Rv:∀ kvs:List (D×D),(if (kvs.all fun p=>fQ p.1)=true then some (!kvs.isEmpty) else none)=some k->∀ p,((∃ kv,Rd H p (.dK kv)/\oA K H kv kvs)\/∃ kv,Rd H p (.dT kv)/\lQ K H kv kvs) ->
   (∃ p',V.ref p=.ref p'/\Rd H p' (.dT [])/\k=false)\/(∃ p' kv,V.ref p=.ref p'/\Rd H p' (.dK kv)/\k=!kv.isEmpty)\/WH K (.ref p) H k:=by
  intro kvs e p z
  by_cases ha:(kvs.all fun p=>fQ p.1)=true
  ·rw [if_pos ha] at e
   cases e
   rcases z with ⟨kv,hv,rs⟩ | ⟨kv,hv,rs⟩
   ·right; left
    refine⟨p,kv,rfl,hv,?_⟩
    cases rs <;> rfl
   ·left
    cases rs with
    | nil=>exact⟨p,rfl,hv,rfl⟩
    | cons _ _=>simp [fQ] at ha
  ·rw [if_neg ha] at e; cases e
 cases r with
 | du=>right; right; cases e; rfl
 | bl b=>right; right; cases e; rfl
 | int i=>right; right; cases e; rfl
 | str y =>
  right; right
  unfold MZ at e
  dsimp only at e
  by_cases h:y.length<=SZ
  ·rw [if_pos h] at e; cases e; exact⟨by rw [cN]; exact h,rfl⟩
  ·rw [if_neg h] at e; cases e
 | tup h rs =>
  right; right
  cases e
  refine .inr (.inl ⟨_,.of h,?_⟩)
  cases rs <;> rfl
 | fG h rs =>
  right; right
  cases e
  refine .inl ⟨_,h.sq,?_⟩
  cases rs <;> rfl
 | oK h rs=>exact Rv _ e _ (.inl ⟨_,.inr ⟨_,h⟩,rs⟩)
 | oJ h rs=>exact Rv _ e _ (.inr ⟨_,.inr ⟨_,h⟩,rs⟩)
 | exc h=>simp [MZ] at e
 | ref a =>
  unfold MZ at e
  dsimp only at e
  cases q:G a with
  | none=>rw [q] at e; cases e
  | some g =>
   rw [q] at e
   have z:=ab a g q
   cases g with
   | lst ds =>
    right; right
    obtain⟨vs,hv,rs⟩:=z
    cases e
    refine .inl ⟨vs,.of hv,?_⟩
    cases rs <;> rfl
   | iO kvs =>
    refine Rv kvs e a ?_
    rcases z with ⟨kv,hv,rs⟩ | ⟨kv,hv,rs⟩
    ·exact .inl ⟨kv,.inl hv,rs⟩
    ·exact .inr ⟨kv,.inl hv,rs⟩
section
variable {X:Cx} {a b c:Expr} {ta tb tc:gI} {pos:Pos}
noncomputable def ZA(X:Cx):Prop:=∀ (pins:List (Addr×Obj)) (s:aA) (σ:L2.St) (H:Hp) (G:Gp) (x:V) (d:D) (v:Value) (k:Bool) (Q:Bool->aA->Prop),Inv X pins σ H s->mw X.K H G->RelV x v->cX X.K H x d->MZ d G=some k ->
  (∀ s',Inv X pins σ H s'->Q k s')->wpAny (model X.prog X.w) X.A (truthy v) Q X.xe s
theorem MY:ZA X:=by
 intro pins s σ H G x d v k Q I ab rx rd e q
 rcases Xi ab rd e with ⟨p,rfl,hv,hk⟩ | ⟨p,kv,rfl,hv,hk⟩ | h
 ·obtain⟨z,hS,xs,rel,o,es,ep,ho,hx,yO,hl,nd⟩:=hv.ok I.cT
  have hxs:xs=[]:=by cases rel; rfl
  subst hxs
  have he:es=#[]:=by simpa using hl
  subst he
  cases rx
  have dd:s.heap.DictOf (cy X.prog X.w) p []:=⟨o,#[],ep,ho,hx,yO,(fun _ h=>by simp at h),.nil,dh⟩
  refine Jc hS dd (by simp) ?_
  subst hk
  exact q _ (I.tok _)
 ·cases rx
  subst hk
  exact T6 I hv q
 ·exact gN (U6 pins s σ H x v (fun k' H'=>k'=k/\H'=H) I rx ⟨k,h,rfl,rfl⟩) fun k' s' Mh=>by
   obtain⟨H',I',e1,e2⟩:=Mh
   subst e1; subst e2; exact q s' I'
theorem ky(ha:gW X a ta)(he:autoParam (∀ whole,isTrue a X.env whole=(do let v ← whole; standAt a.pos; O8 [v] (truthy v))) Ai._auto_1):C3 X a (gJ ta):=by
 intro E pins s σ H τ G Q hE I h
 refine isTrue_plain (kn ha hE I h fun x H1 d G1 v s1 I1 m1 r1 jV q1=>?_) (he _)
 try dsimp only at q1
 split at q1
 ·rename_i k e
  exact MY pins s1 σ H1 G1 x d v k _ I1.inv I1.ab r1 jV e fun s' I'=>⟨H1,G1,I',m1,q1⟩
 ·exact q1.elim
theorem fm{op:CmpOp}{r:BU}(ho:oX X (ff op) r)(ha:gW X a ta)(hb:gW X b tb)(hm:wu op b=false):C3 X (.Compare a [op] [b] pos) (gJ (bg r ta tb)):=by
 intro E pins s σ H τ G Q hE I h
 refine wpAny_isTrue_Compare1 (kn ha hE I h fun x H1 dx G1 v s1 I1 m1 r1 jV q1=>kn hb hE I1 q1 fun y H2 dy G2 u s2 nh m2 r2 yA q2 =>
  gN (ho pins s2 σ H2 G2 x y dx dy v u _ nh.inv nh.ab r1 r2 (jV.mono (m2.kp I1.ab)) yA q2) ?_) hm
 rintro c s3 ⟨z,H3,dz,G3,I3,m3,r3,Vt,q3⟩
 try dsimp only at q3
 split at q3
 ·rename_i k e
  exact MY pins s3 σ H3 G3 z dz c k _ I3 m3.ab r3 Vt e fun s' I'=>⟨H3,G3,I',(m1.trans m2).trans m3,q3⟩
 ·exact q3.elim
variable {tA tB:yr} {rest:List Expr}
theorem Oq.pt{e:Expr}{t:yr}(h:Oq X e t):C3 X e t:=fun E pins s σ H τ G Q hE I q=>h _ E pins s σ H τ G Q hE I q
theorem M0{pins:List (Addr×Obj)}{σ:L2.St}{H:Hp}{τ:iH}{G:Gp}{s:aA}{E:lP}{R:Bool->Gp->Prop}{Q:Bool->aA->Prop}(ha:C3 X a tA)(hE:Lk X E)(I:I2 X pins σ H τ G s)(h:tA E τ G R)
  (k:∀ c H1 G1 s1,I2 X pins σ H1 τ G1 s1->Mv X.K H G H1 G1->R c G1->Q c s1):wpAny (model X.prog X.w) X.A (isTrue a X.env (eval a X.env)) Q X.xe s :=
 gN (ha E pins s σ H τ G R hE I h) (by rintro c s1 ⟨H1,G1,I1,m,q⟩; exact k c H1 G1 s1 (I.mv I1 m) m q)
theorem P7(ha:C3 X a tA):Oq X (.BoolOp .And [a] pos) tA:=by
 intro wh E pins s σ H τ G Q hE I h
 refine isTrue_and (gN (ha E pins s σ H τ G Q hE I h) fun c s1 e=>?_)
 cases c with
 | true=>exact isTrue_and_nil e
 | false=>exact e
theorem yD(ha:C3 X a tA):Oq X (.BoolOp .Or [a] pos) tA:=by
 intro wh E pins s σ H τ G Q hE I h
 refine isTrue_or (gN (ha E pins s σ H τ G Q hE I h) fun c s1 e=>?_)
 cases c with
 | false=>exact isTrue_or_nil e
 | true=>exact e
theorem Ta(ha:C3 X a tA)(hb:Oq X (.BoolOp .And (b :: rest) pos) tB):Oq X (.BoolOp .And (a :: b :: rest) pos) (KO tA tB):=by
 intro wh E pins s σ H τ G Q hE I h
 refine isTrue_and (M0 ha hE I h fun c H1 G1 s1 I1 m1 q1=>?_)
 cases c with
 | true=>exact gN (hb wh E pins s1 σ H1 τ G1 Q hE I1 (by simpa using q1)) fun _ _ z=>z.trans m1
 | false=>exact⟨H1,G1,I1.inv,m1,by simpa using q1⟩
theorem zM(ha:C3 X a tA)(hb:Oq X (.BoolOp .Or (b :: rest) pos) tB):Oq X (.BoolOp .Or (a :: b :: rest) pos) (OV tA tB):=by
 intro wh E pins s σ H τ G Q hE I h
 refine isTrue_or (M0 ha hE I h fun c H1 G1 s1 I1 m1 q1=>?_)
 cases c with
 | false=>exact gN (hb wh E pins s1 σ H1 τ G1 Q hE I1 (by simpa using q1)) fun _ _ z=>z.trans m1
 | true=>exact⟨H1,G1,I1.inv,m1,by simpa using q1⟩
theorem vn(ha:C3 X a tA):C3 X (.UnaryOp .Not a pos) (yp tA):=by
 intro E pins s σ H τ G Q hE I h
 exact isTrue_not (gN (ha E pins s σ H τ G (fun c H1=>Q (!c) H1) hE I h) (by rintro c s' ⟨H',G',i,m,q⟩; exact⟨H',G',i,m,q⟩))
theorem DO{op}{t:gI}(h:gW X a t):gW X (.BoolOp op [a] pos) t:=fun E pins s σ H τ G Q hE I hw=>BoolOp_one (h E pins s σ H τ G Q hE I hw)
theorem DP(ha:gW X a ta)(hb:gW X (.BoolOp .And (b :: rest) pos) tb):gW X (.BoolOp .And (a :: b :: rest) pos) (CS ta tb):=by
 intro E pins s σ H τ G Q hE I h
 refine BoolOp_and (kn ha hE I h fun x H1 d G1 v s1 I1 m1 r1 jV q1=>?_)
 try dsimp only at q1
 split at q1
 ·rename_i e
  exact MY pins s1 σ H1 G1 x d v true _ I1.inv I1.ab r1 jV e fun s' I'=>gN (hb E pins s' σ H1 τ G1 Q hE ⟨I',I1.st,I1.ab⟩ q1) fun _ _ z=>z.trans m1
 ·rename_i e
  exact MY pins s1 σ H1 G1 x d v false _ I1.inv I1.ab r1 jV e fun s' I'=>⟨x,H1,d,G1,I',m1,r1,jV,q1⟩
 ·exact q1.elim
theorem Th(ha:gW X a ta):gW X (.UnaryOp .Not a pos) (Rz ta):=by
 intro E pins s σ H τ G Q hE I h
 refine UnaryOp_ (kn ha hE I h fun x H1 d G1 v s1 I1 m1 r1 jV q1=>?_)
 try dsimp only at q1
 split at q1
 ·rename_i k e
  exact not_of (MY pins s1 σ H1 G1 x d v k _ I1.inv I1.ab r1 jV e fun s' I'=>⟨.bl (!k),H1,.bl (!k),G1,I',m1,rfl,.bl _,q1⟩)
 ·exact q1.elim
theorem Qh(hc:C3 X c tA)(ha:gW X a ta)(hb:gW X b tb):gW X (.IfExp c a b pos) (Xa tA ta tb):=by
 intro E pins s σ H τ G Q hE I h
 refine wpAny_IfExp (M0 hc hE I h fun d H1 G1 s1 I1 m1 q1=>?_)
 cases d with
 | true=>exact gN (ha E pins s1 σ H1 τ G1 Q hE I1 (by simpa using q1)) fun _ _ z=>z.trans m1
 | false=>exact gN (hb E pins s1 σ H1 τ G1 Q hE I1 (by simpa using q1)) fun _ _ z=>z.trans m1
variable {e:Expr} {es:List Expr} {te:gI} {t:Iy}
theorem aR:K3 X [] bL:=fun _ _ _ _ _ H _ G Q _ I h=>Calls.spliced_nil ⟨[],H,[],G,I.inv,.refl I.ab,.nil,.nil,h⟩
theorem ax(ha:gW X e te)(hr:K3 X es t)(hs:autoParam (cB (e :: es) X.env=(false,eval e X.env) :: cB es X.env) Ar._auto_1):K3 X (e :: es) (aK te t):=by
 intro pos E pins s σ H τ G Q hE I h
 rw [hs]
 show wpAny _ _ (O4 ((false,eval e X.env) :: kS pos (cB es X.env))) _ _ s
 refine kT (kn ha hE I h fun x H1 d G1 u s1 I1 m1 r1 jV q1=>?_)
 exact gN (hr pos E pins s1 σ H1 τ G1 _ hE I1 q1) (by rintro us s2 ⟨xs,H2,ds,G2,nh,m2,r2,yA,q2⟩; exact⟨x :: xs,H2,d :: ds,G2,nh,m1.trans m2,.cons r1 r2,.cons (jV.mono (m2.kp I1.ab)) yA,q2⟩)
theorem Ds{pins:List (Addr×Obj)}{σ:L2.St}{H:Hp}{τ:iH}{G:Gp}{s:aA}{E:lP}{R:List D->Gp->Prop}{Q:List Value->aA->Prop}(ha:K3 X es t)(pos:Pos)(hE:Lk X E)(I:I2 X pins σ H τ G s)(h:t E τ G R)
  (k:∀ vs H1 ds G1 us s1,I2 X pins σ H1 τ G1 s1->Mv X.K H G H1 G1->Vals vs us->bF X.K H1 vs ds->R ds G1->Q us s1):wpAny (model X.prog X.w) X.A (O4 (kS pos (cB es X.env))) Q X.xe s :=
 gN (ha pos E pins s σ H τ G R hE I h) (by rintro us s1 ⟨vs,H1,ds,G1,I1,m,r,rd,q⟩; exact k vs H1 ds G1 us s1 (I.mv I1 m) m r rd q)
theorem iL{x1}(h:K3 X es t):gW X (.Tuple es x1 pos) (ko t):=by
 intro E pins s σ H τ G Q hE I hq
 refine wpAny_Tuple_spliced (Ds h pos hE I hq ?_)
 rintro xs H1 ds G1 us s1 I1 m1 r rd ⟨z,q⟩
 refine⟨by rw [← r.length,rd.length,cN]; exact z,?_⟩
 have hf:H1 s1.heap.objs.size=none:=I1.inv.cT.fresh (aM _)
 refine⟨.ref s1.heap.objs.size,upd H1 s1.heap.objs.size (.tup xs),.tup ds,G1,I1.inv.laid (t':=s1.toks) (fun b u e=>aN _ e) (aM _) ?_,m1.trans (.OR I1.ab hf),rfl,?_,q⟩
 ·exact⟨by rw [rd.length,cN]; exact z,us,r,⟨_,bx _ rfl,rfl,_,rfl⟩⟩
 ·exact .tup dj (rd.mono (.new hf))
theorem mh(h:K3 X es t):gW X (.List es pos) (nE t):=by
 intro E pins s σ H τ G Q hE I hq
 refine wpAny_List_spliced (Ds h pos hE I hq ?_)
 rintro xs H1 ds G1 us s1 I1 m1 r rd ⟨z,q⟩
 refine⟨by rw [← r.length,rd.length,cN]; exact z,?_⟩
 have hf:H1 s1.heap.objs.size=none:=I1.inv.cT.fresh (aM _)
 refine⟨.ref s1.heap.objs.size,upd H1 s1.heap.objs.size (.lst xs),.ref _,fK G1 s1.heap.objs.size (.lst ds),I1.inv.laid (t':=s1.toks) (fun b u e=>aN _ e) (aM _) ?_,m1.trans (.BA I1.ab hf rd),rfl,.ref _,q _ (I1.ab.free hf)⟩
 exact⟨by rw [rd.length,cN]; exact z,us,0,r,bx _ rfl⟩
noncomputable def dN(K:aj)(sp:oe):Sp:=fun vs H Q _=>∃ ds G Q2,bF K H vs ds/\mw K H G/\sp ds G Q2 (fun _ _=>False)/\∀ d G' v H',Q2 d G'->Mv K H G H' G'->cX K H' v d->Q v H'
variable {k:Nat} {f:Addr} {fd:bc} {ps:List Str} {sp:oe} {x:Str} {p:Pos} {r:List D->Gp->DK->Prop} {id:String}
theorem Qi(F:dI X.prog X.w X.K X.mg X.base gX k f fd ps (dN X.K sp))(hr:nc k X.A)(hg:Gl X x)(hm:X.mg x=some (.ref f))(hk:aB X.K (.ref f)=true)(hb:Binds X.K fd ps [])
  (ha:K3 X (e :: es) t) (N0:autoParam ((x == ("__debug__" : Str))=false) Ad._auto_1) (he:autoParam (cB (e :: es) X.env=(false,eval e X.env) :: cB es X.env) Ar._auto_1) (Kr:autoParam ((kS pos (cB es X.env)).any (·.1)=false) Ar._auto_1) :
  gW X (.Call (.Name x p) (e :: es) [] pos) (fun E τ G Q=>cz (fun ds G1 Q1 _=>sp ds G1 Q1 fun _ _=>False) t E τ G Q):=by
 intro E pins s σ H τ G Q hE I h
 refine ij (LX I.inv hg hm ?_ N0)
 refine PySem.W.callWith_K (h₀:=X.base) I.inv.ok.mod.V0 hk (Ds ha pos hE I h fun vs H1 ds G1 us s1 I1 m1 r rd q=>⟨I1.inv.L4,?_⟩) he Kr
 refine gN (Vo F hr hb .nil XG I1.inv r (Q:=ES X.K H1 G1 Q) ?_) fun _ _ z=>(sV.of z).trans m1
 rw [cc]
 exact⟨ds,G1,Q,rd,I1.ab,q,fun d G' v H' q' m' ZP=>⟨d,G',m',ZP,q'⟩⟩
theorem fE (hc:qf X (.builtin id) r) (hg:Gl X x) (hm:X.mg x=none) (hv:eR x=some (.builtin id)) (ha:K3 X (e :: es) t) (hn:autoParam (x≠"__name__") Ad._auto_1) (N0:autoParam ((x == ("__debug__" : Str))=false) Ad._auto_1)
  (he:autoParam (cB (e :: es) X.env=(false,eval e X.env) :: cB es X.env) Ar._auto_1) (Kr:autoParam ((kS pos (cB es X.env)).any (·.1)=false) Ar._auto_1):gW X (.Call (.Name x p) (e :: es) [] pos) (mD r t):=by
 intro E pins s σ H τ G Q hE I h
 refine ij (om I.inv hg hm hv ?_ hn N0)
 exact kK (Ds ha pos hE I h fun vs H1 ds G1 us s1 I1 m1 r1 jV q1=>gN (hc pins s1 σ H1 G1 vs ds us Q I1.inv I1.ab r1 jV q1) fun _ _ z=>z.trans m1) he Kr
variable {st:Stmt} {sts:List Stmt} {u v:iT}
theorem fL:A8 X [] eY:=fun _ _ _ σ H τ G _ _ I h=>mE ⟨σ,H,τ,G,I,.refl I.ab,h⟩
theorem aH(h1:Jb X st u)(h2:A8 X sts v):A8 X (st :: sts) (cF u v):=by
 intro E pins s σ H τ G D hE I h
 refine ML (gN (h1 E pins s σ H τ G { D with nx:=v E D } hE I h) fun f s1 q=>?_)
 cases f with
 | next =>
  obtain⟨jx,H',nK,G',I',m,q⟩:=q
  exact gN (h2 E pins s1 jx H' nK G' D hE I' q) fun _ _ z=>z.trans m
 | ret v=>exact q
 | brk=>exact q
 | cont=>exact q
theorem aU(h1:Jb X st u):A8 X [st] u:=by
 intro E pins s σ H τ G D hE I h
 refine ML (gN (h1 E pins s σ H τ G D hE I h) fun f s1 q=>?_)
 cases f with
 | next=>exact mE q
 | ret v=>exact q
 | brk=>exact q
 | cont=>exact q
theorem cL(he:gW X e te):Jb X (.Return (some e) pos) (dH te):=by
 intro E pins s σ H τ G D hE I h
 exact wpAny_Return_some (gN (he E pins s σ H τ G _ hE I h) (by rintro v s1 ⟨x,H1,d,G1,I1,m,r1,rd,q1⟩; exact⟨x,σ,H1,d,G1,I1,m,r1,rd,q1⟩))
theorem ic{sa sb:List Stmt}(hc:C3 X c tA)(ha:A8 X sa u)(hb:A8 X sb v):Jb X (.If c sa sb pos) (mZ tA u v):=by
 intro E pins s σ H τ G D hE I h
 refine wpAny_If (M0 hc hE I h fun d H1 G1 s1 I1 m1 q1=>?_)
 cases d with
 | true=>exact gN (ha E pins s1 σ H1 τ G1 D hE I1 (by simpa using q1)) fun _ _ z=>z.trans m1
 | false=>exact gN (hb E pins s1 σ H1 τ G1 D hE I1 (by simpa using q1)) fun _ _ z=>z.trans m1
noncomputable def OX(X:Cx)(target:Expr)(t:BR):Prop :=
 ∀ (E:lP) (pins:List (Addr×Obj)) (s:aA) (σ:L2.St) (H:Hp) (τ:iH) (G:Gp) (w:V) (d:D) (u:Value) (Q:iH->Gp->Prop),Lk X E->I2 X pins σ H τ G s->RelV w u->cX X.K H w d->t E d τ G Q ->
  wpAny (model X.prog X.w) X.A (Pa target X.env u) (fun _ s'=>∃ jx H' nK G',I2 X pins jx H' nK G' s'/\Mv X.K H G H' G'/\Q nK G') X.xe s
noncomputable def Uj(X:Cx)(ts:List Expr)(t:ER):Prop :=
 ∀ (E:lP) (pins:List (Addr×Obj)) (s:aA) (σ:L2.St) (H:Hp) (τ:iH) (G:Gp) (ws:List V) (ds:List D) (us:List Value) (Q:iH->Gp->Prop),Lk X E->I2 X pins σ H τ G s->Vals ws us->bF X.K H ws ds->t E ds τ G Q ->
  wpAny (model X.prog X.w) X.A (assignInOrder ((Bh ts X.env).map (·.2)) us) (fun _ s'=>∃ jx H' nK G',I2 X pins jx H' nK G' s'/\Mv X.K H G H' G'/\Q nK G') X.xe s
theorem Qf{i:Nat}{x:Str}(hN:X.N.Nodup)(hi:X.N[i]?=some x)(hx:Loc X.env.scope x)(hf:autoParam (X.fn x=true\/X.env.scope.names.lookup x=some .local) Ao._auto_1):OX X (.Name x pos) (aI i):=by
 intro E pins s σ H τ G w d u Q hE I r rd h
 exact Jd (uM I.inv hN hi hx r (fun s' I'=>⟨_,H,_,G,⟨I',I.st.set i rd,I.ab⟩,.refl I.ab,h⟩) hf)
theorem iY:Uj X [] lM:=by
 intro E pins s σ H τ G ws ds us Q hE I r rd h
 unfold lM at h
 split at h
 ·have e:=rd.zero
  subst e
  cases r
  exact assignInOrder_nil ⟨σ,H,τ,G,I,.refl I.ab,h⟩
 ·exact h.elim
theorem dv{t:BR}{u:ER}(h1:OX X e t)(h2:Uj X es u)
  (hs:autoParam ((Bh (e :: es) X.env).map (·.2)=Pa e X.env :: (Bh es X.env).map (·.2)) Ar._auto_1):Uj X (e :: es) (fB t u):=by
 intro E pins s σ H τ G ws ds us Q hE I r rd h
 unfold fB at h
 split at h
 ·cases rd with
  | cons jV yA =>
   cases r with
   | cons r1 r2 =>
    rw [hs]
    refine assignInOrder_cons (gN (h1 E pins s σ H τ G _ _ _ _ hE I r1 jV h) ?_)
    rintro _ s1 ⟨WN,H1,o8,G1,I1,m1,q1⟩
    exact gN (h2 E pins s1 WN H1 o8 G1 _ _ _ Q hE I1 r2 (yA.mono (m1.kp I.ab)) q1) (by rintro _ _ ⟨σ2,H2,wA,G2,nh,m2,q2⟩; exact⟨σ2,H2,wA,G2,nh,m1.trans m2,q2⟩)
 ·exact h.elim
theorem j9{k:Nat}{t:ER}{n:Nat}(hc:X.calm=true)(h:Uj X es t)(hgl:∀ E ds τ G Q,t E ds τ G Q->ds.length=n)
  (hn:autoParam ((Bh es X.env).length=n) Ar._auto_1) (NR:autoParam ((Bh es X.env).findIdx? (·.1)=none) Ar._auto_1):OX X (.Tuple es k pos) (mj t):=by
 intro E pins s σ H τ G w d u Q hE I r rd hw
 unfold mj at hw
 split at hw
 ·cases rd with
  | tup hq rs =>
   cases r
   obtain⟨bM,rv,ht,hz⟩:=I.inv.tuple (.of hq)
   refine assign_Tuple_tuple (I.inv.ok.hd hc) ht (by rw [hn,aZ,← rv.length,rs.length]; exact(hgl _ _ _ _ _ hw).symm) NR fun h' hx=>?_
   have I1:Inv X pins σ H { s with heap:=h' }:=I.inv.kept (t':=s.toks) fun b o e=>hx b o (bT (aQ e)) e
   exact h E pins _ σ H τ G _ _ _ Q hE ⟨I1,I.st,I.ab⟩ (by simpa using rv) rs hw
 ·exact hw.elim
theorem i4:∀ E ds τ G Q,lM E ds τ G Q->ds.length=0:=by
 intro E ds τ G Q h
 cases ds with
 | nil=>rfl
 | cons _ _=>exact h.elim
theorem N7{t:BR}{u:ER}{n:Nat}(h:∀ E ds τ G Q,u E ds τ G Q->ds.length=n)(hm:∀ E d τ G (Q Q':iH->Gp->Prop),t E d τ G Q->(∀ nK G',Q nK G'->Q' nK G')->t E d τ G Q')(hx:∀ E d τ G,¬ t E d τ G fun _ _=>False) :
  ∀ E ds τ G Q,fB t u E ds τ G Q->ds.length=n+1:=by
 intro E ds τ G Q q
 cases ds with
 | nil=>exact q.elim
 | cons d ds =>
  by_cases hl:ds.length=n
  ·rw [ak,hl]
  ·exact absurd (hm E d τ G _ (fun _ _=>False) q fun nK G' z=>hl (h _ _ _ _ _ z)) (hx E d τ G)
theorem jI{tg:Expr}{g:BR}(he:gW X e te)(hg:OX X tg g)(hs:autoParam (swapsWithSole [tg] e pos.line X.env=pure false) Ar._auto_1)(hw:autoParam (swappedStores [tg] e X.env=pure none) Ar._auto_1)
  (h1:autoParam ((Bh [tg] X.env).map (·.2)=[Pa tg X.env]) Ar._auto_1):Jb X (.Assign [tg] e pos) (bQ te g):=by
 intro E pins s σ H τ G D hE I h
 refine wpAny_Assign_stores (kn he hE I h fun x H1 d G1 v s1 I1 m1 r1 jV q1=>?_) hs hw
 rw [h1]
 exact gN (hg E pins s1 σ H1 τ G1 x d v _ hE I1 r1 jV q1) (by rintro _ s2 ⟨σ2,H2,wA,G2,nh,m2,q2⟩; exact⟨σ2,H2,wA,G2,nh,m1.trans m2,q2⟩)
theorem Tc{i:Nat}{x:Str}{pos':Pos}(hN:X.N.Nodup)(hi:X.N[i]?=some x)(hx:Loc X.env.scope x)(he:gW X e te)(hs:autoParam (Fh e (some (.Name x pos')) pos.line X.env=pure false) Ar._auto_1)(hf:autoParam (X.fn x=true\/X.env.scope.names.lookup x=some .local) Ao._auto_1) :
  Jb X (.Assign [.Name x pos'] e pos) (bQ te (aI i)):=by
 intro E pins s σ H τ G D hE I h
 refine wpAny_Assign_Name (kn he hE I h fun y H1 d G1 v s1 I1 m1 r1 jV q1=>?_) hs
 exact uM I1.inv hN hi hx r1 (fun s2 nh=>⟨_,H1,_,G1,⟨nh,I1.st.set i jV,I1.ab⟩,m1,q1⟩) hf
theorem j7(he:gW X e te)(hs:autoParam (Fh e none pos.line X.env=pure false) Ar._auto_1):Jb X (.Expr e pos) (iM te):=by
 intro E pins s σ H τ G D hE I h
 exact wpAny_Expr_any (kn he hE I h fun y H1 d G1 v s1 I1 m1 r1 jV q1=>⟨σ,H1,τ,G1,I1,m1,q1⟩) I.inv.quiet hs
end
end K2
end
section
namespace K2
open PySem PySem.Spec PyProof.Rows L2
noncomputable def UX(K:aj)(J:It)(H':Hp)(ds:List D)(ok:Gp->Prop):Prop :=
 ∀ i H1 G1,Kp H' H1->mw K H1 G1->ok G1->(∀ d,ds[i]?=some d->J.go i H1/\∀ x H2,J.yld i H1 x H2->cX K H2 x d/\Mv K H1 G1 H2 G1)/\(ds.length<=i->J.stop i H1)
inductive K1 (X:Cx) (pins:List (Addr×Obj)) (σ:L2.St) (tg:Expr) (H:Hp) (G:Gp) (R:List D->(Gp->Prop)->Gp->Prop) (TB:Value) (s2:aA):Prop
 | mk (it:Addr) (fp:List Addr) (tn:Nat->Heap->Prop) (J:It) (H':Hp) (G':Gp) (ds:List D) (ok:Gp->Prop) (e:TB=.ref it) (i:Inv X pins σ H' s2) (m:Mv X.K H G H' G') (T:Turn X.prog X.w X.K tg J fp it tn) (t0:tn 0 s2.heap) (f:∀ b∈fp,nI X pins H' b)
  (wk:UX X.K J H' ds ok) (q:R ds ok G'):K1 X pins σ tg H G R TB s2
noncomputable def RS(X:Cx)(tg iter:Expr)(wi:RQ):Prop :=
 ∀ (E:lP) (pins:List (Addr×Obj)) (s:aA) (σ:L2.St) (H:Hp) (τ:iH) (G:Gp) (R:List D->(Gp->Prop)->Gp->Prop),Lk X E->I2 X pins σ H τ G s->wi E τ G R ->
  wpAny (model X.prog X.w) X.A (eval iter X.env) (fun v s1=>wpAny (model X.prog X.w) X.A (BX v) (K1 X pins σ tg H G R) X.xe s1) X.xe s
section
variable {X:Cx} {tg:Expr} {a b:Expr} {ta tb:gI} {pos p:Pos}
theorem LW{pins:List (Addr×Obj)}{σ:L2.St}{H H1:Hp}{G G1:Gp}{s1:aA}{l:Addr}{vs:List V}{ds:List D}{ok:Gp->Prop}{R:List D->(Gp->Prop)->Gp->Prop}(I1:Inv X pins σ H1 s1)(m:Mv X.K H G H1 G1)(hq:qt X.K H1 l vs)
  (hk:∀ H2 G2,Kp H1 H2->mw X.K H2 G2->ok G2->∃ ws,qt X.K H2 l ws/\bF X.K H2 ws ds) (q:R ds ok G1):wpAny (model X.prog X.w) X.A (BX (.ref l)) (K1 X pins σ tg H G R) X.xe s1:=by
 obtain⟨bM,rv,pl,hz⟩:=I1.list hq
 refine uA pl.isList ?_
 refine⟨s1.heap.objs.size,[s1.heap.objs.size],_,_,H1,G1,ds,ok,rfl,I1.kept (t':=s1.toks) fun b o e=>aN _ e,m,MT l _,⟨_,bx _ rfl,rfl,rfl⟩,fun b hb=>?_,fun i H2 G2 k ab o=>?_,q⟩
 ·have e:b=s1.heap.objs.size:=by simpa using hb
  subst e
  exact I1.Hx (aM _) (I1.cT.fresh (aM _))
 ·obtain⟨ws,hw,rd⟩:=hk H2 G2 k ab o
  refine⟨fun d hd=>?_,fun hl=>⟨ws,hw,by rw [rd.length]; exact hl⟩⟩
  obtain⟨v,hv,r⟩:=rd.get hd
  refine⟨⟨ws,v,hw,hv⟩,?_⟩
  rintro x H3 ⟨e,y⟩
  subst e
  have:=y ws hw
  rw [hv] at this
  cases this
  exact⟨r,.refl ab⟩
theorem U4{pins:List (Addr×Obj)}{σ:L2.St}{H H1:Hp}{G G1:Gp}{s1:aA}{l:Addr}{vs:List V}{ds:List D}{R:List D->(Gp->Prop)->Gp->Prop}(I1:Inv X pins σ H1 s1)(m:Mv X.K H G H1 G1)(hq:A7 X.K H1 l vs)(rd:bF X.K H1 vs ds)
  (q:R ds (fun _=>True) G1):wpAny (model X.prog X.w) X.A (BX (.ref l)) (K1 X pins σ tg H G R) X.xe s1:=by
 obtain⟨bM,rv,pl,hz⟩:=I1.tuple hq
 refine wpAny_pyIter_tuple (show s1.heap.IsTuple l bM.toArray from pl) ?_
 refine⟨s1.heap.objs.size,[s1.heap.objs.size],_,_,H1,G1,ds,_,rfl,I1.kept (t':=s1.toks) fun b o e=>aN _ e,m,Jx l _,⟨_,bx _ rfl,rfl,rfl⟩,fun b hb=>?_,fun i H2 G2 k ab _=>?_,q⟩
 ·have e:b=s1.heap.objs.size:=by simpa using hb
  subst e
  exact I1.Hx (aM _) (I1.cT.fresh (aM _))
 ·have hw:=k.sqT hq
  have yA:=rd.mono k
  refine⟨fun d hd=>?_,fun hl=>⟨vs,hw,by rw [rd.length]; exact hl⟩⟩
  obtain⟨v,hv,r⟩:=yA.get hd
  refine⟨⟨vs,v,hw,hv⟩,?_⟩
  rintro x H3 ⟨e,y⟩
  subst e
  have:=y vs hw
  rw [hv] at this
  cases this
  exact⟨r,.refl ab⟩
theorem fJ(ha:gW X a ta):RS X tg a (lK ta):=by
 intro E pins s σ H τ G R hE I h
 refine kn ha hE I h fun x H1 d G1 v s1 I1 m1 r1 jV q1=>?_
 cases jV with
 | tup hq rs=>cases r1; exact U4 I1.inv m1 (.of hq) rs q1
 | fG hq rs=>cases r1; exact LW I1.inv m1 hq.sq (fun H2 G2 k ab _=>⟨_,(k.Vh hq).sq,rs.mono k⟩) q1
 | ref p =>
  cases r1
  dsimp only at q1
  split at q1
  ·rename_i ds e
   obtain⟨vs,hv,rs⟩:=I1.ab.lst e
   refine LW I1.inv m1 (.of hv) (fun H2 G2 k ab o=>?_) q1
   obtain⟨ws,hw,tK⟩:=ab.lst o
   exact⟨ws,.of hw,tK⟩
  ·exact q1.elim
 | oK _ _=>exact q1.elim
 | oJ _ _=>exact q1.elim
 | du=>exact q1.elim
 | bl _=>exact q1.elim
 | int _=>exact q1.elim
 | str _=>exact q1.elim
 | exc _=>exact q1.elim
theorem Vq{pins:List (Addr×Obj)}{σ:L2.St}{H H1:Hp}{G G1:Gp}{s:aA}{R:List D->(Gp->Prop)->Gp->Prop}{lo hi:Int}{t u v:Tok}{tk:Nat}(I:Inv X pins σ H1 s)(m:Mv X.K H G H1 G1)(h1:-(2 ^ 62)<=lo)(h2:lo < 2 ^ 62)(h3:-(2 ^ 62)<=hi)(h4:hi < 2 ^ 62)
  (q:R (dR lo (hi - lo).toNat) (fun _=>True) G1):wpAny (model X.prog X.w) X.A (BX (.ref s.heap.objs.size)) (K1 X pins σ tg H G R) X.xe { s with heap:=s.heap.push { cls:=.type "range",data:=.fields #[.int lo t,.int hi u,.int 1 v] },toks:=tk }:=by
 refine gN (P5 (tg:=tg) I h1 h2 h3 h4 (R:=fun J H'=>J=Itr lo (hi - lo).toNat/\H'=H1) ⟨rfl,rfl⟩) ?_
 rintro TB s2 ⟨it,fp,tn,J,H',e,nh,T,st,fo,eJ,eH⟩
 subst eJ; subst eH
 refine⟨it,fp,tn,_,H',G1,_,_,e,nh,m,T,st,fo,fun i H2 G2 k ab _=>⟨fun d hd=>?_,fun hl=>?_⟩,q⟩
 ·unfold dR at hd
  rw [bA] at hd
  cases Az:(bq (hi - lo).toNat)[i]? with
  | none=>rw [Az] at hd; cases hd
  | some j =>
   rw [Az] at hd
   obtain⟨lG,ej⟩:=List.getElem?_eq_some_iff.mp Az
   rw [d4] at lG
   rw [lD] at ej
   subst ej
   cases hd
   refine⟨lG,?_⟩
   rintro x H3 ⟨e1,e2⟩
   subst e1; subst e2
   exact⟨.int _,.refl ab⟩
 ·unfold dR at hl
  rw [ah,d4] at hl
  exact hl
theorem fP (hg:Gl X "range") (hm:X.mg "range" = none) (ha:gW X a ta) (hs:autoParam (cB [a] X.env=[(false,eval a X.env)]) Ar._auto_1):RS X tg (.Call (.Name "range" p) [a] [] pos) (mP ta):=by
 intro E pins s σ H τ G R hE I h
 have hA:K3 X [a] (aK ta bL):=ax ha aR hs
 refine Call_ (om I.inv hg hm boot_range (fu (Ds hA pos hE I (R:=fun ds G1=>match ds with | [.int n]=>-(2 ^ 62)<=n/\n < 2 ^ 62/\R (dR 0 n.toNat) (fun _=>True) G1 | _=>False) ?_ fun vs H1 ds G1 us s1 I1 m1 r1 jV q1=>?_) hs rfl))
 ·show ta E τ G _
  have e:(fun (x:D) (G1:Gp)=>match [x] with | [.int n]=>-(2 ^ 62)<=n/\n < 2 ^ 62/\R (dR 0 n.toNat) (fun _=>True) G1 | _=>False)=fun x G1=>match x with | .int n=>-(2 ^ 62)<=n/\n < 2 ^ 62/\R (dR 0 n.toNat) (fun _=>True) G1 | _=>False:=by
   funext x G1; cases x <;> rfl
  exact e ▸ h
 ·split at q1
  ·rename_i n
   obtain⟨w,rfl,DC⟩:=jV.one
   cases DC
   obtain⟨u,rfl,ru⟩:=r1.one
   obtain⟨t,rfl⟩:=ru
   obtain⟨q1,q2,q⟩:=q1
   exact call_range_1 (Vq I1.inv m1 (by lia) (by lia) q1 q2 (by simpa using q))
  ·exact q1.elim
theorem eO{iter:Expr}{body:List Stmt}{wi:RQ}{g:BR}{t:iT}(hp:PassesOwn (model X.prog X.w) X.A X.env X.xe)(hc:X.calm=true)(hi:RS X tg iter wi)(hg:OX X tg g)(hb:A8 X body t)
  (hs:autoParam (∀ x,kh iter X.env x=pure x) Ai._auto_1):Jb X (.For tg iter body [] pos) (fW wi g t):=by
 intro E pins s σ H τ G D hE I h
 refine wpAny_For (gN (hi E pins s σ H τ G _ hE I h) fun v s1 h1=>gN h1 fun TB s2 h2=>?_) hs
 obtain⟨it,fp,tn,J,H2,G2,ds,ok,e,nh,m2,T,OP,f2,wk,q⟩:=h2
 subst e
 have JF:∀ {H':Hp},(∀ b∈fp,H' b=none)->∀ b∈fp,nI X pins H' b:=fun hn b hb=>⟨hn b hb,(f2 b hb).2⟩
 refine codeAny_forLoop_any (fun n s'=>∃ i jx H' nK G',I2 X pins jx H' nK G' s'/\Mv X.K H G H' G'/\Kp H2 H'/\tn i s'.heap/\(∀ b∈fp,H' b=none)/\n=ds.length - i/\i<=ds.length/\tv g t ok (ds.drop i) E D nK G') ?_ ds.length
  ⟨0,σ,H2,τ,G2,I.mv nh m2,m2,.refl _,OP,fun b hb=>(f2 b hb).1,rfl,cJ _,q⟩
 rintro n s3 ⟨i,Fq,H3,Pk,G3,I3,m3,k3,ZL,YQ,rfl,hle,w3⟩
 by_cases lG:i < ds.length
 ·rw [fk lG] at w3
  obtain⟨WT,w3⟩:=w3
  obtain⟨go,yl⟩:=(wk i H3 G3 k3 I3.ab WT).1 ds[i] (by simp [lG])
  refine fw hp (gN (T.item X rfl rfl rfl hc i pins s3 Fq H3 X.xe I3.inv (JF YQ) ZL go) ?_)
  rintro r s4 ⟨u,hr,h4⟩
  subst hr
  refine fw hp (gN h4 ?_)
  rintro _ s5 ⟨x,H5,I5,r5,y5,Vf,fr5⟩
  obtain⟨rd5,m5⟩:=yl x H5 y5
  have I5':=I5.pinned (JF fr5) (T.obj _ _ Vf)
  have J5:I2 X (pins++mJ fp s5.heap) Fq H5 Pk G3 s5:=⟨I5',I3.st.mono (m5.kp I3.ab),m5.ab⟩
  refine fw hp (gN (hg E _ s5 Fq H5 Pk G3 x ds[i] u _ hE J5 r5 rd5 w3) ?_)
  rintro _ s6 ⟨σ6,H6,τ6,G6,I6,m6,q6⟩
  refine fw hp (gN (hb E _ s6 σ6 H6 τ6 G6 _ hE I6 q6) fun f s7 q7=>?_)
  have again:∀ {OO:L2.St} {H7:Hp} {ON:iH} {G7:Gp},I2 X (pins++mJ fp s5.heap) OO H7 ON G7 s7->Mv X.K H6 G6 H7 G7->tv g t ok (ds.drop (i+1)) E D ON G7 ->
    ∃ m,m < ds.length - i/\∃ i jx H' nK G',I2 X pins jx H' nK G' s7/\Mv X.K H G H' G'/\Kp H2 H'/\tn i s7.heap/\(∀ b∈fp,H' b=none)/\m=ds.length - i/\i<=ds.length/\tv g t ok (ds.drop i) E D nK G':=fun {OO H7 ON G7} I7 m7 n7=>by
   have mm:=m5.trans (m6.trans m7)
   refine⟨ds.length - (i+1),by lia,i+1,OO,H7,ON,G7,⟨I7.inv.qO,I7.st,I7.ab⟩,m3.trans mm,k3.trans (mm.kp I3.ab),T.keep _ _ _ Vf fun b hb o e=>(I7.inv.pin (b,o) (bH _ (bH _ (kC hb e)))).1,fun b hb=>?_,rfl,lG,n7⟩
   obtain⟨o,e,d⟩:=T.obj _ _ Vf b hb
   exact(I7.inv.pin (b,o) (bH _ (bH _ (kC hb e)))).2.1
  cases f with
  | next=>obtain⟨OO,H7,ON,G7,I7,m7,n7⟩:=q7; exact again I7 m7 n7
  | cont=>obtain⟨OO,H7,ON,G7,I7,m7,n7⟩:=q7; exact again I7 m7 n7
  | brk=>obtain⟨OO,H7,ON,G7,I7,m7,q7⟩:=q7; exact⟨OO,H7,ON,G7,⟨I7.inv.qO,I7.st,I7.ab⟩,m3.trans (m5.trans (m6.trans m7)),q7⟩
  | ret v=>obtain⟨x7,OO,H7,d7,G7,I7,m7,r7,rd7,q7⟩:=q7; exact⟨x7,OO,H7,d7,G7,I7.qO,m3.trans (m5.trans (m6.trans m7)),r7,rd7,q7⟩
 ·have hn:ds.length<=i:=by lia
  rw [ji hn] at w3
  obtain⟨WT,qn⟩:=w3
  have stop:=(wk i H3 G3 k3 I3.ab WT).2 hn
  refine fw hp (gN (T.done X rfl rfl rfl hc i pins s3 Fq H3 X.xe I3.inv (JF YQ) ZL stop) ?_)
  rintro r s4 ⟨hr,I4⟩
  subst hr
  exact mE ⟨Fq,H3,Pk,G3,⟨I4,I3.st,I3.ab⟩,m3,qn⟩
theorem Ni{c:Expr}{body:List Stmt}{tc:yr}{t:iT}(hp:PassesOwn (model X.prog X.w) X.A X.env X.xe)(hc:C3 X c tc)(hb:A8 X body t):Jb X (.While c body [] pos) (Ry tc t):=by
 intro E pins s σ H τ G D hE I h
 obtain⟨n0,w0⟩:=h
 refine wpAny_While (codeAny_whileLoop (fun n s'=>∃ jx H' nK G',I2 X pins jx H' nK G' s'/\Mv X.K H G H' G'/\Fw tc t n E D nK G') ?_ n0 ⟨σ,H,τ,G,I,.refl I.ab,w0⟩)
 rintro n s1 ⟨WN,H1,o8,G1,I1,m1,w1⟩
 cases n with
 | zero=>exact w1.elim
 | succ n =>
  refine fw hp (M0 hc hE I1 w1 fun b H2 G2 s2 nh m2 q2=>?_)
  cases b with
  | true =>
   rw [if_pos rfl] at q2 ⊢
   refine fw hp (gN (hb E pins s2 WN H2 o8 G2 _ hE nh q2) fun f s3 q3=>?_)
   cases f with
   | next=>obtain⟨Fq,H3,Pk,G3,I3,m3,n3⟩:=q3; exact⟨n,ur _,Fq,H3,Pk,G3,I3,m1.trans (m2.trans m3),n3⟩
   | cont=>obtain⟨Fq,H3,Pk,G3,I3,m3,n3⟩:=q3; exact⟨n,ur _,Fq,H3,Pk,G3,I3,m1.trans (m2.trans m3),n3⟩
   | brk=>exact q3.trans (m1.trans m2)
   | ret v=>exact q3.trans (m1.trans m2)
  | false =>
   rw [if_neg e7] at q2 ⊢
   exact mE ⟨WN,H2,o8,G2,nh,m1.trans m2,q2⟩
end
end K2
end
section
namespace K2
open PySem PySem.Spec PyProof.Rows L2
theorem DB(n d:Nat)(o:Option Int):HT.jM n d o=jM n d o:=by cases o <;> rfl
theorem bF.cut{K:aj}{H:Hp}{vs:List V}{ds:List D}(r:bF K H vs ds)(lo hi:Option Int):bF K H (HW vs lo hi) (K2.cut ds lo hi):=by
 unfold HW K2.cut
 rw [DB,DB,r.length]
 exact(r.drop _).take _
theorem bF.oz{K:aj}{H:Hp}{vs:List V}{ds:List D}{i:Int}{d:D}(r:bF K H vs ds)(h:K2.oz ds i=some d):∃ v,L2.oz vs i=some v/\cX K H v d:=by
 unfold K2.oz at h
 cases e:K2.Ef ds.length i with
 | none=>rw [e] at h; cases h
 | some j =>
  rw [e] at h
  obtain⟨v,h1,h2⟩:=r.get (show ds[j]?=some d from h)
  refine⟨v,?_,h2⟩
  show (L2.Ef vs.length i).bind _=_
  have e':L2.Ef vs.length i=some j:=by rw [r.length]; exact e
  rw [e']
  exact h1
section
variable {X:Cx} {a b c e:Expr} {ta tb tc te:gI} {pos p2:Pos}
theorem kJ{pins:List (Addr×Obj)}{s:aA}{σ:L2.St}{H:Hp}{G:Gp}{x:V}{d:D}{v:Value}{zs:List D}(I:Inv X pins σ H s)(ab:mw X.K H G)(rx:RelV x v)(rd:cX X.K H x d)(hi:ql d G=some zs) :
  ∃ l vs bM,v=.ref l/\Vals vs bM/\bF X.K H vs zs/\s.heap.IsList l bM.toArray/\vs.length<=bG:=by
 cases rd with
 | fG hq rs =>
  cases hi
  cases rx
  obtain⟨bM,rv,pl,hz⟩:=I.list hq.sq
  exact⟨_,_,bM,rfl,rv,rs,pl.isList,hz⟩
 | ref l =>
  unfold ql at hi
  dsimp only at hi
  cases hg:G l with
  | none=>rw [hg] at hi; cases hi
  | some gg =>
   rw [hg] at hi
   cases gg with
   | lst ds =>
    cases hi
    cases rx
    obtain⟨vs,hv,rs⟩:=ab.lst hg
    obtain⟨bM,rv,pl,hz⟩:=I.list (.of hv)
    exact⟨_,_,bM,rfl,rv,rs,pl.isList,hz⟩
   | iO _=>cases hi
 | _=>cases hi
theorem mB{pins:List (Addr×Obj)}{s:aA}{σ:L2.St}{H:Hp}(I:Inv X pins σ H s){m:Str->Option Value}(F0:Fr X.base X.env.locals s.heap m){h':Heap}(F:Fr X.base X.env.locals h' m)(N:News X.base X.env.locals h' (qc X.base s.heap X.env.locals)) :
  (∀ b o,b≠X.env.locals->s.heap.get? b=some o->h'.get? b=some o)/\∀ m',s.heap.Ns X.env.locals m'->h'.Ns X.env.locals m':=by
 refine⟨fun b o hb e=>?_,fun m' hm=>?_⟩
 ·cases q:X.base.get? b with
  | some u =>
   have:=I.bk b u q
   rw [e] at this; cases this
   exact F.keep b _ q
  | none=>exact(N (b,o) (nZ hb q e)).1
 ·have e1:=hm.eq_nsMap
  have e2:=F0.ns.eq_nsMap
  rw [e1,← e2]; exact F.ns
theorem kB{P:ck}{w:World}{H:Hp}{h:Heap}{a:Addr}:∀ {o:HO},hX P w H h a o->∃ ob,h.get? a=some ob:=by
 intro o x
 cases o with
 | lst _=>obtain⟨_,_,_,_,e⟩:=x; exact⟨_,e⟩
 | tup _=>obtain⟨_,_,_,ob,e,_⟩:=x; exact⟨ob,e⟩
 | dK _=>obtain⟨_,_,_,_,ob,_,_,e,_⟩:=x; exact⟨ob,e⟩
 | dT _=>obtain⟨_,_,_,_,ob,_,_,e,_⟩:=x; exact⟨ob,e⟩
 | set _ _=>obtain⟨ob,_,_,_,e,_⟩:=x; exact⟨ob,e⟩
 | ins _ _ _=>obtain⟨_,_,_,e,_⟩:=x; exact⟨_,e⟩
 | own _=>exact x
 | xd _=>obtain⟨_,⟨ob,_,_,e,_⟩,_⟩:=x; exact⟨ob,e⟩
 | met _ _=>exact⟨_,x⟩
 | ZO _ _=>obtain⟨_,_,_,e⟩:=x; exact⟨_,e⟩
 | lW _ _=>exact⟨_,x.1⟩
 | Ut _=>exact⟨_,x⟩
 | ext _=>exact x.2.1
theorem yQ{P:ck}{w:World}{H:Hp}{h:Heap}{a:Addr}(ok:uz P w H h)(e:h.get? a=none):H a=none:=by
 cases q:H a with
 | none=>rfl
 | some o =>
  obtain⟨ob,z⟩:=kB (ok a o q)
  rw [e] at z; cases z
theorem Inv.LZ{pins:List (Addr×Obj)}{s:aA}{σ:L2.St}{H:Hp}(I:Inv X pins σ H s){h':Heap}{t':Nat}{a:Addr}{o:HO}(k:∀ b o,b≠X.env.locals->s.heap.get? b=some o->h'.get? b=some o)(ns:∀ m',s.heap.Ns X.env.locals m'->h'.Ns X.env.locals m')
  (hp:s.heap.get? a=none) (new:hX X.prog X.w (upd H a o) h' a o):Inv X pins σ (upd H a o) { s with heap:=h',toks:=t' }:=by
 have hn:H a=none:=yQ I.cT hp
 have ne:∀ b u,H b=some u->b≠a:=fun b u e=>fA e hn
 have nL:∀ b u,H b=some u->b≠X.env.locals:=fun b u e=>fA e I.free
 have ht:∀ b u,s.heap.get? b=some u->b≠a:=fun b u e z=>by subst z; rw [hp] at e; cases e
 have thL:∃ o',h'.get? X.env.locals=some o':=by
  obtain⟨m,hm,_⟩:=I.loc
  obtain⟨o',_,_,ho,_⟩:=ns m hm
  exact⟨o',ho⟩
 refine I.step (g':=s.gens) (d':=s.drawn) (ch:=[]) (fun b hb=>absurd hb (by simp)) (fun b o hL _ _ e _=>k b o hL e) (fun b o hL _ _ e _=>⟨o.slots,k b o hL e⟩) (fun b o _ e n=>by rw [cu (ht b o e)]; exact n)
  (fun b o _ e=>?_) (fun b xs e=>by rw [cu (ne _ _ e)]; exact e) (fun b o u e=>by rw [cu (ne _ _ e)]; exact e) (fun b ps e=>⟨#[],by rw [cu (ne _ _ e),e]; simp⟩) ns (fun b u e=>?_) I.bare
 ·by_cases hb:b=X.env.locals
  ·rw [hb]; exact thL
  ·exact⟨o,k b o hb e⟩
 ·by_cases hb:b=a
  ·subst hb; rw [dj] at e; cases e; exact new
  ·rw [cu hb] at e
   refine(I.cT b u e).nA (fun c v hc r=>k c v ?_ r) (fun c z=>by rw [cu (ne _ _ z)]; exact z) (fun c xs z=>by rw [cu (ne _ _ z)]; exact z)
   rcases hc with rfl | hc
   ·exact nL _ _ e
   ·exact nL _ _ hc
theorem kb:oX X (kj .Add) qv:=by
 intro pins s σ H G x y dx dy v u Q I ab rx ry dX dY q
 have lists:K0 dx dy G Q->wpAny (model X.prog X.w) X.A (kj .Add v u) (sV X pins σ H G Q) X.xe s:=by
  intro q
  unfold K0 at q
  split at q
  ·rename_i xs ys e1 e2
   obtain⟨hz,q⟩:=q
   obtain⟨l,vs,bM,rfl,rv,rs,hl,_⟩:=kJ I ab rx dX e1
   obtain⟨b,ws,wU,rfl,PV,R8,hb,_⟩:=kJ I ab ry dY e2
   obtain⟨m,F0⟩:=I.fr
   have hsz:bM.length+wU.length<=bG:=by rw [← rv.length,← PV.length,rs.length,R8.length,cN]; exact hz
   refine PyProof.Rows.add_lists F0 zV hl hb (fun h' F N=>?_) hsz
   obtain⟨kk,ns⟩:=mB I F0 F fun p hp=>N p (ao _ hp)
   have hp:H s.heap.objs.size=none:=I.cT.fresh (aM _)
   refine⟨.ref s.heap.objs.size,upd H s.heap.objs.size (.lst (vs++ws)),.ref _,_,Inv.LZ (t':=s.toks) I kk ns (SD (aM _)) ?_,.BA ab hp (rs.append R8),rfl,.ref _,q _ (ab.free hp)⟩
   exact⟨by rw [aq,rv.length,PV.length]; exact hsz,bM++wU,0,rv.append PV,(N _ ay).1⟩
  ·exact q.elim
 cases dX with
 | int i =>
  cases dY with
  | int j=>exact gN (VH pins s σ H _ _ v u (ES X.K H G Q) I rx ry ⟨i,j,rfl,rfl,_,_,.refl ab,.int _,q⟩) fun _ _ z=>.of z
  | _=>exact lists q
 | str i =>
  cases dY with
  | str j =>
   obtain⟨hz,q⟩:=q
   exact gN (JR pins s σ H _ _ v u (ES X.K H G Q) I rx ry ⟨i,j,rfl,rfl,by rw [cN]; exact hz,_,_,.refl ab,.str _,q⟩) fun _ _ z=>.of z
  | _=>exact lists q
 | tup h1 r1 =>
  cases dY with
  | tup h2 r2 =>
   obtain⟨hn,hz,q⟩:=q
   refine gN (Tp pins s σ H _ _ v u (ES X.K H G Q) I rx ry ⟨_,_,_,_,rfl,rfl,.of h1,.of h2,?_,?_,fun e=>?_,fun e p hp=>?_⟩) fun _ _ z=>.of z
   ·rintro rfl; cases r1; exact hn rfl
   ·rw [r1.length,r2.length,cN]; exact hz
   ·subst e
    cases r2
    rw [cc] at q
    exact⟨_,_,.refl ab,.tup h1 r1,q⟩
   ·exact⟨_,_,.OR ab hp,.tup dj ((r1.append r2).mono (.new hp)),q⟩
  | _=>exact lists q
 | ref l=>exact lists (by rw [vm] at q; exact q)
 | fG _ _=>exact lists (by rw [vk] at q; exact q)
 | _=>exact lists (by cases dY <;> exact q)
theorem jd:oX X (kj .Sub) tL:=by
 intro pins s σ H G x y dx dy v u Q I ab rx ry dX dY q
 cases dX with
 | int i =>
  cases dY with
  | int j=>exact gN (VD pins s σ H _ _ v u (ES X.K H G Q) I rx ry ⟨i,j,rfl,rfl,_,_,.refl ab,.int _,q⟩) fun _ _ z=>.of z
  | _=>exact cw q
 | _=>exact cw q
theorem je:oX X (kj .Mult) sI:=by
 intro pins s σ H G x y dx dy v u Q I ab rx ry dX dY q
 cases dX with
 | int i =>
  cases dY with
  | int j=>exact gN (VE pins s σ H _ _ v u (ES X.K H G Q) I rx ry ⟨i,j,rfl,rfl,q.1,_,_,.refl ab,.int _,q.2⟩) fun _ _ z=>.of z
  | _=>exact cw q
 | _=>exact cw q
theorem fS:oX X (kj .Mod) lI:=by
 intro pins s σ H G x y dx dy v u Q I ab rx ry dX dY q
 cases dX with
 | int i =>
  cases dY with
  | int j=>exact gN (VF pins s σ H _ _ v u (ES X.K H G Q) I rx ry ⟨i,j,rfl,rfl,q.1,_,_,.refl ab,.int _,q.2⟩) fun _ _ z=>.of z
  | _=>exact cw q
 | _=>exact cw q
theorem kY:oX X (kj .FloorDiv) tu:=by
 intro pins s σ H G x y dx dy v u Q I ab rx ry dX dY q
 cases dX with
 | int i =>
  cases dY with
  | int j=>exact gN (To pins s σ H _ _ v u (ES X.K H G Q) I rx ry ⟨i,j,rfl,rfl,⟨q.1,q.2.1⟩,_,_,.refl ab,.int _,q.2.2⟩) fun _ _ z=>.of z
  | _=>exact cw q
 | _=>exact cw q
theorem Ql(hu:X.A.units < cLine):oX X (ff .Lt) XA:=by
 intro pins s σ H G x y dx dy v u Q I ab rx ry dX dY q
 cases dX with
 | int i =>
  cases dY with
  | int j=>exact gN (XI pins s σ H _ _ v u (ES X.K H G Q) I rx ry ⟨i,j,rfl,rfl,_,_,.refl ab,.bl _,q⟩) fun _ _ z=>.of z
  | _=>exact cw q
 | tup h1 r1 =>
  cases dY with
  | tup h2 r2 =>
   obtain⟨xs,ys,e1,e2,q⟩:=q
   subst e1 e2
   have z1:=r1.ints
   have z2:=r2.ints
   subst z1 z2
   have el:∀ xs ys:List Int,HT.lexLt xs ys=K2.lexLt xs ys:=by
    intro xs
    induction xs with
    | nil=>intro ys; cases ys <;> rfl
    | cons x xs ih=>intro ys; cases ys with
     | nil=>rfl
     | cons y ys=>unfold HT.lexLt K2.lexLt; rw [ih]
   exact gN (VG hu pins s σ H _ _ v u (ES X.K H G Q) I rx ry ⟨_,_,xs,ys,rfl,rfl,.of h1,.of h2,_,_,.refl ab,.bl _,by rw [el]; exact q⟩) fun _ _ z=>.of z
  | _=>exact cw q
 | _=>exact cw q
theorem Qm:oX X (ff .LtE) XB:=by
 intro pins s σ H G x y dx dy v u Q I ab rx ry dX dY q
 cases dX with
 | int i =>
  cases dY with
  | int j=>exact gN (XJ pins s σ H _ _ v u (ES X.K H G Q) I rx ry ⟨i,j,rfl,rfl,_,_,.refl ab,.bl _,q⟩) fun _ _ z=>.of z
  | _=>exact cw q
 | _=>exact cw q
mutual
noncomputable def pd:D->PyData
 | .du=>.none
 | .bl b=>.bool b
 | .int i=>.int i
 | .str x=>.str x
 | .tup ds=>.tuple (lV ds)
 | .fG ds=>.list (lV ds)
 | .kg _=>.none
 | .exc _=>.none
 | .ref _=>.none
noncomputable def lV:List D->List PyData
 | []=>[]
 | d :: r=>pd d :: lV r
end
mutual
theorem uc:∀ (s t:D),nr s=true->nr t=true->uE (pd s) (pd t)=i7 s t
 | .du,t,_,ht=>by cases t <;> first | rfl | (exact bZ (show false=true from ht))
 | .bl a,t,_,ht=>by cases t <;> first | rfl | (exact bZ (show false=true from ht))
 | .int a,t,_,ht=>by cases t <;> first | rfl | (exact bZ (show false=true from ht))
 | .str a,t,_,ht=>by cases t <;> first | rfl | (exact bZ (show false=true from ht))
 | .tup a,t,hs,ht=>by
  cases t with
  | tup b=>exact Es a b hs ht
  | ref _=>exact bZ (show false=true from ht)
  | exc _=>exact bZ (show false=true from ht)
  | kg _=>exact bZ (show false=true from ht)
  | _=>rfl
 | .fG a,t,hs,ht=>by
  cases t with
  | fG b=>exact Es a b hs ht
  | ref _=>exact bZ (show false=true from ht)
  | exc _=>exact bZ (show false=true from ht)
  | kg _=>exact bZ (show false=true from ht)
  | _=>rfl
 | .ref _,_,hs,_=>bZ (show false=true from hs)
 | .exc _,_,hs,_=>bZ (show false=true from hs)
 | .kg _,_,hs,_=>bZ (show false=true from hs)
theorem Es:∀ (s t:List D),qj s=true->qj t=true->PyData.eqvAll (lV s) (lV t)=lb s t
 | [],[],_,_=>rfl
 | [],_ :: _,_,_=>rfl
 | _ :: _,[],_,_=>rfl
 | a :: r,b :: t,hs,ht=>by
  have Mg:nr a=true/\qj r=true:=(jZ).mp hs
  have Yg:nr b=true/\qj t=true:=(jZ).mp ht
  show (uE (pd a) (pd b)&&PyData.eqvAll (lV r) (lV t))=(i7 a b&&lb r t)
  rw [uc a b Mg.1 Yg.1,Es r t Mg.2 Yg.2]
end
mutual
theorem kc:∀ (s:D),nr s=true->(pd s).canLay0=true
 | .du,_=>rfl
 | .bl a,_=>rfl
 | .int a,_=>rfl
 | .str a,h=>h
 | .tup a,h=>vC a h
 | .fG a,h=>vC a h
 | .exc _,_=>rfl
 | .ref _,_=>rfl
 | .kg _,_=>rfl
theorem vC:∀ (s:List D),qj s=true->PyData.canLayAll0 (lV s)=true
 | [],_=>rfl
 | a :: r,h=>by
  have h':nr a=true/\qj r=true:=(jZ).mp h
  show ((pd a).canLay0&&PyData.canLayAll0 (lV r))=true
  rw [kc a h'.1,vC r h'.2]; rfl
end
theorem AK{G:Gp}{n:Nat}{d t:D}(h:Sn G n d t):(pd t).depth<=n:=by
 induction h with
 | du=>exact cJ _
 | bl b=>exact cJ _
 | int i=>exact cJ _
 | str x h=>exact cJ _
 | JB=>exact uo (cJ _)
 | qQ _ _ QO QN =>
  exact uo (Nat.max_le.mpr ⟨QO,uG QN⟩)
 | FR=>exact uo (cJ _)
 | FV _ _ QO QN =>
  exact uo (Nat.max_le.mpr ⟨QO,uG QN⟩)
 | ref _ _ ih=>exact ih
theorem iF{pins:List (Addr×Obj)}{σ:L2.St}{H:Hp}{s:aA}{G:Gp}(I:Inv X pins σ H s)(ab:mw X.K H G){n:Nat}{d t:D}(h:Sn G n d t) :
  (∀ v u,cX X.K H v d->RelV v u->∃ as,Reads s.heap u (pd t) as) /\
  (∀ ds ss,(d=.fG ds/\t=.fG ss)\/(d=.tup ds/\t=.tup ss)->∀ vs us,bF X.K H vs ds->Vals vs us->∃ as,g7 s.heap us (lV ss) as):=by
 have Us:∀ {ds ss:List D},(∀ vs us,bF X.K H vs ds->Vals vs us->∃ as,g7 s.heap us (lV ss) as)->∀ v u,cX X.K H v (.tup ds)->RelV v u->∃ as,Reads s.heap u (pd (.tup ss)) as:=by
  intro ds ss k v u r ru
  cases r with
  | tup hq rs =>
   cases ru
   obtain⟨bM,rv,⟨o,ho,hc,n,hd⟩,hz⟩:=I.tuple (.of hq)
   obtain⟨as,ra⟩:=k _ bM rs rv
   exact⟨as,.tuple ho hc hd (by simpa using ra)⟩
 have Uw:∀ {ds ss:List D},(∀ vs us,bF X.K H vs ds->Vals vs us->∃ as,g7 s.heap us (lV ss) as)->∀ v u,cX X.K H v (.fG ds)->RelV v u->∃ as,Reads s.heap u (pd (.fG ss)) as:=by
  intro ds ss k v u r ru
  cases r with
  | fG hq rs =>
   cases ru
   obtain⟨bM,rv,pl,hz⟩:=I.list hq.sq
   obtain⟨o,ho,hc,n,hd⟩:=pl.isList
   obtain⟨as,ra⟩:=k _ bM rs rv
   exact⟨_,.list ho hc hd (by simpa using ra)⟩
 induction h with
 | du=>exact⟨fun v u r ru=>by cases r; cases ru; exact⟨_,.none⟩,fun ds ss e=>by rcases e with ⟨e,_⟩ | ⟨e,_⟩ <;> cases e⟩
 | bl b=>exact⟨fun v u r ru=>by cases r; cases ru; exact⟨_,.bool b⟩,fun ds ss e=>by rcases e with ⟨e,_⟩ | ⟨e,_⟩ <;> cases e⟩
 | int i=>exact⟨fun v u r ru=>by cases r; obtain⟨t,rfl⟩:=ru; exact⟨_,.int i t⟩,fun ds ss e=>by rcases e with ⟨e,_⟩ | ⟨e,_⟩ <;> cases e⟩
 | str x hx=>exact⟨fun v u r ru=>by cases r; obtain⟨t,rfl⟩:=ru; exact⟨_,.str x t⟩,fun ds ss e=>by rcases e with ⟨e,_⟩ | ⟨e,_⟩ <;> cases e⟩
 | JB =>
  have k:∀ vs us,bF X.K H vs []->Vals vs us->∃ as,g7 s.heap us (lV []) as:=fun vs us r ru=>by
   have e:=r.zero
   subst e
   cases ru
   exact⟨_,.nil⟩
  refine⟨Us k,fun ds ss e=>?_⟩
  rcases e with ⟨e,_⟩ | ⟨e,e2⟩
  ·cases e
  ·cases e; cases e2; exact k
 | qQ h1 h2 QO QN =>
  have k2:=QN.2 _ _ (.inr ⟨rfl,rfl⟩)
  have k:∀ vs us,bF X.K H vs (_ :: _)->Vals vs us->∃ as,g7 s.heap us (lV (_ :: _)) as:=fun vs us r ru=>by
   cases r with
   | cons r1 r2 =>
    cases ru with
    | cons u1 u2 =>
     obtain⟨as,ra⟩:=QO.1 _ _ r1 u1
     obtain⟨bs,rb⟩:=k2 _ _ r2 u2
     exact⟨_,.cons ra rb⟩
  refine⟨Us k,fun ds ss e=>?_⟩
  rcases e with ⟨e,_⟩ | ⟨e,e2⟩
  ·cases e
  ·cases e; cases e2; exact k
 | FR =>
  have k:∀ vs us,bF X.K H vs []->Vals vs us->∃ as,g7 s.heap us (lV []) as:=fun vs us r ru=>by
   have e:=r.zero
   subst e
   cases ru
   exact⟨_,.nil⟩
  refine⟨Uw k,fun ds ss e=>?_⟩
  rcases e with ⟨e,e2⟩ | ⟨e,_⟩
  ·cases e; cases e2; exact k
  ·cases e
 | FV h1 h2 QO QN =>
  have k2:=QN.2 _ _ (.inl ⟨rfl,rfl⟩)
  have k:∀ vs us,bF X.K H vs (_ :: _)->Vals vs us->∃ as,g7 s.heap us (lV (_ :: _)) as:=fun vs us r ru=>by
   cases r with
   | cons r1 r2 =>
    cases ru with
    | cons u1 u2 =>
     obtain⟨as,ra⟩:=QO.1 _ _ r1 u1
     obtain⟨bs,rb⟩:=k2 _ _ r2 u2
     exact⟨_,.cons ra rb⟩
  refine⟨Uw k,fun ds ss e=>?_⟩
  rcases e with ⟨e,e2⟩ | ⟨e,_⟩
  ·cases e; cases e2; exact k
  ·cases e
 | ref hg h1 ih =>
  refine⟨fun v u r ru=>?_,fun ds ss e=>by rcases e with ⟨e,_⟩ | ⟨e,_⟩ <;> cases e⟩
  cases r
  cases ru
  obtain⟨vs,hv,rs⟩:=ab.lst hg
  obtain⟨bM,rv,pl,hz⟩:=I.list (.of hv)
  obtain⟨o,ho,hc,n,hd⟩:=pl.isList
  obtain⟨as,ra⟩:=ih.2 _ _ (.inl ⟨rfl,rfl⟩) vs bM rs rv
  exact⟨_,.list ho hc hd (by simpa using ra)⟩
theorem kA(hu:X.A.units+64 < cLine):oX X (ff .Eq) (xI false):=by
 intro pins s σ H G x y dx dy v u Q I ab rx ry dX dY q
 obtain⟨a,b,sa,sb,q⟩:=q
 obtain⟨as,ra⟩:=(iF I ab sa).1 x v dX rx
 obtain⟨bs,rb⟩:=(iF I ab sb).1 y u dY ry
 have d1:=AK sa
 refine SeqAt.compareEq_reads ra rb (kc _ sa.nr) (kc _ sb.nr) (by unfold SN at d1; lia) ?_
 rw [uc _ _ sa.nr sb.nr]
 exact⟨.bl _,H,.bl _,G,I,.refl ab,rfl,.bl _,q⟩
theorem pH(hu:X.A.units+64 < cLine):oX X (ff .NotEq) (xI true):=by
 intro pins s σ H G x y dx dy v u Q I ab rx ry dX dY q
 obtain⟨a,b,sa,sb,q⟩:=q
 obtain⟨as,ra⟩:=(iF I ab sa).1 x v dX rx
 obtain⟨bs,rb⟩:=(iF I ab sb).1 y u dY ry
 have d1:=AK sa
 refine SeqAt.compareNe_reads ra rb (kc _ sa.nr) (kc _ sb.nr) (by unfold SN at d1; lia) ?_
 rw [uc _ _ sa.nr sb.nr]
 exact⟨.bl _,H,.bl _,G,I,.refl ab,rfl,.bl _,q⟩
end
end K2
end
section
namespace K2
open PySem PySem.Spec PyProof.Rows L2
theorem vO(j k:Key):i7 (eE j) (eE k)=decide (j=k):=by
 cases j with
 | inl a=>cases k with
  | inl b=>rw [QF]; rfl
  | inr b=>exact(decide_eq_false (fun z=>nomatch z)).symm
 | inr a=>cases k with
  | inl b=>exact(decide_eq_false (fun z=>nomatch z)).symm
  | inr b=>rw [QE]; exact(R5 a b)
theorem CK:∀ (js ks:List Key),lb (js.map eE) (ks.map eE)=decide (js=ks)
 | [],[]=>(decide_eq_true rfl).symm
 | [],_ :: _=>(decide_eq_false (fun z=>nomatch z)).symm
 | _ :: _,[]=>(decide_eq_false (fun z=>nomatch z)).symm
 | j :: js,k :: ks=>by
  show (i7 (eE j) (eE k)&&lb (js.map eE) (ks.map eE))=_
  rw [vO,CK js ks,HQ]
theorem oT(js ks:List Key):i7 (.tup (js.map eE)) (.tup (ks.map eE))=decide (js=ks):=by
 exact CK js ks
section
variable {K:aj} {H:Hp}
theorem Ed{d:D}(h:fQ d=true):∃ k:Key,d=eE k:=by
 cases d with
 | int i=>exact⟨.inl i,rfl⟩
 | str x=>exact⟨.inr x,rfl⟩
 | _=>exact absurd h (by simp [fQ])
theorem L1:∀ {ds:List D},ds.all fQ=true->∃ ks:List Key,ds=ks.map eE
 | [],_=>⟨[],rfl⟩
 | d :: r,h=>by
  rw [oD,aP] at h
  obtain⟨k,rfl⟩:=Ed h.1
  obtain⟨ks,rfl⟩:=L1 h.2
  exact⟨k :: ks,rfl⟩
theorem L3{d:D}(h:lJ d=true):∃ ks:List Key,d=.tup (ks.map eE):=by
 cases d with
 | tup ds=>obtain⟨ks,rfl⟩:=L1 (ds:=ds) h; exact⟨ks,rfl⟩
 | _=>exact absurd h (by simp [lJ])
theorem DG{v:V}{k:Key}(r:cX K H v (eE k)):v=kV k:=by
 cases k with
 | inl i=>cases r; rfl
 | inr x=>cases r; rfl
theorem FT:∀ {vs:List V} {ks:List Key},bF K H vs (ks.map eE)->vs=ks.map kV
 | _,[],r=>r.zero
 | _,k :: ks,r=>by
  rw [au] at r
  cases r with
  | cons r1 r2=>rw [DG r1,FT r2]; rfl
theorem uZ{v:V}{ks:List Key}(r:cX K H v (.tup (ks.map eE))):∃ b,v=.ref b/\H b=some (.tup (ks.map kV)):=by
 cases r with
 | tup h rs=>have e:=FT rs; subst e; exact⟨_,rfl,h⟩
theorem oA.look{kv:List (Key×V)}{kvs:List (D×D)}(r:oA K H kv kvs)(k:Key):(∃ v d,ma kv k=some v/\K2.look kvs (eE k)=some d/\cX K H v d)\/(ma kv k=none/\K2.look kvs (eE k)=none):=by
 induction r using oA.ind with
 | nil=>exact .inr ⟨rfl,rfl⟩
 | @cons j v d r t rd rs ih =>
  by_cases e:j=k
  ·left
   refine⟨v,d,qL (p:=(j,v)) e,?_,rd⟩
   unfold K2.look
   rw [lZ (by show i7 (eE j) (eE k)=true; rw [vO]; exact decide_eq_true e)]; rfl
  ·have e1:ma ((j,v) :: r) k=ma r k:=qM (p:=(j,v)) e
   have e2:K2.look ((eE j,d) :: t) (eE k)=K2.look t (eE k):=by
    unfold K2.look
    rw [uw (by show ¬ i7 (eE j) (eE k)=true; rw [vO]; simpa using e)]
   rw [e1,e2]
   exact ih
theorem lQ.look{kv:List (List Key×V)}{kvs:List (D×D)}(r:lQ K H kv kvs)(k:List Key):(∃ v d,ma kv k=some v/\K2.look kvs (.tup (k.map eE))=some d/\cX K H v d)\/(ma kv k=none/\K2.look kvs (.tup (k.map eE))=none):=by
 induction r using lQ.ind with
 | nil=>exact .inr ⟨rfl,rfl⟩
 | @cons j v d r t rd rs ih =>
  by_cases e:j=k
  ·left
   refine⟨v,d,qL (p:=(j,v)) e,?_,rd⟩
   unfold K2.look
   rw [lZ (by show i7 (.tup (j.map eE)) (.tup (k.map eE))=true; rw [oT]; exact decide_eq_true e)]; rfl
  ·have e1:ma ((j,v) :: r) k=ma r k:=qM (p:=(j,v)) e
   have e2:K2.look ((.tup (j.map eE),d) :: t) (.tup (k.map eE))=K2.look t (.tup (k.map eE)):=by
    unfold K2.look
    rw [uw (by show ¬ i7 (.tup (j.map eE)) (.tup (k.map eE))=true; rw [oT]; simpa using e)]
   rw [e1,e2]
   exact ih
theorem oA.any{kv:List (Key×V)}{kvs:List (D×D)}(r:oA K H kv kvs)(k:Key):(kv.any fun p=>decide (p.1=k))=kvs.any fun p=>i7 p.1 (eE k):=by
 induction r using oA.ind with
 | nil=>rfl
 | @cons j v d r t rd rs ih=>simp only [lE]; rw [ih,vO]
theorem lQ.any{kv:List (List Key×V)}{kvs:List (D×D)}(r:lQ K H kv kvs)(k:List Key):(kv.any fun p=>decide (p.1=k))=kvs.any fun p=>i7 p.1 (.tup (k.map eE)):=by
 induction r using lQ.ind with
 | nil=>rfl
 | @cons j v d r t rd rs ih=>simp only [lE]; rw [ih,oT]
theorem oA.put{kv:List (Key×V)}{kvs:List (D×D)}(r:oA K H kv kvs)(k:Key){v:V}{d:D}(rd:cX K H v d):oA K H (putK kv k v) (K2.put kvs (eE k) d):=by
 unfold putK K2.put
 rw [r.any k]
 by_cases h:(kvs.any fun p=>i7 p.1 (eE k))=true
 ·rw [if_pos h,if_pos h]
  clear h
  induction r using oA.ind with
  | nil=>exact .nil
  | @cons j w e r t re rs ih =>
   simp only [au]
   rw [vO]
   by_cases e:j=k
   ·simp only [e,if_true,decide_true]; exact .cons rd ih
   ·simp only [e,if_false,decide_false,aF]; exact .cons re ih
 ·rw [if_neg h,if_neg h]
  clear h
  induction r using oA.ind with
  | nil=>exact .cons rd .nil
  | cons re rs ih=>exact .cons re ih
theorem lQ.put{kv:List (List Key×V)}{kvs:List (D×D)}(r:lQ K H kv kvs)(k:List Key){v:V}{d:D}(rd:cX K H v d):lQ K H (putK kv k v) (K2.put kvs (.tup (k.map eE)) d):=by
 unfold putK K2.put
 rw [r.any k]
 by_cases h:(kvs.any fun p=>i7 p.1 (.tup (k.map eE)))=true
 ·rw [if_pos h,if_pos h]
  clear h
  induction r using lQ.ind with
  | nil=>exact .nil
  | @cons j w e r t re rs ih =>
   simp only [au]
   rw [oT]
   by_cases e:j=k
   ·simp only [e,if_true,decide_true]; exact .cons rd ih
   ·simp only [e,if_false,decide_false,aF]; exact .cons re ih
 ·rw [if_neg h,if_neg h]
  clear h
  induction r using lQ.ind with
  | nil=>exact .cons rd .nil
  | cons re rs ih=>exact .cons re ih
end
theorem Kp.putD{H:Hp}{p:Addr}{o o':HO}(hp:H p=some o)(h:(∃ k,o=.dK k)\/∃ k,o=.dT k):Kp H (upd H p o') :=
 ⟨fun a ys e=>by rw [cu (by rintro rfl; rw [hp] at e; rcases h with ⟨_,rfl⟩ | ⟨_,rfl⟩ <;> cases e)]; exact e,fun a ob u e=>by rw [cu (by rintro rfl; rw [hp] at e; rcases h with ⟨_,rfl⟩ | ⟨_,rfl⟩ <;> cases e)]; exact e⟩
section
variable {X:Cx} {pins:List (Addr×Obj)} {σ:L2.St} {H:Hp} {s:aA} {G:Gp} {a:Addr} {kvs:List (D×D)} {k:D} {y:V}
theorem toT(I:Inv X pins σ H s)(e:H a=some (.dK [])):Inv X pins σ (upd H a (.dT [])) s:=by
 obtain⟨z,hd,vs,rel,dd⟩:=Mu I.cT e
 have hv:vs=[]:=by cases rel; rfl
 subst hv
 obtain⟨o,es,ep,ho,hx,yO,hko,hl,nd⟩:=dd
 have he:es=#[]:=by
  cases hq:es.toList with
  | nil=>simpa using hq
  | cons _ _=>rw [hq] at hl; cases hl
 subst he
 exact I.write (h':=s.heap) (t':=s.toks) (x:=a) (e:=a) (by rw [e]; exact i9) (.inl rfl) (fun b u _ q=>q) ⟨o,ho⟩ ⟨cJ _,hd,[],.nil,o,#[],ep,ho,hx,yO,rfl,dh⟩
theorem toK(I:Inv X pins σ H s)(e:H a=some (.dT [])):Inv X pins σ (upd H a (.dK [])) s:=by
 obtain⟨z,hd,xs,rel,o,es,ep,ho,hx,yO,hl,nd⟩:=I.cT a _ e
 have hv:xs=[]:=by cases rel; rfl
 subst hv
 have he:es=#[]:=by simpa using hl
 subst he
 exact I.write (h':=s.heap) (t':=s.toks) (x:=a) (e:=a) (by rw [e]; exact i9) (.inl rfl) (fun b u _ q=>q) ⟨o,ho⟩ ⟨cJ _,hd,[],.nil,o,#[],ep,ho,hx,yO,(fun _ h=>by simp at h),.nil,dh⟩
theorem DZ{o:HO}(ab:mw X.K H G)(hg:G a=some (.iO kvs))(k:Kp H (upd H a o))(ho:OA X.K (upd H a o) a (.iO kvs)):Mv X.K H G (upd H a o) G:=by
 have m:=Mv.put ab hg k ho
 have e:fK G a (.iO kvs)=G:=by
  funext b; unfold fK; split
  ·rename_i z; rw [z,hg]
  ·rfl
 rw [e] at m
 exact m
theorem Mw(I:Inv X pins σ H s)(ab:mw X.K H G)(hg:G a=some (.iO kvs))(hk:i0 kvs k=true)(ry:cX X.K H y k) :
  ∃ H',Inv X pins σ H' s/\Mv X.K H G H' G/\((∃ (kv:List (Key×V)) (kk:Key),H' a=some (.dK kv)/\oA X.K H' kv kvs/\k=eE kk/\y=kV kk)\/∃ (kv:List (List Key×V)) (kk:List Key) (b:Addr),H' a=some (.dT kv)/\lQ X.K H' kv kvs/\k=.tup (kk.map eE)/\y=.ref b/\H' b=some (.tup (kk.map kV))):=by
 unfold i0 at hk
 rw [wo,aP,aP] at hk
 rcases hk with ⟨h1,h2⟩ | ⟨h1,h2⟩
 ·obtain⟨kk,rfl⟩:=Ed h1
  have ey:=DG ry
  subst ey
  rcases ab a _ hg with ⟨kv,hv,rs⟩ | ⟨kv,hv,rs⟩
  ·exact⟨H,I,.refl ab,.inl ⟨kv,kk,hv,rs,rfl,rfl⟩⟩
  ·cases rs with
   | nil =>
    refine⟨_,toK I hv,DZ ab hg (.putD hv (.inr ⟨_,rfl⟩)) (.inl ⟨[],dj,.nil⟩),.inl ⟨[],kk,dj,.nil,rfl,rfl⟩⟩
   | cons _ _=>simp [fQ] at h2
 ·obtain⟨kk,rfl⟩:=L3 h1
  obtain⟨b,rfl,hb⟩:=uZ ry
  rcases ab a _ hg with ⟨kv,hv,rs⟩ | ⟨kv,hv,rs⟩
  ·cases rs with
   | nil =>
    have kp:Kp H (upd H a (.dT [])):=.putD hv (.inl ⟨_,rfl⟩)
    exact⟨_,toT I hv,DZ ab hg kp (.inr ⟨[],dj,.nil⟩),.inr ⟨[],kk,b,dj,.nil,rfl,rfl,kp.tup _ _ hb⟩⟩
   | @cons j _ _ _ _ _ _=>cases j <;> simp [eE,lJ] at h2
  ·exact⟨H,I,.refl ab,.inr ⟨kv,kk,b,hv,rs,rfl,rfl,hb⟩⟩
theorem HN(I:Inv X pins σ H s)(ab:mw X.K H G)(hg:G a=some (.iO kvs))(hk:i0 kvs k=true)(ry:cX X.K H y k) :
  ∃ H' o,Inv X pins σ H' s/\Mv X.K H G H' G/\Bc H' a y o/\o.isSome=(look kvs k).isSome/\∀ d,look kvs k=some d->∃ v,o=some v/\cX X.K H' v d:=by
 obtain⟨H',I',m,h⟩:=Mw I ab hg hk ry
 rcases h with ⟨kv,kk,hv,rs,rfl,rfl⟩ | ⟨kv,kk,b,hv,rs,rfl,rfl,hb⟩
 ·refine⟨H',ma kv kk,I',m,.k hv,?_,fun d hd=>?_⟩
  ·rcases rs.look kk with ⟨v,d,e1,e2,_⟩ | ⟨e1,e2⟩ <;> rw [e1,e2] <;> rfl
  ·rcases rs.look kk with ⟨v,d',e1,e2,r⟩ | ⟨e1,e2⟩
   ·rw [e2] at hd; cases hd; exact⟨v,e1,r⟩
   ·rw [e2] at hd; cases hd
 ·refine⟨H',ma kv kk,I',m,.t hv hb,?_,fun d hd=>?_⟩
  ·rcases rs.look kk with ⟨v,d,e1,e2,_⟩ | ⟨e1,e2⟩ <;> rw [e1,e2] <;> rfl
  ·rcases rs.look kk with ⟨v,d',e1,e2,r⟩ | ⟨e1,e2⟩
   ·rw [e2] at hd; cases hd; exact⟨v,e1,r⟩
   ·rw [e2] at hd; cases hd
theorem DE{x:V}(I:Inv X pins σ H s)(rd:cX X.K H x (.kg kvs))(hk:i0 kvs k=true)(ry:cX X.K H y k) :
  ∃ a o,x=.ref a/\(kvs=[]\/Bc H a y o)/\o.isSome=(look kvs k).isSome/\∀ d,look kvs k=some d->∃ v,o=some v/\cX X.K H v d:=by
 unfold i0 at hk
 rw [wo,aP,aP] at hk
 cases rd with
 | oK h rs =>
  rename_i a ob kv
  rcases hk with ⟨h1,h2⟩ | ⟨h1,h2⟩
  ·obtain⟨kk,rfl⟩:=Ed h1
   have ey:=DG ry
   subst ey
   refine⟨a,ma kv kk,rfl,.inr (.inl ⟨kv,kk,.inr ⟨_,h⟩,rfl,rfl⟩),?_,fun d hd=>?_⟩
   ·rcases rs.look kk with ⟨v,d,e1,e2,_⟩ | ⟨e1,e2⟩ <;> rw [e1,e2] <;> rfl
   ·rcases rs.look kk with ⟨v,d',e1,e2,r⟩ | ⟨e1,e2⟩
    ·rw [e2] at hd; cases hd; exact⟨v,e1,r⟩
    ·rw [e2] at hd; cases hd
  ·cases rs with
   | nil=>exact⟨a,none,rfl,.inl rfl,rfl,fun d hd=>by cases hd⟩
   | cons _ _ =>
    rename_i kx _ _ _ _ _ _
    rw [oD,aP] at h2
    cases kx <;> exact absurd h2.1 (by simp [eE,lJ])
 | oJ h rs =>
  rename_i a ob kv
  rcases hk with ⟨h1,h2⟩ | ⟨h1,h2⟩
  ·cases rs with
   | nil=>exact⟨a,none,rfl,.inl rfl,rfl,fun d hd=>by cases hd⟩
   | cons _ _ =>
    rw [oD,aP] at h2
    exact absurd h2.1 (by simp [fQ])
  ·obtain⟨kk,rfl⟩:=L3 h1
   obtain⟨b,rfl,hb⟩:=uZ ry
   refine⟨a,ma kv kk,rfl,.inr (.inr ⟨kv,kk,b,.inr ⟨_,h⟩,rfl,hb,rfl⟩),?_,fun d hd=>?_⟩
   ·rcases rs.look kk with ⟨v,d,e1,e2,_⟩ | ⟨e1,e2⟩ <;> rw [e1,e2] <;> rfl
   ·rcases rs.look kk with ⟨v,d',e1,e2,r⟩ | ⟨e1,e2⟩
    ·rw [e2] at hd; cases hd; exact⟨v,e1,r⟩
    ·rw [e2] at hd; cases hd
theorem Rw{v:V}{d:D}(I:Inv X pins σ H s)(ab:mw X.K H G)(hg:G a=some (.iO kvs))(hk:i0 kvs k=true)(hz:kvs.length < SZ)(ry:cX X.K H y k)(rv:cX X.K H v d) :
  ∃ H' H'',Inv X pins σ H' s/\Oz H' a y v H''/\Mv X.K H G H'' (fK G a (.iO (put kvs k d))):=by
 obtain⟨H',I',m,h⟩:=Mw I ab hg hk ry
 have rv':=rv.mono (m.kp ab)
 have sz:bG=16777216:=cN
 rcases h with ⟨kv,kk,hv,rs,rfl,rfl⟩ | ⟨kv,kk,b,hv,rs,rfl,rfl,hb⟩
 ·have kp:Kp H' (upd H' a (.dK (putK kv kk v))):=.putD hv (.inl ⟨_,rfl⟩)
  exact⟨H',_,I',.k hv (by rw [rs.length,sz]; exact hz),m.trans (.put m.ab hg kp (.inl ⟨_,dj,(rs.put kk rv').mono kp⟩))⟩
 ·have kp:Kp H' (upd H' a (.dT (putK kv kk v))):=.putD hv (.inr ⟨_,rfl⟩)
  exact⟨H',_,I',.t hv hb (by rw [rs.length,sz]; exact hz),m.trans (.put m.ab hg kp (.inr ⟨_,dj,(rs.put kk rv').mono kp⟩))⟩
end
end K2
end
section
namespace K2
open PySem PySem.Spec PyProof.Rows L2
section
variable {X:Cx} {a b c e:Expr} {es:List Expr} {ta tb tc te:gI} {t:Iy} {pos p p2 apos jR:Pos} {x:Str}
theorem tN{k:Bool}{j}:gW X (.Constant (.bool k) j pos) (dC (.bl k)):=wH XF fun _ _=>.bl k
theorem yE{j}:gW X (.Constant .none j pos) (dC .du):=wH Vz fun _ _=>.du
theorem Nj{st:Stmt}:Jb X st RA:=fun _ _ _ _ _ _ _ _ _ _ h=>h.elim
theorem uJ:Zz X (unaryOp .USub) FX:=by
 intro pins s σ H G x dx v Q I ab rx dX q
 cases dX with
 | int i=>exact gN (U2 pins s σ H _ v (ES X.K H G Q) I rx ⟨i,rfl,_,_,.refl ab,.int _,q⟩) fun _ _ z=>.of z
 | _=>exact cw q
theorem cS(hu:X.A.units+64 < cLine)(ha:gW X a ta)(hb:gW X b tb)(hs:Ui b):gW X (.Subscript a b pos) (bg jt ta tb):=by
 intro E pins s σ H τ G Q hE I h
 refine Subscript_ (RL ha hb hE I h fun v u s2 x y dx dy H2 G2 J m rx ry dX dY q=>?_)
 have fin:∀ {rb:R2},IxR X rb->rb x y H2 (ES X.K H2 G2 Q)->wpAny (model X.prog X.w) X.A (subscriptTail a b v u) (sV X pins σ H G Q) X.xe s2:=fun hr hq =>
  gN (hr a b pins s2 σ H2 x y v u _ J.inv rx ry hq (hs _ _)) fun _ _ z=>(sV.of z).trans m
 cases dX with
 | tup hq rs =>
  cases dY with
  | int i =>
   rw [g4] at q
   split at q
   ·rename_i d hd
    obtain⟨w,hw,tK⟩:=rs.oz hd
    exact fin V3 ⟨_,_,i,w,rfl,rfl,.of hq,hw,d,G2,.refl J.ab,tK,q⟩
   ·exact q.elim
  | _=>exact cw q
 | fG hq rs =>
  cases dY with
  | int i =>
   rw [vh] at q
   split at q
   ·rename_i d hd
    obtain⟨w,hw,tK⟩:=rs.oz hd
    exact fin L5 ⟨_,_,i,w,rfl,rfl,hq.sq,hw,d,G2,.refl J.ab,tK,q⟩
   ·exact q.elim
  | _=>exact cw q
 | oK h rs =>
  rw [pF] at q
  obtain⟨hk,q⟩:=q
  split at q
  ·rename_i d hd
   obtain⟨a',o,ea,g,_,hv⟩:=DE J.inv (.oK h rs) hk dY
   obtain⟨w,rfl,tK⟩:=hv d hd
   cases ea
   rcases g with rfl | g
   ·cases hd
   ·cases rx
    exact tail_any (rN J.inv g) PySem.F.slot_dict_getitem.lookup (xb (by lia) J.inv g ry fun w' s3 I4 rv=>⟨w,H2,d,G2,I4,m,rv,tK,q⟩) (hs _ _)
  ·exact q.elim
 | oJ h rs =>
  rw [pF] at q
  obtain⟨hk,q⟩:=q
  split at q
  ·rename_i d hd
   obtain⟨a',o,ea,g,_,hv⟩:=DE J.inv (.oJ h rs) hk dY
   obtain⟨w,rfl,tK⟩:=hv d hd
   cases ea
   rcases g with rfl | g
   ·cases hd
   ·cases rx
    exact tail_any (rN J.inv g) PySem.F.slot_dict_getitem.lookup (xb (by lia) J.inv g ry fun w' s3 I4 rv=>⟨w,H2,d,G2,I4,m,rv,tK,q⟩) (hs _ _)
  ·exact q.elim
 | ref l =>
  rw [LG] at q
  split at q
  ·rename_i ds hl
   obtain⟨vs,hv,rs⟩:=J.ab.lst hl
   cases dY with
   | int i =>
    dsimp only at q
    split at q
    ·rename_i d hd
     obtain⟨w,hw,tK⟩:=rs.oz hd
     exact fin L5 ⟨_,_,i,w,rfl,rfl,.of hv,hw,d,G2,.refl J.ab,tK,q⟩
    ·exact q.elim
   | _=>exact cw q
  ·rename_i kvs hl
   obtain⟨hk,q⟩:=q
   split at q
   ·rename_i d hd
    obtain⟨H3,o,I3,m3,g,_,hv⟩:=HN J.inv J.ab hl hk dY
    obtain⟨w,rfl,tK⟩:=hv d hd
    cases rx
    exact tail_any (rN I3 g) PySem.F.slot_dict_getitem.lookup (xb (by lia) I3 g ry fun w' s3 I4 rv=>⟨w,H3,d,G2,I4,m.trans m3,rv,tK,q⟩) (hs _ _)
   ·exact q.elim
  ·exact q.elim
 | _=>exact cw q
noncomputable def PO2(X:Cx)(e:Option Expr)(t:ZC):Prop :=
 ∀ (E:lP) (pins:List (Addr×Obj)) (s:aA) (σ:L2.St) (H:Hp) (τ:iH) (G:Gp) (Q:Option Int->Gp->Prop),Lk X E->I2 X pins σ H τ G s->t E τ G Q ->
  wpAny (model X.prog X.w) X.A (evalPart e X.env) (fun u s'=>∃ o H' G',Inv X pins σ H' s'/\Mv X.K H G H' G'/\IsPart u o/\Q o G') X.xe s
theorem kX:PO2 X none gP:=by
 intro E pins s σ H τ G Q hE I h
 rw [evalPart_none]
 exact av ⟨none,H,G,I.inv,.refl I.ab,.none,h⟩
theorem jz(h:gW X e te):PO2 X (some e) (qr te):=by
 intro E pins s σ H τ G Q hE I hw
 rw [evalPart_some]
 refine kn h hE I hw fun x H1 d G1 u s1 I1 m1 r1 jV q1=>?_
 cases jV with
 | int i =>
  obtain⟨t,rfl⟩:=r1
  exact⟨some i,H1,G1,I1.inv,m1,.int i t,q1⟩
 | _=>exact cw q1
theorem jc{lo hi:Option Expr}{tl th:ZC}(he:gW X a ta)(hl:PO2 X lo tl)(hu:PO2 X hi th):gW X (.Subscript a (.Slice lo hi none p2) pos) (Ez ta tl th):=by
 intro E pins s σ H τ G Q hE I h
 refine Subscript_ (kn he hE I h fun x H1 d G1 v s1 I1 m1 r1 jV q1=>?_)
 refine wpAny_Slice (gN (hl E pins s1 σ H1 τ G1 _ hE I1 q1) ?_)
 rintro vl s2 ⟨l,H2,G2,nh,m2,pl,q2⟩
 refine gN (hu E pins s2 σ H2 τ G2 _ hE (I1.mv nh m2) q2) ?_
 rintro vu s3 ⟨r,H3,G3,I3,m3,pu,q3⟩
 rw [evalPart_none]
 refine av ?_
 have X3:=m2.trans m3
 have mm:=m1.trans X3
 have I4:Inv X pins σ H3 { s3 with heap:=s3.heap.push { cls:=.type "slice",data:=.fields #[vl,vu,.none] } }:=I3.kept (t':=s3.toks) fun b ob q=>aN _ q
 have Vt:=jV.mono (X3.kp I1.ab)
 have OW:=m3.ab
 have key:∀ {rb:V->Option Int->Option Int->Hp->VK->Prop},SlR X rb->rb x l r H3 (ES X.K H3 G3 Q)->wpAny (model X.prog X.w) X.A (subscriptTail a (.Slice lo hi none p2) v (.ref s3.heap.objs.size)) (sV X pins σ H G Q) X.xe { s3 with heap:=s3.heap.push { cls:=.type "slice",data:=.fields #[vl,vu,.none] } }:=fun hr hq=>by
  obtain⟨T,id,hT,ht,hg⟩:=hr pins { s3 with heap:=s3.heap.push { cls:=.type "slice",data:=.fields #[vl,vu,.none] } } σ H3 x v vl vu l r s3.heap.objs.size _ I4 r1 (Heap.IsSliceOf.new ..) pl pu hq
  exact gN (tail_any (ops:=[.ref s3.heap.objs.size,v]) ht hT hg (by with_unfolding_all rfl)) fun _ _ z=>(sV.of z).trans mm
 cases Vt with
 | tup hq rs =>
  obtain⟨hw,q⟩:=q3
  refine key Vj ⟨_,_,rfl,.of hq,?_,fun p hp=>⟨_,G3,.OR OW hp,.tup dj ((rs.cut l r).mono (.new hp)),q⟩⟩
  rw [DB,DB,rs.length]
  exact hw
 | fG hq rs=>exact key LB ⟨_,_,rfl,hq.sq,fun p hp=>⟨_,_,.BA OW hp (rs.cut l r),.ref _,q3 p (OW.free hp)⟩⟩
 | ref g =>
  rw [DJ] at q3
  split at q3
  ·rename_i ds hg
   obtain⟨vs,hv,rs⟩:=OW.lst hg
   exact key LB ⟨_,_,rfl,.of hv,fun p hp=>⟨_,_,.BA OW hp (rs.cut l r),.ref _,q3 p (OW.free hp)⟩⟩
  ·exact q3.elim
 | _=>exact cw q3
theorem Ti(ss:List D)(s:D)(h1:qj ss=true)(h2:nr s=true):((lV ss).any fun y=>uE y (pd s))=ss.any (i7 · s):=by
 induction ss with
 | nil=>rfl
 | cons d r ih =>
  have h':nr d=true/\qj r=true:=(jZ).mp h1
  show (uE (pd d) (pd s)||(lV r).any _)=_
  rw [ih h'.2,uc d s h'.1 h2]; rfl
theorem Mx{G:Gp}{n:Nat}{ds ss:List D}(h:Sn G (n+1) (.fG ds) (.fG ss)):cO (lV ss)<=n:=by
 exact uG (AK h)
theorem yM(hu:X.A.units+64 < cLine)(neg:Bool){pins:List (Addr×Obj)}{s:aA}{σ:L2.St}{H:Hp}{G:Gp}{x y:V}{dx t:D}{ds ss:List D}{v u:Value}{Q:DK}(I:Inv X pins σ H s)(ab:mw X.K H G)(rx:RelV x v)(dX:cX X.K H x dx)
  (hy:(∃ l vs bM,u=.ref l/\Vals vs bM/\bF X.K H vs ds/\(s.heap.IsList l bM.toArray\/s.heap.IsTuple l bM.toArray))) (s1:Sn G SN dx t) (s2:Sn G SN (.fG ds) (.fG ss))
  (q:Q (.bl (if neg then !ss.any (i7 · t) else ss.any (i7 · t))) G):wpAny (model X.prog X.w) X.A (ff (if neg then .NotIn else .In) v u) (sV X pins σ H G Q) X.xe s:=by
 obtain⟨l,vs,bM,rfl,rv,rs,hl⟩:=hy
 obtain⟨as,ra⟩:=(iF I ab s1).1 x v dX rx
 obtain⟨bs,rb⟩:=(iF I ab s2).2 ds ss (.inl ⟨rfl,rfl⟩) vs bM rs rv
 have d2:=Mx (n:=7) s2
 have n2:qj ss=true:=s2.nr
 have Aj:=vC _ n2
 have e:=Ti ss t n2 s1.nr
 have wV:X.A.units+1+min (cO (lV ss)) (pd t).depth < cLine:=by lia
 have P4:g7 s.heap bM.toArray.toList (lV ss) bs:=by simpa using rb
 have fin:∀ k:Bool,k=(if neg then !ss.any (i7 · t) else ss.any (i7 · t))->sV X pins σ H G Q (.bool k) s:=fun k hk=>by subst hk; exact⟨.bl _,H,.bl _,G,I,.refl ab,rfl,.bl _,q⟩
 cases neg with
 | false =>
  rcases hl with hl | hl
  ·exact SeqAt.in_listAt _ hl (nq P4 ra Aj (kc _ s1.nr) wV) (by rw [qE P4 Aj,e]; exact fin _ rfl)
  ·exact SeqAt.in_tupleAt _ hl (nq P4 ra Aj (kc _ s1.nr) wV) (by rw [qE P4 Aj,e]; exact fin _ rfl)
 | true =>
  rcases hl with hl | hl
  ·exact SeqAt.notIn_listAt _ hl (nq P4 ra Aj (kc _ s1.nr) wV) (by rw [qE P4 Aj,e]; exact fin _ rfl)
  ·exact SeqAt.notIn_tupleAt _ hl (nq P4 ra Aj (kc _ s1.nr) wV) (by rw [qE P4 Aj,e]; exact fin _ rfl)
theorem QL(hu:X.A.units+64 < cLine)(neg:Bool){pins:List (Addr×Obj)}{s:aA}{σ:L2.St}{H:Hp}{G:Gp}{x y:V}{dx:D}{kvs:List (D×D)}{v u:Value}{Q:DK}(I:Inv X pins σ H s)(ab:mw X.K H G)(rx:RelV x v)(ry:RelV y u)(dY:cX X.K H y (.kg kvs))(dX:cX X.K H x dx)
  (q:R9 neg dx (.kg kvs) G Q):wpAny (model X.prog X.w) X.A (ff (if neg then .NotIn else .In) v u) (sV X pins σ H G Q) X.xe s:=by
 obtain⟨kD,hk,q⟩:=q
 have go:∀ (a:Addr) (o:Option V),y=.ref a->Bc H a x o->o.isSome=(look kvs dx).isSome->wpAny (model X.prog X.w) X.A (ff (if neg then .NotIn else .In) v u) (sV X pins σ H G Q) X.xe s:=by
  intro a o ea g ho
  subst ea
  cases ry
  cases neg with
  | false=>exact Y1 (by lia) I g rx fun s3 I4=>⟨.bl _,H,.bl _,G,I4,.refl ab,rfl,.bl _,by rw [ho]; exact q⟩
  | true=>exact MA (by lia) I g rx fun s3 I4=>⟨.bl _,H,.bl _,G,I4,.refl ab,rfl,.bl _,by rw [ho]; exact q⟩
 obtain⟨a,o,ea,g,ho,_⟩:=DE I dY hk dX
 rcases g with rfl | g
 ·exact absurd rfl kD
 ·exact go a o ea g ho
theorem LQ(hu:X.A.units+64 < cLine)(neg:Bool):oX X (ff (if neg then .NotIn else .In)) (R9 neg):=by
 intro pins s σ H G x y dx dy v u Q I ab rx ry dX dY q
 cases dY with
 | tup hq rs =>
  obtain⟨t,ss,s1,s2,q⟩:=q
  cases ry
  obtain⟨bM,rv,pl,hz⟩:=I.tuple (.of hq)
  exact yM hu neg (y:=x) I ab rx dX ⟨_,_,bM,rfl,rv,rs,.inr pl⟩ s1 s2 q
 | fG hq rs =>
  obtain⟨t,ss,s1,s2,q⟩:=q
  cases ry
  obtain⟨bM,rv,pl,hz⟩:=I.list hq.sq
  exact yM hu neg (y:=x) I ab rx dX ⟨_,_,bM,rfl,rv,rs,.inl pl.isList⟩ s1 s2 q
 | oK h rs=>exact QL hu neg I ab rx ry (.oK h rs) dX q
 | oJ h rs=>exact QL hu neg I ab rx ry (.oJ h rs) dX q
 | ref l =>
  unfold R9 at q
  dsimp only at q
  split at q
  ·rename_i kvs hl
   obtain⟨hk,q⟩:=q
   obtain⟨H3,o,I3,m3,g,ho,_⟩:=HN I ab hl hk dX
   cases ry
   cases neg with
   | false=>exact Y1 (by lia) I3 g rx fun s3 I4=>⟨.bl _,H3,.bl _,G,I4,m3,rfl,.bl _,by rw [ho]; exact q⟩
   | true=>exact MA (by lia) I3 g rx fun s3 I4=>⟨.bl _,H3,.bl _,G,I4,m3,rfl,.bl _,by rw [ho]; exact q⟩
  ·rename_i ds hl
   obtain⟨t,ss,s1,s2,q⟩:=q
   cases ry
   obtain⟨vs,hv,rs⟩:=ab.lst hl
   obtain⟨bM,rv,pl,hz⟩:=I.list (.of hv)
   exact yM hu neg (y:=x) I ab rx dX ⟨_,_,bM,rfl,rv,rs,.inl pl.isList⟩ s1 s2 q
  ·exact q.elim
 | _=>exact cw q
theorem VI(hu:X.A.units+64 < cLine):oX X (ff .In) (R9 false):=LQ hu false
end
end K2
end
section
namespace K2
open PySem PySem.Spec PyProof.Rows L2
section
variable {X:Cx} {a b c e o:Expr} {es:List Expr} {ta tb tc te to:gI} {t:Iy} {pos p p2 apos jR:Pos} {x name:Str} {id T:String}
theorem gx:qf X (.builtin "len") nF:=by
 intro pins s σ H G xs ds us Q I ab rx rd q
 unfold nF at q
 split at q
 ·rename_i x
  obtain⟨v,rfl,r⟩:=rd.one
  have SJ:∀ (n:Nat),ZE X.K v H n->Q (.int (n:Int)) G->wpAny (model X.prog X.w) X.A (call (.builtin "len") us) (sV X pins σ H G Q) X.xe s:=fun n hn hq =>
   gN (RG pins s σ H [v] us (ES X.K H G Q) I rx ⟨v,n,rfl,hn,_,_,.refl ab,.int _,hq⟩) fun _ _ z=>.of z
  have sz:bG=16777216:=cN
  cases r with
  | tup hq rs=>exact SJ _ (.inr ⟨_,.of hq,by rw [rs.length]⟩) q
  | fG hq rs=>exact SJ _ (.inl ⟨_,hq.sq,by rw [rs.length]⟩) q
  | str y =>
   unfold lenOf at q
   dsimp only at q
   by_cases hz:y.length<=SZ
   ·rw [if_pos hz] at q; exact SJ _ ⟨by rw [sz]; exact hz,rfl⟩ q
   ·rw [if_neg hz] at q; exact q.elim
  | oK h rs =>
   rename_i l o kv kvs
   obtain⟨u,rfl,ru⟩:=rx.one
   cases ru
   unfold lenOf at q
   dsimp only at q
   by_cases ha:(kvs.all fun p=>fQ p.1)=true
   ·rw [if_pos ha] at q
    exact US I (.inr ⟨_,h⟩) fun t s' I'=>⟨.int kv.length,H,_,G,I',.refl ab,⟨t,rfl⟩,.int _,by rw [rs.length]; exact q⟩
   ·rw [if_neg ha] at q; exact q.elim
  | oJ h rs =>
   rename_i l o kv kvs
   obtain⟨u,rfl,ru⟩:=rx.one
   cases ru
   unfold lenOf at q
   dsimp only at q
   by_cases ha:(kvs.all fun p=>fQ p.1)=true
   ·rw [if_pos ha] at q
    cases rs with
    | nil =>
     obtain⟨z,hS,xs,rel,ob,es,ep,ho,hx,yO,hl,nd⟩:=(I.cT l _ h).2
     have hxs:xs=[]:=by cases rel; rfl
     subst hxs
     have he:es=#[]:=by simpa using hl
     subst he
     have dd:s.heap.DictOf (cy X.prog X.w) l []:=⟨ob,#[],ep,ho,hx,yO,(fun _ h=>by simp at h),.nil,dh⟩
     refine call_len_dict hS dd (by simp) ?_
     exact⟨.int 0,H,_,G,I.tok _,.refl ab,⟨_,rfl⟩,.int _,q⟩
    | cons _ _=>simp [fQ] at ha
   ·rw [if_neg ha] at q; exact q.elim
  | ref l =>
   unfold lenOf at q
   dsimp only at q
   cases hg:G l with
   | none=>rw [hg] at q; exact q.elim
   | some g =>
    rw [hg] at q
    cases g with
    | lst ds =>
     obtain⟨vs,hv,rs⟩:=ab.lst hg
     exact SJ _ (.inl ⟨_,.of hv,by rw [rs.length]⟩) q
    | iO kvs =>
     obtain⟨u,rfl,ru⟩:=rx.one
     cases ru
     dsimp only at q
     by_cases ha:(kvs.all fun p=>fQ p.1)=true
     ·rw [if_pos ha] at q
      rcases ab l _ hg with ⟨kv,hv,rs⟩ | ⟨kv,hv,rs⟩
      ·exact US I (.inl hv) fun t s' I'=>⟨.int kv.length,H,_,G,I',.refl ab,⟨t,rfl⟩,.int _,by rw [rs.length]; exact q⟩
      ·cases rs with
       | nil =>
        obtain⟨z,hd,vs,rel,dd⟩:=Mu (toK I hv).cT dj
        have hvs:vs=[]:=by cases rel; rfl
        subst hvs
        refine call_len_dict hd dd (by simp) ?_
        exact⟨.int 0,H,_,G,I.tok _,.refl ab,⟨_,rfl⟩,.int _,q⟩
       | cons _ _=>simp [fQ] at ha
     ·rw [if_neg ha] at q; exact q.elim
  | _=>exact cw q
 ·exact q.elim
theorem KS:qf X (.type "list") AZ:=by
 intro pins s σ H G xs ds us Q I ab rx rd q
 unfold AZ at q
 split at q
 ·rename_i x
  obtain⟨v,rfl,r⟩:=rd.one
  have via:∀ (l:Addr) (ys:List V) (zs:List D),v=.ref l->(qt X.K H l ys\/A7 X.K H l ys)->bF X.K H ys zs->jo G (.lst zs) Q->wpAny (model X.prog X.w) X.A (call (.type "list") us) (sV X pins σ H G Q) X.xe s:=fun l ys zs e h rs hq=>by
   subst e
   exact gN (ED pins s σ H _ us (ES X.K H G Q) I rx ⟨l,ys,rfl,h,fun p hp=>⟨_,_,.BA ab hp rs,.ref _,hq p (ab.free hp)⟩⟩) fun _ _ z=>.of z
  cases r with
  | tup hq rs=>exact via _ _ _ rfl (.inr (.of hq)) rs q
  | fG hq rs=>exact via _ _ _ rfl (.inl hq.sq) rs q
  | ref l =>
   unfold itemsOf at q
   dsimp only at q
   cases hg:G l with
   | none=>rw [hg] at q; exact q.elim
   | some g =>
    rw [hg] at q
    cases g with
    | lst ds =>
     obtain⟨vs,hv,rs⟩:=ab.lst hg
     exact via _ _ _ rfl (.inl (.of hv)) rs q
    | iO kvs=>exact q.elim
  | _=>exact cw q
 ·exact q.elim
theorem mK {r:List D->Gp->DK->Prop} (hc:qf X (.type T) r) (hg:Gl X x) (hm:X.mg x=none) (hv:eR x=some (.type T)) (ha:K3 X (e :: es) t) (hn:autoParam (x≠"__name__") Ad._auto_1) (N0:autoParam ((x == ("__debug__" : Str))=false) Ad._auto_1)
  (he:autoParam (cB (e :: es) X.env=(false,eval e X.env) :: cB es X.env) Ar._auto_1) (Kr:autoParam ((kS pos (cB es X.env)).any (·.1)=false) Ar._auto_1):gW X (.Call (.Name x p) (e :: es) [] pos) (mD r t):=by
 intro E pins s σ H τ G Q hE I h
 refine ij (om I.inv hg hm hv ?_ hn N0)
 exact fu (Ds ha pos hE I h fun vs H1 ds G1 us s1 I1 m1 r1 jV q1=>gN (hc pins s1 σ H1 G1 vs ds us Q I1.inv I1.ab r1 jV q1) fun _ _ z=>z.trans m1) he Kr
theorem VY (K:aj):∀ C∈["int","bool","list","tuple","dict","str"],∀ T∈["NoneType","bool","int","str","tuple","list","dict"],PySem.W.kitOne K (.type T) (.type C)=some (T == C||(T == "bool" && C == "int")):=by
 intro C hC T hT
 simp only [gh,gy,or_false] at hC hT
 rcases hC with rfl | rfl | rfl | rfl | rfl | rfl <;> rcases hT with rfl | rfl | rfl | rfl | rfl | rfl | rfl <;> kernel_rfl
theorem QH (C:String) (hC:C∈["int","bool","list","tuple","dict","str"]) {pins:List (Addr×Obj)} {s:aA} {σ:L2.St} {H:Hp} {G:Gp} {v:V} {d:D} {u:Value} {k:Bool} {Q:DK} (I:Inv X pins σ H s) (ab:mw X.K H G) (ru:RelV v u) (r:cX X.K H v d)
  (hk:W0 C d G=some k) (q:Q (.bl k) G):wpAny (model X.prog X.w) X.A (call (.builtin "isinstance") [u,.type C]) (sV X pins σ H G Q) X.xe s:=by
 have fin:∀ tk,sV X pins σ H G Q (.bool k) { s with toks:=tk }:=fun tk=>⟨.bl k,H,.bl k,G,I.tok _,.refl ab,rfl,.bl k,q⟩
 have hl:∀ T∈["NoneType","bool","int","str","tuple","list","dict"],k=(T == C||(T == "bool" && C == "int"))->PySem.W.kitOne X.K (.type T) (.type C)=some k:=fun T hT e=>by rw [VY X.K C hC T hT,e]
 have tl:∀ {l:Addr} {o:Obj},s.heap.get? l=some o->o.cls=.type "list"->k=("list" == C||("list" == "bool" && C == "int"))->v=.ref l->wpAny (model X.prog X.w) X.A (call (.builtin "isinstance") [u,.type C]) (sV X pins σ H G Q) X.xe s:=fun ho hc e ev=>by
  subst ev
  cases ru
  exact jl PySem.W.kitx_list I.L4 ⟨_,ho,hc⟩ (hl "list" (by decide) e) (fun z=>nomatch z) fin
 have td:∀ {l:Addr} {o:Obj},s.heap.get? l=some o->o.cls=.type "dict"->k=("dict" == C||("dict" == "bool" && C == "int"))->v=.ref l->wpAny (model X.prog X.w) X.A (call (.builtin "isinstance") [u,.type C]) (sV X pins σ H G Q) X.xe s:=fun ho hc e ev=>by
  subst ev
  cases ru
  exact jl PySem.W.kitx_dict I.L4 ⟨_,ho,hc⟩ (hl "dict" (by decide) e) (fun z=>nomatch z) fin
 have oy:∀ P:String->Prop,(∀ C'∈["int","bool","list","tuple","dict","str"],P C')->P C:=fun P h=>h C hC
 cases r with
 | du =>
  cases ru
  have e:k=("NoneType" == C||("NoneType" == "bool" && C == "int")):=by
   have:k=false:=(bR hk).symm
   rw [this]
   exact oy (fun C=>false=("NoneType" == C||("NoneType" == "bool" && C == "int"))) (by decide)
  exact jl PySem.W.kitx_none I.L4 i9 (hl _ (by decide) e) (fun z=>nomatch z) fin
 | bl y =>
  cases ru
  have e:k=("bool" == C||("bool" == "bool" && C == "int")):=by
   have:k=(C == "bool" || C == "int"):=(bR hk).symm
   rw [this]
   exact oy (fun C=>(C == "bool" || C == "int")=("bool" == C||("bool" == "bool" && C == "int"))) (by decide)
  exact jl PySem.W.kitx_bool I.L4 i9 (hl _ (by decide) e) (fun z=>nomatch z) fin
 | int y =>
  obtain⟨t,rfl⟩:=ru
  have e:k=("int" == C||("int" == "bool" && C == "int")):=by
   have:k=(C == "int"):=(bR hk).symm
   rw [this]
   exact oy (fun C=>(C == "int")=("int" == C||("int" == "bool" && C == "int"))) (by decide)
  exact jl PySem.W.kitx_int I.L4 i9 (hl _ (by decide) e) (fun z=>nomatch z) fin
 | str y =>
  obtain⟨t,rfl⟩:=ru
  have e:k=("str" == C||("str" == "bool" && C == "int")):=by
   have:k=(C == "str"):=(bR hk).symm
   rw [this]
   exact oy (fun C=>(C == "str")=("str" == C||("str" == "bool" && C == "int"))) (by decide)
  exact jl PySem.W.kitx_str I.L4 i9 (hl _ (by decide) e) (fun z=>nomatch z) fin
 | tup hq rs =>
  cases ru
  have e:k=("tuple" == C||("tuple" == "bool" && C == "int")):=by
   have:k=(C == "tuple"):=(bR hk).symm
   rw [this]
   exact oy (fun C=>(C == "tuple")=("tuple" == C||("tuple" == "bool" && C == "int"))) (by decide)
  obtain⟨bM,rv,⟨o,h1,h2,_⟩,hz⟩:=I.tuple (.of hq)
  exact jl PySem.W.kitx_tuple I.L4 ⟨o,h1,h2⟩ (hl _ (by decide) e) (fun z=>nomatch z) fin
 | fG hq rs =>
  obtain⟨bM,rv,pl,hz⟩:=I.list hq.sq
  obtain⟨o,h1,h2,_⟩:=pl.isList
  refine tl h1 h2 ?_ rfl
  have:k=(C == "list"):=(bR hk).symm
  rw [this]
  exact oy (fun C=>(C == "list")=("list" == C||("list" == "bool" && C == "int"))) (by decide)
 | oK h rs =>
  have e:k=("dict" == C||("dict" == "bool" && C == "int")):=by
   have:k=(C == "dict"):=(bR hk).symm
   rw [this]
   exact oy (fun C=>(C == "dict")=("dict" == C||("dict" == "bool" && C == "int"))) (by decide)
  obtain⟨_,_,vs,_,ob,_,_,h1,h2,_⟩:=vQ I.cT (.inr ⟨_,h⟩)
  exact td h1 h2.1 e rfl
 | oJ h rs =>
  have e:k=("dict" == C||("dict" == "bool" && C == "int")):=by
   have:k=(C == "dict"):=(bR hk).symm
   rw [this]
   exact oy (fun C=>(C == "dict")=("dict" == C||("dict" == "bool" && C == "int"))) (by decide)
  obtain⟨_,_,ys,_,ob,_,_,h1,h2,_⟩:=xQ I.cT (.inr ⟨_,h⟩)
  exact td h1 h2.1 e rfl
 | exc h=>simp [W0] at hk
 | ref l =>
  unfold W0 at hk
  dsimp only at hk
  cases hg:G l with
  | none=>rw [hg] at hk; cases hk
  | some g =>
   rw [hg] at hk
   cases g with
   | lst ds =>
    obtain⟨vs,hv,rs⟩:=ab.lst hg
    obtain⟨bM,rv,pl,hz⟩:=I.list (.of hv)
    obtain⟨o,h1,h2,_⟩:=pl.isList
    refine tl h1 h2 ?_ rfl
    have:k=(C == "list"):=(bR hk).symm
    rw [this]
    exact oy (fun C=>(C == "list")=("list" == C||("list" == "bool" && C == "int"))) (by decide)
   | iO kvs =>
    have e:k=("dict" == C||("dict" == "bool" && C == "int")):=by
     have:k=(C == "dict"):=(bR hk).symm
     rw [this]
     exact oy (fun C=>(C == "dict")=("dict" == C||("dict" == "bool" && C == "int"))) (by decide)
    rcases ab l _ hg with ⟨kv,hv,rs⟩ | ⟨kv,hv,rs⟩
    ·obtain⟨_,_,vs,_,ob,_,_,h1,h2,_⟩:=Mu I.cT hv
     exact td h1 h2.1 e rfl
    ·obtain⟨_,_,ys,_,ob,_,_,h1,h2,_⟩:=Rp I.cT hv
     exact td h1 h2.1 e rfl
theorem yF (C:String) (hC:C∈["int","bool","list","tuple","dict","str"]) {y:Str} {py:Pos} (hg:Gl X "isinstance") (hm:X.mg "isinstance" = none) (hgC:Gl X y) (hmC:X.mg y=none) (hvC:eR y=some (.type C)) (ha:gW X a ta) (hn:autoParam (y≠"__name__") Ad._auto_1) (N0:autoParam ((y == ("__debug__" : Str))=false) Ad._auto_1)
  (he:autoParam (cB [a,.Name y py] X.env=(false,eval a X.env) :: cB [.Name y py] X.env) Ar._auto_1) (Kr:autoParam ((kS pos (cB [Expr.Name y py] X.env)).any (·.1)=false) Ar._auto_1) (Yz:autoParam (cB [.Name y py] X.env=[(false,eval (.Name y py) X.env)]) Ar._auto_1) :
  gW X (.Call (.Name "isinstance" p) [a,.Name y py] [] pos) (Oe C ta):=by
 intro E pins s σ H τ G Q hE I h
 refine ij (om I.inv hg hm PyProof.Rows.boot_isinstance ?_)
 refine kK ?_ he Kr
 rw [he]
 show wpAny _ _ (O4 ((false,eval a X.env) :: kS pos (cB [.Name y py] X.env))) _ _ s
 refine kT (kn ha hE I h fun v H1 d G1 u s1 I1 m1 r1 jV q1=>?_)
 rw [Yz]
 show wpAny _ _ (O4 [(false,eval (.Name y py) X.env)]) _ _ s1
 refine kT (om I1.inv hgC hmC hvC (Calls.spliced_nil ?_) hn N0)
 try dsimp only at q1
 split at q1
 ·rename_i k hk
  exact gN (QH C hC I1.inv I1.ab r1 jV hk q1) fun _ _ z=>z.trans m1
 ·exact q1.elim
end
end K2
end
section
namespace K2
open PySem PySem.Spec PyProof.Rows L2
section
variable {X:Cx} {a b c e o:Expr} {es:List Expr} {ta tb tc te to:gI} {t:Iy} {pos p p2 apos jR:Pos} {x name:Str} {id T:String}
noncomputable def Ox(X:Cx)(id:String)(r:D->List D->Gp->DK->Prop):Prop :=
 ∀ (pins:List (Addr×Obj)) (s:aA) (σ:L2.St) (H:Hp) (G:Gp) (x:V) (d:D) (xs:List V) (ds:List D) (v:Value) (us:List Value) (Q:DK),Inv X pins σ H s->mw X.K H G->RelV x v->cX X.K H x d->Vals xs us->bF X.K H xs ds->r d ds G Q ->
  wpAny (model X.prog X.w) X.A (call (.builtin id) (v :: us)) (sV X pins σ H G Q) X.xe s
noncomputable def WG(X:Cx)(T:String)(ty:D->Gp->Prop):Prop:=∀ (pins:List (Addr×Obj)) (s:aA) (σ:L2.St) (H:Hp) (G:Gp) (x:V) (d:D) (v:Value),Inv X pins σ H s->mw X.K H G->RelV x v->cX X.K H x d->ty d G ->
  s.TypeIs v T/\∀ a,v=.ref a->∃ ob,s.heap.get? a=some ob/\ob.dict=none
theorem gZ:WG X "list" yf:=by
 intro pins s σ H G x d v I ab r rd h
 cases rd with
 | fG hq rs=>exact Dl I r (.inl ⟨rfl,_,hq.sq⟩)
 | ref l =>
  unfold yf at h
  dsimp only at h
  split at h
  ·rename_i ds hg
   obtain⟨vs,hv,rs⟩:=ab.lst hg
   exact Dl I r (.inl ⟨rfl,vs,.of hv⟩)
  ·exact h.elim
 | _=>exact cw h
theorem zi:WG X "dict" ZH:=by
 intro pins s σ H G x d v I ab r rd h
 cases rd with
 | oK q rs =>
  cases r
  obtain⟨t1,t2,_⟩:=QI I (.inl ⟨_,.inr ⟨_,q⟩⟩)
  exact⟨t1,t2⟩
 | oJ q rs =>
  cases r
  obtain⟨t1,t2,_⟩:=QI I (.inr ⟨_,.inr ⟨_,q⟩⟩)
  exact⟨t1,t2⟩
 | ref l =>
  unfold ZH at h
  dsimp only at h
  split at h
  ·rename_i kvs hg
   rcases ab l _ hg with ⟨kv,hv,rs⟩ | ⟨kv,hv,rs⟩
   ·exact Dl I r (.inr (.inr (.inl ⟨rfl,.inl ⟨kv,hv⟩⟩)))
   ·exact Dl I r (.inr (.inr (.inl ⟨rfl,.inr ⟨kv,hv⟩⟩)))
  ·exact h.elim
 | _=>exact cw h
theorem ka {ty:D->Gp->Prop} {r:D->List D->Gp->DK->Prop} (pa:PlainAttrs T) (slot:Slot T name id) (hty:typeOf (.builtin id)=pure (.type "method_descriptor")) (ht:WG X T ty) (hm:Ox X id r) (ho:gW X o to) (ha:K3 X (e :: es) t)
  (Hr:autoParam (wx o name X.env (eval o X.env)=eval o X.env) Ar._auto_1)
  (TR:autoParam (((kS jR (cB (e :: es) X.env)).all (fun x=>!x.1)&&(backToKw jR (keywordEach [] X.env)).all (fun x=>x.1.isSome)
   && decide ((e :: es).length+([]:List Pg).length+(if ([]:List Pg).isEmpty then 0 else 1) < 30))=true) Ar._auto_1)
  (Hn:autoParam ((apos.endLine == jR.line)=true) Ar._auto_1) (hs:autoParam (cB (e :: es) X.env=(false,eval e X.env) :: cB es X.env) Ar._auto_1) (V6:autoParam ((kS jR (cB es X.env)).any (·.1)=false) Ar._auto_1) :
  gW X (.Call (.Attribute o name apos) (e :: es) [] jR) (xV ty r to t):=by
 intro E pins s σ H τ G Q hE I h
 refine wpAny_Call_method_late Hr TR Hn rfl (kn ho hE I h ?_)
 rintro x H1 d G1 v s1 I1 m1 r1 jV ⟨hy,q1⟩
 obtain⟨h1,h2⟩:=ht pins s1 σ H1 G1 x d v I1.inv I1.ab r1 jV hy
 refine⟨T,id,pa,slot,hty,h1,h2,?_⟩
 have hA:=ha jR E pins s1 σ H1 τ G1 _ hE I1 q1
 rw [hs] at hA ⊢
 refine tH (by show (false||(kS jR (cB es X.env)).any (·.1))=false; rw [V6] <;> rfl) (Calls.evalArgs_plain ?_)
 exact gN hA (by rintro us s2 ⟨vs,H2,ds,G2,nh,m2,r2,yA,q2⟩; exact gN (hm pins s2 σ H2 G2 x d vs ds v us Q nh m2.ab r1 (jV.mono (m2.kp I1.ab)) r2 yA q2) fun _ _ z=>z.trans (m1.trans m2))
theorem mL:Ox X "list.append" mi:=by
 intro pins s σ H G x d xs ds v us Q I ab rx rd SY zH q
 unfold mi at q
 split at q
 ·rename_i l d'
  cases rd
  obtain⟨w,rfl,tK⟩:=zH.one
  split at q
  ·rename_i zs hg
   obtain⟨hz,q⟩:=q
   obtain⟨vs,hv,rs⟩:=ab.lst hg
   exact gN (Ct pins s σ H _ _ v us (ES X.K H G Q) I rx SY ⟨l,vs,w,rfl,rfl,hv,by rw [rs.length,cN]; exact hz,_,_,.putL ab hg hv (rs.append (.cons tK .nil)),.du,q⟩) fun _ _ z=>.of z
  ·exact q.elim
 ·exact q.elim
theorem KD(l:Addr)(xs:Array Value)(n:Nat)(b:Addr)(ys:Array Value)(n2:Nat)(dd:Option Addr)(sl:Array (Option Value))(UK:¬(!xs.isEmpty&&jK (xs.size+ys.size))=true)(hx:xs.size<=bG)(hxy:xs.size+ys.size<=bG+1) :
  Meets (Builtin.«list.extend» ⟨[.ref l,.ref b],[]⟩) (fun _ R s=>s.heap.get? l=some { cls:=.type "list",dict:=none,data:=.seq xs n,slots:=#[] }/\s.heap.get? b=some { cls:=.type "list",dict:=dd,data:=.seq ys n2,slots:=sl }/\R (.ok (.ret eD)) { s with heap:=s.heap.update l (jh fun x=>x++ys),toks:=s.toks }) :=
 .of_wp fun prog w A R s h=>by
  obtain⟨hp,g,d,tk,os⟩:=s
  obtain⟨h1,h2,h3⟩:=h
  have e1:=AutoSeq1.idx_int
  have e2:=qh
  have e3:=Jp
  have e4:=AutoSeq1.sub_tuple_list
  have e5:=AutoSeq1.sub_list_tuple
  have W2:(xs++ys).size<=bG+1:=by rw [Array.size_append]; exact hxy
  wp_walk using (wpAny_updateSeq h1 rfl (hz:=hx) (_hz':=W2)),cI h1,cI h2
  exact⟨_,rfl,h3⟩
theorem J1:Ox X "list.extend" yJ:=by
 intro pins s σ H G x d xs ds v us Q I ab rx rd SY zH q
 unfold yJ at q
 split at q
 ·rename_i l y
  cases rd
  obtain⟨w,rfl,tK⟩:=zH.one
  obtain⟨u,rfl,ru⟩:=SY.one
  split at q
  ·rename_i zs ys hg hg2
   obtain⟨hz,q⟩:=q
   obtain⟨vs,hv,rs⟩:=ab.lst hg
   obtain⟨b,ws,wU,rfl,PV,R8,hb,_⟩:=kJ I ab ru tK hg2
   cases rx
   obtain⟨z,bM,n,r,hl,e⟩:=I.VR hv
   obtain⟨⟨cl,dd,dt,sl⟩,ho,Ks,n2,hdt⟩:=hb
   simp only at Ks hdt
   subst Ks hdt
   have h1:=PV.length
   have h2:=R8.length
   have h3:=rs.length
   have h4:=r.length
   have h5:bG=16777216:=cN
   have h6:SZ=16777216:=rfl
   have hsz:bM.toArray.size+wU.toArray.size<=bG:=by rw [aZ,aZ]; lia
   have UK:¬ (!bM.toArray.isEmpty&&jK (bM.toArray.size+wU.toArray.size))=true:=by
    rw [Qq hsz,ye]
    exact e7
   refine Bg F.slot_list_extend ⟨_,e,rfl⟩ F.entry_list_extend (F.args_list_extend_2 _ _) (KD l bM.toArray n b wU.toArray n2 dd sl UK (by rw [aZ]; lia) (by lia)) ⟨e,ho,?_⟩
   refine⟨.du,_,.du,_,I.VT (its':=bM++wU) hv e (by simp) (r.append PV) ?_,.putL ab hg hv (rs.append R8),rfl,.du,q⟩
   rw [aq]
   lia
  ·exact q.elim
 ·exact q.elim
theorem V4{bM:List Value}{u:Value}{k:Nat}(hk:k<=bM.length):(bM.toArray.extract 0 k).push u++bM.toArray.extract k=(bM.take k++u :: bM.drop k).toArray:=by
 simp [List.extract_eq_take_drop]
 rw [gS (by rw [cM]; lia)]
theorem J0:Ox X "list.insert" yI:=by
 intro pins s σ H G x d xs ds v us Q I ab rx rd SY zH q
 unfold yI at q
 split at q
 ·rename_i l i d'
  cases rd
  obtain⟨w,w2,rfl,DC,rw2⟩:=zH.two
  cases DC
  split at q
  ·rename_i zs hg
   obtain⟨h0,h1,hz,q⟩:=q
   obtain⟨vs,hv,rs⟩:=ab.lst hg
   obtain⟨u1,u2,rfl,⟨t,rfl⟩,Xu⟩:=vals2 SY
   cases rx
   obtain⟨z,bM,n,r,hl,e⟩:=I.VR hv
   have sz:bG=16777216:=cN
   have hlen:bM.length=zs.length:=by rw [← hl,rs.length]
   have hs:SZ=16777216:=rfl
   have aeR:¬ (!Builtin.List.listFitsIndex i)=true:=by
    rw [fitsIndex_both (by lia) (by lia)]
    exact e7
   refine Bg F.slot_list_insert ⟨_,e,rfl⟩ F.entry_list_insert (F.args_list_insert_3 _ _ _)
    (AutoSeq1.list_insert_list_int_val_1 l bM.toArray n i t u2 aeR (by rw [aZ]; lia)) ⟨e,?_⟩
   have hi:i.toNat<=bM.length:=by lia
   refine⟨.du,_,.du,_,I.VT (its':=bM.take i.toNat++u2 :: bM.drop i.toNat) (ys:=vs.take i.toNat++w2 :: vs.drop i.toNat) hv e ?_ ((r.take _).append (.cons Xu (r.drop _))) ?_,.putL ab hg hv ((rs.take _).append (.cons rw2 (rs.drop _))),rfl,.du,q⟩
   ·dsimp only
    have e1:(if i < 0 then (i+(bM.toArray.size:Int)).toNat else min i.toNat bM.toArray.size)=i.toNat:=by
     rw [if_neg (by lia),aZ]; lia
    rw [e1]
    exact V4 hi
   ·rw [aq,ak,dW,cM]
    lia
  ·exact q.elim
 ·exact q.elim
theorem mC (hu : X.A.units + 64 < cLine) : Ox X "list.index" pO := by
  intro pins s σ H G x d xs ds v us Q I ab rx rd SY zH q
  unfold pO at q
  split at q
  · rename_i d'
    obtain⟨hy, zs, sn, ss, hi, s1, s2, q⟩ := q
    obtain⟨w, rfl, tK⟩ := zH.one
    obtain⟨u, rfl, ru⟩ := SY.one
    have lists : ∃ l vs bM, v = .ref l ∧ Vals vs bM ∧ bF X.K H vs zs ∧ s.heap.IsList l bM.toArray ∧ vs.length ≤ bG := by
      cases rd with
      | fG hq rs =>
        cases hi
        cases rx
        obtain⟨bM, rv, pl, hz⟩ := I.list hq.sq
        exact⟨_, _, bM, rfl, rv, rs, pl.isList, hz⟩
      | ref l =>
        unfold itemsOf at hi
        dsimp only at hi
        cases hg : G l with
        | none => rw [hg] at hi; cases hi
        | some g =>
          rw [hg] at hi
          cases g with
          | lst ds =>
            cases hi
            cases rx
            obtain⟨vs, hv, rs⟩ := ab.lst hg
            obtain⟨bM, rv, pl, hz⟩ := I.list (.of hv)
            exact⟨_, _, bM, rfl, rv, rs, pl.isList, hz⟩
          | iO _ => cases hi
      | _ => exact cw hy
    obtain⟨l, vs, bM, rfl, rv, rs, hl, hz⟩ := lists
    obtain⟨as, ra⟩ := (iF I ab s1).1 w u tK ru
    obtain⟨bs, rb⟩ := (iF I ab s2).2 zs ss (.inl ⟨rfl, rfl⟩) vs bM rs rv
    have d2 := Mx (n := 7) s2
    have n2 : qj ss = true := s2.nr
    have Aj := vC _ n2
    have wV : X.A.units + 1 + min (cO (lV ss)) (pd sn).depth < cLine := by lia
    have P4 : g7 s.heap bM.toArray.toList (lV ss) bs := by simpa using rb
    have mp := SeqAt.readsAll_map _ _ _ Aj P4
    split at q
    · rename_i k hk
      obtain⟨lG, aeM, TL⟩ := List.findIdx?_eq_some_iff_getElem.mp hk
      have pdl : ∀ (zz : List D), (lV zz).length = zz.length := by
        intro zz
        induction zz with
        | nil => rfl
        | cons a r ih => exact congrArg Nat.succ ih
      have hlen : bM.length = ss.length := by
        have := congrArg dP mp
        rw [ah, pdl] at this
        simpa using this
      have at_ : ∀ (m : Nat) (h1 : m < bM.toArray.size) (h2 : m < ss.length), uE (B0 s.heap bM.toArray[m]) (pd sn) = i7 ss[m] sn := by
        intro m h1 h2
        have e1 : (bM.toArray.toList.map (B0 s.heap))[m]? = (lV ss)[m]? := by rw [mp]
        have pdg : ∀ (zz : List D) (m : Nat) (h : m < zz.length), (lV zz)[m]? = some (pd zz[m]) := by
          intro zz
          induction zz with
          | nil => intro m h; simp at h
          | cons a r ih => intro m h; cases m with
            | zero => rfl
            | succ m => exact ih m (uF h)
        rw [pdg ss m h2] at e1
        have h1' : m < bM.length := by simpa using h1
        have e2 : B0 s.heap bM.toArray[m] = pd ss[m] := by
          simpa [h1'] using e1
        rw [e2]
        have nrm : nr ss[m] = true := by
          have : ∀ (zz : List D) (m : Nat) (h : m < zz.length), qj zz = true → nr zz[m] = true := by
            intro zz
            induction zz with
            | nil => intro m h; simp at h
            | cons a r ih => intro m h hn; have Hm : nr a = true ∧ qj r = true := (jZ).mp hn
                             cases m with
                             | zero => exact Hm.1
                             | succ m => exact ih m (by simpa using h) Hm.2
          exact this ss m h2 n2
        exact uc _ _ nrm s1.nr
      have sz : bG = 16777216 := cN
      have hvl : vs.length = bM.length := rv.length
      obtain⟨⟨cls, dd, data, sl⟩, ho, hc, n, hd⟩ := id hl
      simp only at hc hd
      subst hc hd
      have TM : k < bM.toArray.size := by rw [aZ]; lia
      refine Bg fH ⟨_, ho, rfl⟩ PySem.F.entry_list_index (PySem.F.args_list_index_2 _ _)
        (SeqAt.list_indexAt l bM.toArray n dd sl u (fun y => uE (B0 s.heap y) (pd sn)) k TM (by lia) ?_ ?_) ⟨ho, nq P4 ra Aj (kc _ s1.nr) wV, ?_⟩
      · rw [at_ k TM lG]; exact aeM
      · intro m hm Yq
        have Ys : m < ss.length := by lia
        rw [at_ m hm Ys]
        simpa using TL m Yq
      · exact⟨.int k, H, .int k, G, I.tok _, .refl ab, ⟨_, rfl⟩, .int _, q⟩
    · exact q.elim
  · exact q.elim
theorem r8:gW X (.Dict [] [] pos) ue:=by
 intro E pins s σ H τ G Q hE I h
 exact gN (Qg pins s σ H (ES X.K H G Q) I.inv fun p hp=>⟨_,_,.new I.ab hp (.dk dj .nil),.ref _,h p (I.ab.free hp)⟩) fun _ _ z=>.of z
end
end K2
end
section
namespace K2
open PySem PySem.Spec PyProof.Rows L2
noncomputable def gO(env:Env):List (Str×sX)->List (Str×Addr)->List (Str×Addr)
 | [],acc=>acc
 | (n,k) :: r,acc=>if k=.free then gO env r ((n,(env.cells.lookup n).getD 0) :: acc) else gO env r acc
theorem uh(env:Env)(f:Str×sX->List (Str×Addr)->Sem (ForInStep (List (Str×Addr))))(hf:∀ n k c,f (n,k) c=if (k == kq)=true then (cellOf env n >>= fun a=>pure (sC ((n,a) :: c))) else pure (sC c)) :
  ∀ (ns:List (Str×sX)) (acc:List (Str×Addr)),(∀ x∈ns,x.2=.free->∃ c,env.cells.lookup x.1=some c)->forIn ns acc f=(pure (gO env ns acc):Sem (List (Str×Addr)))
 | [],acc,_=>rfl
 | (n,k) :: r,acc,h=>by
  rw [List.forIn_cons,hf]
  have hr:∀ x∈r,x.2=.free->∃ c,env.cells.lookup x.1=some c:=fun x hx=>h x (ao _ hx)
  by_cases hk:k=.free
  ·subst hk
   obtain⟨c,hc⟩:=h (n,.free) ay rfl
   have ec:cellOf env n=pure c:=by unfold cellOf; rw [hc]
   rw [if_pos (by decide),ec,pure_bind,pure_bind]
   show forIn r ((n,c) :: acc) f=_
   rw [uh env f hf r _ hr]
   show _=(pure (gO env ((n,.free) :: r) acc):Sem (List (Str×Addr)))
   rw [gO,if_pos rfl,hc]; rfl
  ·rw [if_neg (by simpa using hk),pure_bind]
   show forIn r acc f=_
   rw [uh env f hf r _ hr]
   show _=(pure (gO env ((n,k) :: r) acc):Sem (List (Str×Addr)))
   rw [gO,if_neg hk]
theorem BO{env:Env}{scope:Scope}(h:∀ x∈scope.names,x.2=.free->∃ c,env.cells.lookup x.1=some c):closureFor scope env=pure (gO env scope.names []):=by
 unfold closureFor
 dsimp only
 rw [uh env _ (fun n k c=>?_) scope.names [] h]
 ·rfl
 ·by_cases hk:(k == kq)=true
  ·simp only [hk,if_true]
  ·simp only [hk,if_false,aF]
theorem uL{env:Env}{x:Str}{c:Addr}:∀ {ns:List (Str×sX)} {acc:List (Str×Addr)},(∀ y∈ns,y.2=.free->∃ c,env.cells.lookup y.1=some c)->(∀ y c,acc.lookup y=some c->env.cells.lookup y=some c)->(gO env ns acc).lookup x=some c->env.cells.lookup x=some c
 | [],_,_,ha,e=>ha _ _ e
 | (n,k) :: r,acc,h,ha,e=>by
  have hr:∀ y∈r,y.2=.free->∃ c,env.cells.lookup y.1=some c:=fun y hy=>h y (ao _ hy)
  unfold gO at e
  by_cases hk:k=.free
  ·rw [if_pos hk] at e
   refine uL hr (fun y c' q=>?_) e
   rw [E7] at q
   by_cases hy:(y == n)=true
   ·rw [hy] at q
    have e1:y=n:=eq_of_beq hy
    subst e1
    obtain⟨c0,hc0⟩:=h (y,k) ay hk
    rw [hc0] at q ⊢
    exact q
   ·have hy':(y == n)=false:=by simpa using hy
    rw [hy'] at q
    exact ha y c' q
  ·rw [if_neg hk] at e
   exact uL hr ha e
theorem pA{env:Env}{x:Str}:∀ {ns:List (Str×sX)} {acc:List (Str×Addr)},((x,kq)∈ns\/∃ c,acc.lookup x=some c)->∃ c,(gO env ns acc).lookup x=some c
 | [],_,h=>by rcases h with h | h; exact absurd h (by simp); exact h
 | (n,k) :: r,acc,h=>by
  unfold gO
  have grow:∀ a,(∃ c,acc.lookup x=some c)->∃ c,((n,a) :: acc).lookup x=some c:=fun a Mh=>by
   obtain⟨c,hc⟩:=Mh
   rw [E7]
   by_cases hy:(x == n)=true
   ·rw [hy]; exact⟨_,rfl⟩
   ·have hy':(x == n)=false:=by simpa using hy
    rw [hy']; exact⟨c,hc⟩
  by_cases hk:k=.free
  ·rw [if_pos hk]
   refine pA ?_
   rcases h with h | h
   ·rcases List.mem_cons.mp h with e | h
    ·injection e with e1 e2
     subst e1
     exact .inr ⟨(env.cells.lookup x).getD 0,by rw [E7]; simp⟩
    ·exact .inl h
   ·exact .inr (grow _ h)
  ·rw [if_neg hk]
   refine pA ?_
   rcases h with h | h
   ·rcases List.mem_cons.mp h with e | h
    ·injection e with e1 e2
     exact absurd e2.symm hk
    ·exact .inl h
   ·exact .inr h
noncomputable abbrev eU(X:Cx)(N:List Str)(scope:Scope)(C:Addr)(s:aA)(H:Hp)(fp:List Addr):Cx :=
 { X with env:=compEnvC scope (gO X.env scope.names []) C X.env,N:=N,ny:=s,RW:=H,outer:=X.stack,stack:=X.stack,ex:=fp,fn:=fun _=>false,pn:=[],xe:=fun _ _=>False }
theorem u3{scope:Scope}{env:Env}{x:Str}(h:(Jf scope env).names.lookup x=some .cell\/(Jf scope env).names.lookup x=some .free)(qo:∀ y∈scope.names,y.2≠.cell):(x,kq)∈scope.names:=by
 have go:∀ k,(Jf scope env).names.lookup x=some k->k=.cell\/k=.free->(x,kq)∈scope.names:=by
  intro k hk hkk
  have hm:=iN hk
  unfold Jf at hm
  dsimp only at hm
  obtain⟨⟨n,j⟩,hj,e⟩:=List.mem_map.mp hm
  dsimp only at e
  by_cases hc:(j == kq&&env.scope.kind == .function&&env.kindOf n == some .cell)=true
  ·rw [if_pos hc] at e
   rw [aP,aP] at hc
   injection e with e1 e2
   have ej:j=.free:=eq_of_beq hc.1.1
   rw [ej,e1] at hj
   exact hj
  ·rw [if_neg hc] at e
   injection e with e1 e2
   subst e1
   rcases hkk with r | r
   ·exact absurd (e2.trans r) (qo _ hj)
   ·rw [e2.trans r] at hj; exact hj
 rcases h with h | h
 ·exact go _ h (.inl rfl)
 ·exact go _ h (.inr rfl)
section
variable {X:Cx} {N:List Str} {scope:Scope} {fp:List Addr} {pins:List (Addr×Obj)} {σ:L2.St} {H:Hp} {s:aA} {C:Addr}
theorem Wu(I:Inv X pins σ H s)(qo:∀ y∈scope.names,y.2≠.cell)(CD:scope.kind=.function)(qm:∀ y∈scope.names,y.2=.free->X.env.kindOf y.1=some .cell)(hC:s.heap.objs.size<=C)(hfp:∀ b∈fp,nI X pins H b/\b < s.heap.objs.size):(eU X N scope C s H fp).Ok:=by
 have Ks:∀ y∈scope.names,y.2=.free->∃ c,X.env.cells.lookup y.1=some c:=fun y hy hf=>I.ok.has _ (.inl (qm y hy hf))
 have U8:∀ x c,(gO X.env scope.names []).lookup x=some c->X.env.cells.lookup x=some c:=fun x c e=>uL Ks (fun y c q=>by simp at q) e
 refine⟨I.ok.mod,CD,I.ok.glob,I.ok.blt,hC,fun x y c h1 h2=>I.ok.inj x y c (U8 x c h1) (U8 y c h2),fun x hx=>?_,fun x c h=>absurd h (by simp),I.ok.hd,I.ok.frames,.inl rfl,fun b hb=>?_,I.bs,cG I.ok.Ud I.sz,fun b o e hb=>?_,fun b hb=>?_,I.stack,I.Lu⟩
 ·exact pA (.inl (u3 hx qo))
 ·obtain⟨⟨f0,f1,f2,f3,f4,f5⟩,lG⟩:=hfp b hb
  exact⟨bT (cv lG hC),fun x c e=>f4 x c (U8 x c e)⟩
 ·obtain⟨⟨f0,f1,f2,f3,f4,f5⟩,lG⟩:=hfp b hb
  rcases f3 with f3 | f3
  ·exact I.ok.Nx b o e f3
  ·exact absurd (cv (aQ e) (cG I.ok.Ud f3)) (gi _)
 ·obtain⟨⟨f0,f1,f2,f3,f4,f5⟩,lG⟩:=hfp b hb
  intro z
  rcases List.mem_cons.mp (I.JE b z) with e | e
  ·exact f1 e
  ·exact f2 e
theorem T8{sP:Heap}{m:Nat}{fr:List Nat}{tk:Nat}(I:Inv X pins σ H s)(ok:(eU X N scope s.heap.objs.size s H fp).Ok)(Wc:∀ y∈scope.names,y.2≠.cell)(qm:∀ y∈scope.names,y.2=.free->X.env.kindOf y.1=some .cell)(hN:N.length=m+fr.length)
  (hfr:∀ j i x,fr[j]?=some i->N[m+j]?=some x->X.N[i]?=some x/\X.env.scope.names.lookup x=some .cell/\(Jf scope X.env).names.lookup x=some .cell) (Si:∃ mm,sP.Ns s.heap.objs.size mm) (hk:∀ b o,s.heap.get? b=some o->sP.get? b=some o) :
  Inv (eU X N scope s.heap.objs.size s H fp) [] (aJ m none++fr.map fun i=>(σ[i]?).getD none) H { s with heap:=sP,toks:=tk }:=by
 have Ks:∀ y∈scope.names,y.2=.free->∃ c,X.env.cells.lookup y.1=some c:=fun y hy hf=>I.ok.has _ (.inl (qm y hy hf))
 have U8:∀ x c,(gO X.env scope.names []).lookup x=some c->X.env.cells.lookup x=some c:=fun x c e=>uL Ks (fun y c q=>by simp at q) e
 obtain⟨mm,Si⟩:=Si
 refine⟨ok,rfl,I.bare,Un.kept hk,⟨mm,Si,fun i x v h1 h2 h3=>?_⟩,fun x c e=>?_,I.cT.fresh (aM _),fun x c e=>?_,fun p hp=>absurd hp (by simp),I.cT.kept hk,?_⟩
 ·by_cases hi:i < m
  ·rw [dG (by simpa using hi),gK] at h2
   split at h2 <;> cases h2
  ·obtain⟨j,rfl⟩:∃ j,i=m+j:=⟨i - m,by lia⟩
   rw [cC (by simp),bK,iW,bA] at h2
   cases hj:fr[j]? with
   | none=>rw [hj] at h2; cases h2
   | some k =>
    rw [hj] at h2
    have Q8:(σ[k]?).getD none=some v:=by simpa using h2
    have Sk:σ[k]?=some (some v):=by
     cases q:σ[k]? with
     | none=>rw [q] at Q8; cases Q8
     | some o=>rw [q] at Q8; simp at Q8; rw [Q8]
    obtain⟨e1,e2,e3⟩:=hfr j k x hj h1
    obtain⟨m0,hn0,hl0⟩:=I.loc
    obtain⟨u,r,l⟩:=hl0 k x v e1 Sk (.inr (.inl e2))
    refine⟨u,r,.inr ⟨.inl e3,?_⟩⟩
    rcases l with ⟨l1,_⟩ | ⟨_,c,hc,qo⟩
    ·have:X.env.scope.names.lookup x=some .local:=l1
     rw [e2] at this; cases this
    ·have hx:(x,kq)∈scope.names:=u3 (.inl e3) Wc
     obtain⟨c',UO⟩:=pA (env:=X.env) (x:=x) (ns:=scope.names) (acc:=[]) (.inl hx)
     have:=U8 x c' UO
     rw [hc] at this
     have ec:c=c':=bR this
     subst ec
     obtain⟨oc,W5,hd⟩:=qo
     exact⟨c,UO,oc,hk _ _ W5,hd⟩
 ·obtain⟨v,oc,W5,hd⟩:=I.cell x c (U8 x c e)
  exact⟨v,oc,hk _ _ W5,hd⟩
 ·exact I.mT x c (U8 x c e)
 ·rw [aq,bK,ah]
  exact hN.symm
theorem EB{prog:ck}{w:World}{A:eF}{R:Result->aA->Prop}{s:aA}{elt target iter:Expr}{ifs:List Expr}{sc:Scope}{pos:Pos}{it acc:Value}{env:Env}(J:Nat->aA->Prop)
  (turn:∀ n s,J n s->wpAny (model prog w) A (qC it) (fun r gr=>match r with
   | none=>R (.ok .next) gr
   | some v=>wpAny (model prog w) A (yX target it v) (fun _ Xl=>wpAny (model prog w) A (Pa target env v) (fun _ zm =>
     wpAny (model prog w) A (forIn ifs true fun c r=>if r=true then do let ok ← isTrue c env (eval c env); pure (sC ok) else pure (sC r)) (fun k PF =>
      if k=true then wpAny (model prog w) A (eval elt env) (fun x M4=>wpAny (model prog w) A (call (.builtin "list.append") [acc,x]) (fun _ PD=>∃ m,m < n/\J m PD) (fun _ _=>False) M4) (fun _ _=>False) PF
      else ∃ m,m < n/\J m PF) (fun _ _=>False) zm) (fun _ _=>False) Xl) (fun _ _=>False) gr) (fun _ _=>False) s) (n:Nat) (h:J n s) :
  y8 (model prog w) A (.compLoop (.ListComp elt [⟨target,iter,ifs,0⟩] sc pos) 0 it acc env) R s:=by
 have no:∀ {α:Type} {t:Sem α} {Q:α->aA->Prop} {E:Value->aA->Prop} {s:aA},wpAny (model prog w) A t Q (fun _ _=>False) s->wpAny (model prog w) A t Q E s:=fun h=>oj h (fun _ _ q=>q) fun _ _ z=>z.elim
 refine codeAny_loop rfl J (fun n s hJ=>?_) n h
 show wpAny _ A ((compTurn (.ListComp elt [⟨target,iter,ifs,0⟩] sc pos) 0 it acc env).onRaise (fun x=>do noteFrame x env; theTreesLotGoes x)) _ _ s
 refine wpAny_noted ?_
 rw [compTurn_list]
 refine af (wpAny_standAt (af (gN (no (turn n s hJ)) fun r gr sP=>?_)))
 cases r with
 | none=>exact av sP
 | some v =>
  refine af (gN (no sP) fun _ zm QR=>af (gN (no QR) fun _ PF aeg=>af (gN (no aeg) fun k M4 Ye=>?_)))
  cases k with
  | false=>exact av ⟨rfl,Ye⟩
  | true=>exact af (af (gN (no Ye) fun x PD aef=>af (gN (no aef) fun _ ajD aee=>av (av ⟨rfl,aee⟩))))
noncomputable def CompEnd(X:Cx)(pins:List (Addr×Obj))(σ:L2.St)(H:Hp)(G:Gp)(Q:DK)(C Dd:Addr)(s':aA):Prop :=
 ∃ m H' G',Inv X pins σ H' s'/\s'.heap.Ns C m/\nI X pins H' C/\Mv X.K H G H' G'/\Q (.ref Dd) G'
inductive WJ (Xc:Cx):List Expr->Option yr->Prop
 | none:WJ Xc [] none
 | some {c:Expr} {t:yr}:C3 Xc c t->WJ Xc [c] (some t)
theorem CT{τ:iH}{G G2:Gp}{H2:Hp}{s2:aA}{tg elt iter:Expr}{ifs:List Expr}{pos:Pos}{m:Nat}{fr:List Nat}{E:lP}{g:BR}{c:Option yr}{te:gI}{J:It}{tn:Nat->Heap->Prop}{it:Addr}{ds:List D}{ok:Gp->Prop}{Q:DK}{Rr:Value->Addr->Result->aA->Prop}{E0:Value->aA->Prop}
  (hc:X.calm=true) (qo:∀ y∈scope.names,y.2≠.cell) (CD:scope.kind=.function) (qm:∀ y∈scope.names,y.2=.free->X.env.kindOf y.1=some .cell) (hN:N.length=m+fr.length)
  (hfr:∀ j i x,fr[j]?=some i->N[m+j]?=some x->X.N[i]?=some x/\X.env.scope.names.lookup x=some .cell/\(Jf scope X.env).names.lookup x=some .cell)
  (hg:∀ C s H fp,OX (eU X N scope C s H fp) tg g) (hi:∀ C s H fp,WJ (eU X N scope C s H fp) ifs c) (he:∀ C s H fp,gW (eU X N scope C s H fp) elt te)
  (I:I2 X pins σ H2 τ G2 s2) (m2:Mv X.K H G H2 G2) (T:Turn X.prog X.w X.K tg J fp it tn) (OP:tn 0 s2.heap) (f2:∀ b∈fp,nI X pins H2 b) (wk:UX X.K J H2 ds ok) (hz:ds.length<=SZ)
  (hE0:∀ ex G,¬ E ex G) (q:jq g c te ok ds E (AY m fr τ) G2 [] fun xs G3=>jo G3 (.lst xs) Q)
  (fin:∀ C s',CompEnd X pins σ H G Q C s2.heap.objs.size s'->Rr (.ref s2.heap.objs.size) C (.ok .next) s') :
  wpAny (model X.prog X.w) X.A (newList []) (fun acc PF=>wpAny (model X.prog X.w) X.A (newFunctionEnv scope X.env.globals (gO X.env scope.names []) [] X.env.qual none .none (some X.env)) (fun Y4 M4 =>
   y8 (model X.prog X.w) X.A (.compStart (.ListComp elt [⟨tg,iter,ifs,0⟩] scope pos) 0 (.ref it) acc { Y4 with scope:=Jf scope X.env }) (Rr acc Y4.locals) M4) E0 PF) E0 s2:=by
 have sz:bG=16777216:=cN
 have wZ:H2 s2.heap.objs.size=none:=I.inv.cT.fresh (aM _)
 have Wi:G2 s2.heap.objs.size=none:=I.ab.free wZ
 refine df (wpAny_newFunctionEnv qo (by intro y hy; simp at hy) (fun sP QY QT=>?_) CD)
 dsimp only at QY QT ⊢
 have I3:Inv X pins σ (upd H2 s2.heap.objs.size (.lst [])) { s2 with heap:=s2.heap.push { cls:=.type "list",data:=.seq ([]:List Value).toArray },toks:=s2.toks }:=I.inv.adn (ys:=[]) .nil (cJ _)
 generalize hs3:({ s2 with heap:=s2.heap.push { cls:=.type "list",data:=.seq ([]:List Value).toArray },toks:=s2.toks }:aA)=s3 at I3
 generalize YJ:upd H2 s2.heap.objs.size (.lst [])=H3 at I3
 have eH3:∀ b,b≠s2.heap.objs.size->H3 b=H2 b:=fun b hb=>by rw [← YJ,cu hb]
 have Ho:s3.heap=s2.heap.push { cls:=.type "list",data:=.seq ([]:List Value).toArray }:=by rw [← hs3]
 have Xs:s3.heap.objs.size=s2.heap.objs.size+1:=by rw [Ho,yb]
 have Q4:∀ b∈fp,b < s2.heap.objs.size:=fun b hb=>by
  obtain⟨o,e,_⟩:=T.obj _ _ OP b hb
  exact aQ e
 have Yx:∀ b∈fp,nI X pins H3 b/\b < s3.heap.objs.size:=fun b hb=>by
  have hb2:=Q4 b hb
  obtain⟨f0,f1⟩:=f2 b hb
  exact⟨⟨by rw [eH3 b (bT hb2)]; exact f0,f1⟩,cv hb2 (by rw [Xs]; exact Nat.le_succ _)⟩
 have ZR:(eU X N scope s3.heap.objs.size s3 H3 fp).Ok:=Wu I3 qo CD qm (aM _) Yx
 have UM:∀ b o,s3.heap.get? b=some o->sP.get? b=some o:=fun b o e=>by
  have hb:b < s3.heap.objs.size:=aQ e
  refine QT.extBut b o ?_ (aN _ ?_)
  ·rw [← Ho]; exact bT hb
  ·rw [← Ho]; exact e
 have aeE:∃ mm,sP.Ns s3.heap.objs.size mm:=⟨_,by rw [Ho]; exact QY⟩
 have I4:=T8 (tk:=s3.toks+([]:List (Str×Value)).length) I3 ZR qo qm hN hfr aeE UM
 have adO:Kp H2 H3:=by rw [← YJ]; exact .new wZ
 have OW:mw X.K H3 G2:=by rw [← YJ]; exact(Mv.OR I.ab wZ).ab
 have mv3:Mv X.K H2 G2 H3 G2:=by rw [← YJ]; exact .OR I.ab wZ
 have ZL:OZ X.K H3 (aJ m none++fr.map fun i=>(σ[i]?).getD none) (AY m fr τ):=by
  refine⟨by unfold AY; rw [aq,aq,ah,ah,bK,bK],fun i d h2=>?_⟩
  unfold AY at h2
  by_cases hi:i < m
  ·rw [dG (by simpa using hi),gK] at h2
   split at h2 <;> cases h2
  ·obtain⟨j,rfl⟩:∃ j,i=m+j:=⟨i - m,by lia⟩
   rw [cC (by simp),bK,iW,bA] at h2
   rw [cC (by simp),bK,iW,bA]
   cases hj:fr[j]? with
   | none=>rw [hj] at h2; cases h2
   | some k =>
    rw [hj] at h2
    have Q8:(τ[k]?).getD none=some d:=by simpa using h2
    have Sk:τ[k]?=some (some d):=by
     cases qq:τ[k]? with
     | none=>rw [qq] at Q8; cases Q8
     | some o=>rw [qq] at Q8; simp at Q8; rw [Q8]
    obtain⟨v,e1,e2⟩:=I.st.at' k d Sk
    exact⟨v,by simp [e1],e2.mono adO⟩
 have hD3:H3 s2.heap.objs.size=some (.lst []):=by rw [← YJ,dj]
 have Xo:tn 0 sP:=T.keep _ _ _ OP fun b hb o e=>UM b o (by rw [Ho]; exact aN _ e)
 have PK:∀ {Hc:Hp},(∀ b∈fp,Hc b=none)->∀ b∈fp,nI (eU X N scope s3.heap.objs.size s3 H3 fp) [] Hc b:=fun hn b hb =>
  ⟨hn b hb,(ZR.exf b hb).1,ZR.Rl b hb,.inl hb,fun x c e=>(ZR.exf b hb).2 x c e,fun p hp=>absurd hp (by simp)⟩
 have neD:∀ b∈fp,b≠s2.heap.objs.size:=fun b hb=>bT (Q4 b hb)
 have loop:y8 (model X.prog X.w) X.A (.compLoop (.ListComp elt [⟨tg,iter,ifs,0⟩] scope pos) 0 (.ref it) (.ref s2.heap.objs.size) (eU X N scope s3.heap.objs.size s3 H3 fp).env) (Rr (.ref s2.heap.objs.size) s3.heap.objs.size)
   { s3 with heap:=sP,toks:=s3.toks+([]:List (Str×Value)).length }:=by
  refine EB (fun n s'=>∃ i R6 Hc Pj Gc uk v5,I2 (eU X N scope s3.heap.objs.size s3 H3 fp) [] R6 Hc Pj Gc s'/\Gc s2.heap.objs.size=none/\Hc s2.heap.objs.size=some (.lst uk)/\bF X.K Hc uk v5/\v5.length<=i/\Mv X.K H2 G2 Hc Gc/\tn i s'.heap/\(∀ b∈fp,Hc b=none) /\
   n=ds.length - i/\i<=ds.length/\jq g c te ok (ds.drop i) E Pj Gc v5 fun xs G3=>jo G3 (.lst xs) Q) ?_ ds.length
   ⟨0,_,H3,_,G2,[],[],⟨I4,ZL,OW⟩,Wi,hD3,.nil,aM _,mv3,Xo,fun b hb=>by rw [eH3 b (neD b hb)]; exact(f2 b hb).1,rfl,cJ _,q⟩
  rintro n s4 ⟨i,R6,Hc,Pj,Gc,uk,v5,Ic,gD,hD,rA,hA,mc,stc,frc,rfl,hle,wq⟩
  have kpc:Kp H2 Hc:=mc.kp I.ab
  by_cases lG:i < ds.length
  ·rw [fk lG] at wq
   obtain⟨okG,wq⟩:=wq
   obtain⟨go,yl⟩:=(wk i Hc Gc kpc Ic.ab okG).1 ds[i] (by simp [lG])
   refine gN (T.item (eU X N scope s3.heap.objs.size s3 H3 fp) rfl rfl rfl hc i [] s4 R6 Hc (fun _ _=>False) Ic.inv (PK frc) stc go) ?_
   rintro r s5 ⟨u,hr,h5⟩
   subst hr
   refine gN h5 ?_
   rintro _ s6 ⟨x,H6,I6,r6,y6,st6,fr6⟩
   obtain⟨rd6,m6⟩:=yl x H6 y6
   have I6':=I6.pinned (PK fr6) (T.obj _ _ st6)
   have J6:I2 (eU X N scope s3.heap.objs.size s3 H3 fp) ([]++mJ fp s6.heap) R6 H6 Pj Gc s6:=⟨I6',Ic.st.mono (m6.kp Ic.ab),m6.ab⟩
   have back:∀ {σ9:L2.St} {H9:Hp} {ZF:iH} {G9:Gp} {s9:aA} {aV:List V} {aD:List D},I2 (eU X N scope s3.heap.objs.size s3 H3 fp) ([]++mJ fp s6.heap) σ9 H9 ZF G9 s9->Mv X.K H2 G2 H9 G9->G9 s2.heap.objs.size=none->H9 s2.heap.objs.size=some (.lst aV)->bF X.K H9 aV aD->aD.length<=i+1 ->
     (jq g c te ok (ds.drop (i+1)) E ZF G9 aD fun xs G3=>jo G3 (.lst xs) Q)->∃ mm,mm < ds.length - i/\∃ i R6 Hc Pj Gc uk v5,I2 (eU X N scope s3.heap.objs.size s3 H3 fp) [] R6 Hc Pj Gc s9/\Gc s2.heap.objs.size=none/\Hc s2.heap.objs.size=some (.lst uk)/\bF X.K Hc uk v5/\v5.length<=i /\
      Mv X.K H2 G2 Hc Gc/\tn i s9.heap/\(∀ b∈fp,Hc b=none)/\mm=ds.length - i/\i<=ds.length/\jq g c te ok (ds.drop i) E Pj Gc v5 fun xs G3=>jo G3 (.lst xs) Q:=fun {σ9 H9 ZF G9 s9 aV aD} I9 m9 g9 h9 r9 l9 n9=>by
    refine⟨ds.length - (i+1),by lia,i+1,σ9,H9,ZF,G9,aV,aD,⟨I9.inv.qO,I9.st,I9.ab⟩,g9,h9,r9,l9,m9,T.keep _ _ _ st6 fun b hb o e=>(I9.inv.pin (b,o) (bH _ (bH _ (kC hb e)))).1,fun b hb=>?_,rfl,lG,n9⟩
    obtain⟨o,e,d⟩:=T.obj _ _ st6 b hb
    exact(I9.inv.pin (b,o) (bH _ (bH _ (kC hb e)))).2.1
   have mc6:=mc.trans m6
   have hD6:=m6.keep _ _ hD gD
   refine gN (hg _ _ _ _ E _ s6 R6 H6 Pj Gc x ds[i] u _ (Lk.none hE0) J6 r6 rd6 wq) ?_
   rintro _ s7 ⟨OO,H7,ON,G7,I7,m7,q7⟩
   have hD7:=m7.keep _ _ hD6.1 gD
   have mc7:=mc6.trans m7
   have rA7:=rA.mono ((m6.trans m7).kp Ic.ab)
   have YY:∀ (H8:Hp) (G8:Gp) (s8:aA),I2 (eU X N scope s3.heap.objs.size s3 H3 fp) ([]++mJ fp s6.heap) OO H8 ON G8 s8->Mv X.K H7 G7 H8 G8->(te E ON G8 fun y G9=>jq g c te ok (ds.drop (i+1)) E ON G9 (v5++[y]) fun xs G3=>jo G3 (.lst xs) Q) ->
     wpAny (model X.prog X.w) X.A (eval elt (eU X N scope s3.heap.objs.size s3 H3 fp).env) (fun y M4=>wpAny (model X.prog X.w) X.A (call (.builtin "list.append") [.ref s2.heap.objs.size,y]) (fun _ PD=>∃ mm,mm < ds.length - i/\∃ i R6 Hc Pj Gc uk v5,I2 (eU X N scope s3.heap.objs.size s3 H3 fp) [] R6 Hc Pj Gc PD/\Gc s2.heap.objs.size=none/\Hc s2.heap.objs.size=some (.lst uk)/\bF X.K Hc uk v5/\v5.length<=i /\
      Mv X.K H2 G2 Hc Gc/\tn i PD.heap/\(∀ b∈fp,Hc b=none)/\mm=ds.length - i/\i<=ds.length/\jq g c te ok (ds.drop i) E Pj Gc v5 fun xs G3=>jo G3 (.lst xs) Q) (fun _ _=>False) M4) (fun _ _=>False) s8:=fun H8 G8 s8 I8 m8 q8=>by
    refine kn (he _ _ _ _) (Lk.none hE0) I8 q8 fun v H9 d9 G9 u9 s9 I9 m9 r9 rd9 q9=>?_
    have m79:=m8.trans m9
    have hD9:=m79.keep _ _ hD7.1 hD7.2
    have rA9:=rA7.mono (m79.kp I7.ab)
    have mc9:=mc7.trans m79
    refine gN (Ct (X:=eU X N scope s3.heap.objs.size s3 H3 fp) _ s9 OO H9 (.ref s2.heap.objs.size) [v] _ [u9] (fun _ H'=>H'=upd H9 s2.heap.objs.size (.lst (uk++[v]))) I9.inv rfl (.cons r9 .nil)
     ⟨_,uk,v,rfl,rfl,hD9.1,by rw [rA.length,sz]; have:SZ=16777216:=rfl; lia,rfl⟩) ?_
    rintro _ s10 ⟨v10,H10,I10,_,e10⟩
    subst e10
    have kpA:Kp H9 (upd H9 s2.heap.objs.size (.lst (uk++[v]))):=.putL hD9.1
    have abA:mw X.K (upd H9 s2.heap.objs.size (.lst (uk++[v]))) G9:=fun a g' e=>by
     have ne:a≠s2.heap.objs.size:=by rintro rfl; rw [hD9.2] at e; cases e
     exact(I9.ab a g' e).mono kpA (cu ne)
    have mA:Mv X.K H2 G2 (upd H9 s2.heap.objs.size (.lst (uk++[v]))) G9:=⟨fun a o e n=>by
      have ne:a≠s2.heap.objs.size:=fA e wZ
      obtain⟨e1,e2⟩:=mc9.keep a o e n
      exact⟨by rw [cu ne]; exact e1,e2⟩,fun a n=>by
      by_cases ha:a=s2.heap.objs.size
      ·rw [ha,dj]; simp
      ·rw [cu ha]; exact mc9.nA a n,abA⟩
    exact back ⟨I10,I9.st.mono kpA,abA⟩ mA hD9.2 dj ((rA9.append (.cons rd9 .nil)).mono kpA) (by rw [aq,bp]; lia) q9
   cases hi s3.heap.objs.size s3 H3 fp with
   | none =>
    refine wpAny_tests_nil ?_
    rw [if_pos rfl]
    exact YY H7 G7 s7 I7 (.refl I7.ab) q7
   | some YC =>
    refine wpAny_tests_one (M0 YC (Lk.none hE0) I7 q7 fun k H8 G8 s8 I8 m8 q8=>?_)
    cases k with
    | true =>
     rw [if_pos rfl] at q8 ⊢
     exact YY H8 G8 s8 I8 m8 q8
    | false =>
     rw [if_neg e7] at q8 ⊢
     have hD8:=m8.keep _ _ hD7.1 hD7.2
     exact back I8 (mc7.trans m8) hD8.2 hD8.1 (rA7.mono (m8.kp I7.ab)) (by lia) q8
  ·have hn:ds.length<=i:=by lia
   rw [ji hn] at wq
   obtain⟨okG,qn⟩:=wq
   have stop:=(wk i Hc Gc kpc Ic.ab okG).2 hn
   refine gN (T.done (eU X N scope s3.heap.objs.size s3 H3 fp) rfl rfl rfl hc i [] s4 R6 Hc (fun _ _=>False) Ic.inv (PK frc) stc stop) ?_
   rintro r s5 ⟨hr,I5⟩
   subst hr
   refine fin s3.heap.objs.size s5 ?_
   obtain⟨mm,aeF,_⟩:=I5.loc
   have hC5:Hc s3.heap.objs.size=none:=I5.free
   have I6:Inv X pins σ Hc s5:=by
    obtain⟨h5,g5,d5,t5,o5⟩:=s5
    have eo:o5=s3.os:=I5.os
    subst eo
    exact I3.call (h':=h5) (g':=g5) (d':=d5) (t':=t5) (ch:=fp) I5.base I5.cT I5.bare fun b hb=>by
     obtain⟨⟨f0,f1,f2',f3,f4,f5⟩,hl⟩:=Yx b hb
     exact⟨f3,f1,f4,f5⟩
   have mvF:Mv X.K H2 G2 Hc (fK Gc s2.heap.objs.size (.lst v5)):=⟨fun a o e n=>by
     have ne:a≠s2.heap.objs.size:=fA e wZ
     obtain⟨e1,e2⟩:=mc.keep a o e n
     exact⟨e1,by rw [dU ne]; exact e2⟩,mc.nA,fun a g' e=>by
     by_cases ha:a=s2.heap.objs.size
     ·subst ha
      rw [aO] at e
      cases e
      exact⟨uk,hD,rA⟩
     ·rw [dU ha] at e
      exact Ic.ab a g' e⟩
   exact⟨mm,Hc,_,I6,aeF,I3.Hx (aM _) hC5,m2.trans mvF,qn _ gD⟩
 have all:y8 (model X.prog X.w) X.A (.compStart (.ListComp elt [⟨tg,iter,ifs,0⟩] scope pos) 0 (.ref it) (.ref s2.heap.objs.size) (eU X N scope s3.heap.objs.size s3 H3 fp).env) (Rr (.ref s2.heap.objs.size) s3.heap.objs.size)
   { s3 with heap:=sP,toks:=s3.toks+([]:List (Str×Value)).length }:=codeAny_compStart_list loop (T.self _ 0 _ _ _ Xo loop)
 subst hs3
 exact all
end
end K2
end
section
namespace K2
open PySem PySem.Spec PyProof.Rows L2
section
variable {X:Cx} {N:List Str} {scope:Scope} {tg elt iter:Expr} {ifs:List Expr} {pos:Pos} {m:Nat} {fr:List Nat} {wi:RQ} {g:BR} {c:Option yr} {te:gI}
structure Be(X:Cx)(N:List Str)(scope:Scope)(m:Nat)(fr:List Nat):Prop where
 cell:∀ y∈scope.names,y.2≠.cell
 kind:scope.kind=.function
 names:∀ y∈scope.names,y.2=.local->scope.names.lookup y.1=some .local
 free:∀ y∈scope.names,y.2=.free->X.env.kindOf y.1=some .cell
 len:N.length=m+fr.length
 at':∀ j i x,fr[j]?=some i->N[m+j]?=some x->X.N[i]?=some x/\X.env.scope.names.lookup x=some .cell/\(Jf scope X.env).names.lookup x=some .cell
theorem Be.closed{X:Cx}{N:List Str}{scope:Scope}{m:Nat}{fr:List Nat}(k:Be X N scope m fr){pins:List (Addr×Obj)}{σ:L2.St}{H:Hp}{s:aA}(I:Inv X pins σ H s):closureFor scope X.env=pure (gO X.env scope.names []) :=
 BO fun y hy hf=>I.ok.has _ (.inl (k.free y hy hf))
theorem Nq(hc:X.calm=true)(k:Be X N scope m fr)(hi:RS X tg iter wi)(hg:∀ C s H fp,OX (eU X N scope C s H fp) tg g)(Wb:∀ C s H fp,WJ (eU X N scope C s H fp) ifs c)(he:∀ C s H fp,gW (eU X N scope C s H fp) elt te)
  (hs:autoParam (∀ x,kh iter X.env x=pure x) Ai._auto_1):gW X (.ListComp elt [⟨tg,iter,ifs,0⟩] scope pos) (eI m fr wi g c te):=by
 intro E pins s σ H τ G Q hE I h
 rw [eval_ListComp]
 refine wpAny_comprehension_free (use:=none) rfl hs (k.closed I.inv) k.kind k.names (gN (hi E pins s σ H τ G _ hE I h) fun xv gr sP=>gN sP fun TB zm QR=>?_)
 obtain⟨it,fp,tn,J,H2,G2,ds,ok,e,nh,m2,T,OP,f2,wk,hz,q⟩:=QR
 subst e
 refine CT (Rr:=fun acc C=>compPost (model X.prog X.w) X.A X.xe none (sV X pins σ H G Q) acc C) hc k.cell k.kind k.free k.len k.at' hg Wb he (I.mv nh m2) m2 T OP f2 wk hz (fun _ _ z=>z) q ?_
 rintro C s' ⟨mm,H',G',I',Si,fpC,mv,q'⟩
 refine⟨mm,Si,fun h' Mg=>?_⟩
 obtain⟨f0,f1,_,f3,f4,f5⟩:=fpC
 exact⟨.ref _,H',.ref _,G',I'.turned (t':=s'.toks) (fun b o hb e=>Mg.extBut b o hb e) f0 f1 f3 f4 f5,mv,rfl,.ref _,q'⟩
theorem Ga{i:Nat}{y:Str}{py PQ:Pos}(hN:X.N.Nodup)(hyi:X.N[i]?=some y)(hy:X.env.scope.names.lookup y=some .local)(hc:X.calm=true)(k:Be X N scope m fr)(hi:RS X tg iter wi)(hg:∀ C s H fp,OX (eU X N scope C s H fp) tg g)
  (Wb:∀ C s H fp,WJ (eU X N scope C s H fp) ifs c) (he:∀ C s H fp,gW (eU X N scope C s H fp) elt te) (Yh:autoParam (Fh (.ListComp elt [⟨tg,iter,ifs,0⟩] scope pos) (some (.Name y py)) PQ.line X.env=pure true) Ar._auto_1)
  (hs:autoParam (∀ x,kh iter X.env x=pure x) Ai._auto_1):Jb X (.Assign [.Name y py] (.ListComp elt [⟨tg,iter,ifs,0⟩] scope pos) PQ) (bQ (eI m fr wi g c te) (aI i)):=by
 intro E pins s σ H τ G D hE I h
 rw [exec_Assign_Name_used _ _ _ _ Yh]
 refine af (wpAny_standAt (af ?_))
 show wpAny _ X.A (do let _ ← comprehension (.ListComp elt [⟨tg,iter,ifs,0⟩] scope pos) scope X.env _ (newList []) false (eval iter X.env) (some (Pa (.Name y py) X.env))) _ _ s
 refine af (gN (wpAny_comprehension_free (use:=some (Pa (.Name y py) X.env)) (Q:=fun _ s'=>WI X pins H G D .next s') rfl hs (k.closed I.inv) k.kind k.names (gN (hi E pins s σ H τ G _ hE I h) fun xv gr sP=>gN sP fun TB zm QR=>?_)) fun _ s' hq=>av (av hq))
 obtain⟨it,fp,tn,J,H2,G2,ds,ok,e,nh,m2,T,OP,f2,wk,hz,q⟩:=QR
 subst e
 refine CT (Rr:=fun acc C=>compPost (model X.prog X.w) X.A X.xe (some (Pa (.Name y py) X.env)) (fun _ s'=>WI X pins H G D .next s') acc C) hc k.cell k.kind k.free k.len k.at' hg Wb he (I.mv nh m2) m2 T OP f2 wk hz (fun _ _ z=>z) q ?_
 rintro C s' ⟨mm,H',G',I',Si,fpC,mv,q'⟩
 show wpAny (model X.prog X.w) X.A (Pa (.Name y py) X.env (.ref zm.heap.objs.size)) _ X.xe s'
 obtain⟨f0,f1,_,f3,f4,f5⟩:=fpC
 refine Jd (B7 (v:=.ref zm.heap.objs.size) I' hN hyi (.inl hy) rfl (?_) (.inr hy))
 rintro s3 I3 ⟨a,Yj,ha⟩
 have hCa:C≠a:=by
  rcases ha with rfl | ha
  ·exact f1
  ·exact fun e=>f4 y a ha e.symm
 refine⟨mm,Si.sameBut Yj hCa,fun h' Mg=>?_⟩
 exact⟨_,H',_,G',⟨I3.turned (t':=s3.toks) (fun b o hb e=>Mg.extBut b o hb e) f0 f1 f3 f4 f5,(I.st.mono (mv.kp I.ab)).set i (.ref _),mv.ab⟩,mv,q'⟩
theorem dB{i:Nat}{u:ER}{n:Nat}(h:∀ E ds τ G Q,u E ds τ G Q->ds.length=n):∀ E ds τ G Q,fB (aI i) u E ds τ G Q->ds.length=n+1 :=
 N7 h (fun _ _ _ _ _ _ q k=>k _ _ q) fun _ _ _ _ q=>q
theorem bI (i:Nat) {x:Str} {pos:Pos} (hN:autoParam (X.N[i]?=some x) Ar._auto_1) (hv:autoParam (Vis X.env.scope x) Ao._auto_1) (hd:autoParam ((x == ("__debug__" : Str))=false) Ad._auto_1)
  (Kt:autoParam ((x == ("__classdict__" : Str))=false) Ad._auto_1):gW X (.Name x pos) (aw i):=Tg hN hv hd Kt
theorem range_all(bs:List Bool):(bq bs.length).all (fun i=>bs.getD i true)=bs.all id:=by
 rw [o1,ft,ft]
 constructor
 ·intro h b hb
  obtain⟨i,hi,e⟩:=da hb
  have:=h i (List.mem_range.mpr hi)
  rw [az,ag hi,e] at this
  exact this
 ·intro h i hi
  have Az:=List.mem_range.mp hi
  rw [az,ag Az]
  exact h _ (cq Az)
theorem zF{K:aj}{H:Hp}:∀ {vs:List V} {bs:List Bool} {bM:List Value},bF K H vs (bs.map D.bl)->Vals vs bM->bM=bs.map Bo
 | _,[],_,r,h=>by rw [bb] at r; rw [r.zero] at h; cases h; rfl
 | _,b :: bs,_,r,h=>by
  rw [au] at r
  cases r with
  | cons r1 r2 =>
   cases r1
   cases h with
   | cons h1 h2 =>
    cases h1
    rw [zF r2 h2]; rfl
theorem Kg{pins:List (Addr×Obj)}{s:aA}{σ:L2.St}{H:Hp}{G:Gp}{x:V}{d:D}{v:Value}{zs:List D}(I:Inv X pins σ H s)(ab:mw X.K H G)(rx:RelV x v)(rd:cX X.K H x d)(hi:itemsOf d G=some zs) :
  ∃ l vs bM,v=.ref l/\Vals vs bM/\bF X.K H vs zs/\(s.heap.IsList l bM.toArray\/s.heap.IsTuple l bM.toArray)/\vs.length<=bG:=by
 cases rd with
 | fG hq rs =>
  cases hi
  cases rx
  obtain⟨bM,rv,pl,hz⟩:=I.list hq.sq
  exact⟨_,_,bM,rfl,rv,rs,.inl pl.isList,hz⟩
 | tup hq rs =>
  cases hi
  cases rx
  obtain⟨bM,rv,pl,hz⟩:=I.tuple (.of hq)
  exact⟨_,_,bM,rfl,rv,rs,.inr pl,hz⟩
 | ref l =>
  unfold itemsOf at hi
  dsimp only at hi
  cases hg:G l with
  | none=>rw [hg] at hi; cases hi
  | some gg =>
   rw [hg] at hi
   cases gg with
   | lst ds =>
    cases hi
    cases rx
    obtain⟨vs,hv,rs⟩:=ab.lst hg
    obtain⟨bM,rv,pl,hz⟩:=I.list (.of hv)
    exact⟨_,_,bM,rfl,rv,rs,.inl pl.isList,hz⟩
   | iO _=>cases hi
 | _=>cases hi
theorem Og (hc:X.calm=true):qf X (.builtin "all") WA:=by
 intro pins s σ H G xs ds us Q I ab rx rd q
 unfold WA at q
 split at q
 ·rename_i x
  obtain⟨bs,hb,q⟩:=q
  obtain⟨v,rfl,r⟩:=rd.one
  obtain⟨u,rfl,ru⟩:=rx.one
  obtain⟨l,vs,bM,rfl,rv,rs,hl,hz⟩:=Kg I ab ru r hb
  have ei:=zF rs rv
  have hlen:bM.length=bs.length:=by rw [ei,ah]
  have kD:∀ {o:Obj},s.heap.get? l=some o->l≠s.heap.objs.size:=fun e=>bT (aQ e)
  have tr:TruthOf X.prog X.w X.A.in1 (fun i v=>bM.toArray[i]?=some v) (fun i=>bs.getD i true):=fun i v s' Q' E' hv hq=>by
   subst ei
   have UI:(bs.map Bo)[i]?=some v:=by simpa using hv
   rw [bA] at UI
   cases hbi:bs[i]? with
   | none=>rw [hbi] at UI; cases UI
   | some b =>
    rw [hbi] at UI
    cases UI
    dsimp only at hq
    rw [az,hbi] at hq
    exact og hq
  have fin:∀ h' tk,(∀ b o,b∉[s.heap.objs.size]->s.heap.get? b=some o->h'.get? b=some o)->sV X pins σ H G Q (.bool ((bq bM.toArray.size).all fun i=>bs.getD i true)) { s with heap:=h',toks:=tk }:=fun h' tk hk=>by
   rw [aZ,hlen,range_all]
   exact⟨.bl _,H,.bl _,G,I.kept fun b o e=>hk b o (by simpa using bT (aQ e)) e,.refl ab,rfl,.bl _,q⟩
  rcases hl with hl | hl
  ·refine call_all_walk (uA hl ?_)
   obtain⟨o,ho,Ks,n,hd⟩:=id hl
   exact⟨s.heap.objs.size,_,_,_,_,_,_,rfl,Walks.list (A:=X.A.in1) (show X.A.in1.handled=none from I.ok.hd hc) _ l (kD ho) bM.toArray,⟨⟨_,bx _ rfl,rfl,rfl⟩,⟨o,aN _ ho,Ks,n,hd⟩⟩,tr,fun h' tk hk=>fin h' tk fun b o hb e=>hk b o hb (aN _ e)⟩
  ·refine call_all_walk (wpAny_pyIter_tuple hl ?_)
   obtain⟨o,ho,Ks,n,hd⟩:=id hl
   exact⟨s.heap.objs.size,_,_,_,_,_,_,rfl,Walks.tuple (A:=X.A.in1) (show X.A.in1.handled=none from I.ok.hd hc) _ l (kD ho) bM.toArray,⟨⟨_,bx _ rfl,rfl,rfl⟩,⟨o,aN _ ho,Ks,n,hd⟩⟩,tr,fun h' tk hk=>fin h' tk fun b o hb e=>hk b o hb (aN _ e)⟩
 ·exact q.elim
theorem Vw{body:List Stmt}{t2:iT}(h:A8 X body t2){E:lP}(hE:Lk X E):Xf X body (fun D σ H=>∃ (τ:iH) (G:Gp) (D2:lX),OZ X.K H σ τ/\mw X.K H G/\t2 E D2 τ G /\
  (∀ jx H' nK G',Mv X.K H G H' G'->D2.nx nK G'->D.nx jx H')/\(∀ v H' d G',Mv X.K H G H' G'->cX X.K H' v d->D2.rt d G'->D.rt v H')/\(∀ τ G,¬ D2.bk τ G)/\(∀ τ G,¬ D2.ct τ G)):=by
 rintro pins s σ H D I ⟨τ,G,D2,st,ab,q,k1,k2,k3,k4⟩
 refine gN (h E pins s σ H τ G D2 hE ⟨I,st,ab⟩ q) fun f s1 z=>?_
 cases f with
 | next=>obtain⟨jx,H',nK,G',J,mv,z⟩:=z; exact⟨jx,H',J.inv,k1 jx H' nK G' mv z⟩
 | brk=>obtain⟨jx,H',nK,G',J,mv,z⟩:=z; exact(k3 _ _ z).elim
 | cont=>obtain⟨jx,H',nK,G',J,mv,z⟩:=z; exact(k4 _ _ z).elim
 | ret u=>obtain⟨v,jx,H',d,G',J,mv,r,rd,z⟩:=z; exact⟨v,jx,H',J,r,k2 v H' d G' mv rd z⟩
theorem PL{K:aj}{H:Hp}{Nn:List Str}{vs:List V}{ds:List D}(r:bF K H vs ds):OZ K H (L2.start Nn vs) (bU Nn.length ds):=by
 unfold L2.start bU
 refine⟨by simp [r.length],fun i d h=>?_⟩
 by_cases hi:i < ds.length
 ·rw [dG (by simpa using hi),bA] at h
  cases hd:ds[i]? with
  | none=>rw [hd] at h; cases h
  | some d' =>
   rw [hd] at h
   have e:d'=d:=by simpa using h
   subst e
   obtain⟨v,h1,h2⟩:=r.get hd
   refine⟨v,?_,h2⟩
   rw [dG (by simpa [r.length] using hi),bA,h1]; rfl
 ·rw [cC (by simpa using hi),gK] at h
  split at h <;> cases h
theorem TX{P:ck}{w:World}{K:aj}{mg:Str->Option Value}{base:Heap}{x qual:Str}{st:Stmt}{f:Addr}{fd:bc}{Nn ps:List Str}{k:Nat}{sp:oe}{rd:iT}(F:o3 K x qual st f fd)(S:cV Nn ps (aC st))(len:∀ ds G Q E,sp ds G Q E->ds.length=ps.length)
  (hr:∀ ds G Q,sp ds G Q (fun _ _=>False)->rd (fun _ _=>False) (ends Q) (bU Nn.length ds) G)
  (hb:∀ (so:Value) (A:eF) (outer:List Env) (s:aA) (H:Hp) (E:XK),nc k (A.deeper (Fj qual (aC st) s.heap.objs.size f so))->A8 (HV gX P w K mg base Nn qual (aC st) f so A outer s H E).WW (bD st) rd):dI P w K mg base gX (k+1) f fd ps (dN K sp):=by
 refine F.ok S ((by rintro vs H Q E ⟨ds,G,Q2,r,ab,q,_⟩; exact by rw [r.length]; exact len _ _ _ _ q)) ?_
 rintro so A outer s H vs Q E Yl ⟨ds,G,Q2,r,ab,q,kk⟩
 refine⟨_,Vw (hb so A outer s H E Yl) (E:=fun _ _=>False) (Lk.none fun _ _ z=>z),?_⟩
 exact⟨bU Nn.length ds,G,ends Q2,PL r,ab,hr ds G Q2 q,fun jx H' nK G' mv z=>kk _ _ _ _ z mv .du,fun v H' d G' mv Xy z=>kk _ _ _ _ z mv Xy,fun _ _ z=>z,fun _ _ z=>z⟩
noncomputable def abn(scope sc:Scope):List (Str×sX):=scope.names.map fun (n,k)=>if (k == .free&&sc.kind == .function&&sc.names.lookup n == some .cell) then (n,.cell) else (n,k)
noncomputable def yR(N:List Str)(scope:Scope)(m:Nat)(fr:List Nat)(sc:Scope)(XN:List Str):Bool :=
 scope.names.all (fun y=>decide (y.2≠.cell))&&decide (scope.kind=.function)&&scope.names.all (fun y=>!decide (y.2=.local)||decide (scope.names.lookup y.1=some .local)) &&
 scope.names.all (fun y=>!decide (y.2=.free)||decide (sc.names.lookup y.1=some .cell))&&decide (N.length=m+fr.length) &&
 (bq fr.length).all (fun j=>match fr[j]?,N[m+j]? with
  | some i,some x=>decide (XN[i]?=some x)&&decide (sc.names.lookup x=some .cell)&&decide ((abn scope sc).lookup x=some .cell)
  | _,_=>false)
theorem CU{sc:Scope}{XN:List Str}(Yi:X.env.scope=sc)(YG:X.N=XN)(hb:yR N scope m fr sc XN=true):Be X N scope m fr:=by
 subst Yi YG
 unfold yR at hb
 simp only [aP] at hb
 obtain⟨⟨⟨⟨⟨h1,h2⟩,h3⟩,h4⟩,h5⟩,h6⟩:=hb
 refine⟨fun y hy=>of_decide_eq_true (List.all_eq_true.mp h1 y hy),of_decide_eq_true h2,fun y hy hl=>?_,fun y hy hl=>?_,of_decide_eq_true h5,fun j i x e1 e2=>?_⟩
 ·have:=List.all_eq_true.mp h3 y hy
  simp only [hl,decide_true,bP,OL] at this
  exact of_decide_eq_true this
 ·have:=List.all_eq_true.mp h4 y hy
  simp only [hl,decide_true,bP,OL] at this
  exact of_decide_eq_true this
 ·have hj:j < fr.length:=(List.getElem?_eq_some_iff.mp e1).1
  have:=List.all_eq_true.mp h6 j (List.mem_range.mpr hj)
  rw [e1,e2] at this
  simp only [aP] at this
  exact⟨of_decide_eq_true this.1.1,of_decide_eq_true this.1.2,of_decide_eq_true this.2⟩
theorem iy(N:List Str){sc:Scope}{XN:List Str}(hi:RS X tg iter wi)(hg:∀ C s H fp,OX (eU X N scope C s H fp) tg g)(Wb:∀ C s H fp,WJ (eU X N scope C s H fp) ifs c)(he:∀ C s H fp,gW (eU X N scope C s H fp) elt te)
  (Yi:autoParam (X.env.scope=sc) Ar._auto_1) (YG:autoParam (X.N=XN) Ar._auto_1) (hb:autoParam (yR N scope m fr sc XN=true) Ak._auto_1) (hc:autoParam (X.calm=true) Ar._auto_1) (hs:autoParam (∀ x,kh iter X.env x=pure x) Ai._auto_1):gW X (.ListComp elt [⟨tg,iter,ifs,0⟩] scope pos) (eI m fr wi g c te) :=
 Nq hc (CU Yi YG hb) hi hg Wb he hs
theorem kW(N:List Str){sc:Scope}{XN:List Str}{i:Nat}{y:Str}{py PQ:Pos}(hN:X.N.Nodup)(hyi:X.N[i]?=some y)(hy:X.env.scope.names.lookup y=some .local)(hi:RS X tg iter wi)(hg:∀ C s H fp,OX (eU X N scope C s H fp) tg g)
  (Wb:∀ C s H fp,WJ (eU X N scope C s H fp) ifs c) (he:∀ C s H fp,gW (eU X N scope C s H fp) elt te) (Yi:autoParam (X.env.scope=sc) Ar._auto_1) (YG:autoParam (X.N=XN) Ar._auto_1) (hb:autoParam (yR N scope m fr sc XN=true) Ak._auto_1) (hc:autoParam (X.calm=true) Ar._auto_1)
  (Yh:autoParam (Fh (.ListComp elt [⟨tg,iter,ifs,0⟩] scope pos) (some (.Name y py)) PQ.line X.env=pure true) Ar._auto_1) (hs:autoParam (∀ x,kh iter X.env x=pure x) Ai._auto_1) :
  Jb X (.Assign [.Name y py] (.ListComp elt [⟨tg,iter,ifs,0⟩] scope pos) PQ) (bQ (eI m fr wi g c te) (aI i)) :=
 Ga hN hyi hy hc (CU Yi YG hb) hi hg Wb he Yh hs
theorem NI{K:aj}{H:Hp}{a:Addr}{ns:List Int}(hO:Uk H)(hS:qt K H a (ns.map V.int))(hl:ns.length<=63):dN K B9 [.ref a] H (fun v _=>v=.bl true) fun _ _ _=>False:=by
 have hF:Xe K H a (ns.map V.int):=by
  rcases hS with (h | ⟨o,h⟩) | h
  ·rcases hO a with z | ⟨o,xs,z⟩
   ·rw [z] at h; cases h
   ·rw [z] at h; cases h
  ·exact .inl ⟨o,h⟩
  ·exact .inr h
 refine⟨[.fG (ns.map D.int)],fun _=>none,fun d _=>d=.bl true,.cons (.fG hF (bF.DW ns)) .nil,fun a g e=>(by cases e),⟨ns,rfl,hl,fun _=>rfl,fun _=>rfl⟩,fun d G' v H' e mv r=>?_⟩
 subst e
 cases r
 rfl
theorem QA{l:C7}{q:ck}{loose:List Str}{XP:(Str->Option Value)->Heap->Prop}{YP:World->Heap->Prop}{d:DefRec}{K:Params->aj}{k:Nat}{x:Str}(hn:l.most=some 63)(YB:d.params.defaults=[])(hr:nc k Jg)
  (hY:∀ (w:World) (h:Heap),YP w h->(K w.params).In h)
  (F:∀ (w:World) (mg:Str->Option Value) (fa:Addr) (h:Heap),(K w.params).In h->h.Ns aY mg->mg d.name=some (.ref fa) ->
   ∃ fd:bc,(∀ (s:aA) (u:Value),Ph s fd ⟨[u],[]⟩ [(x,u)])/\∀ base:Heap,(K w.params).In base->base.Ns aY mg->dI l.prog w (K w.params) mg base gX k fa fd [x] (dN (K w.params) B9)) :
  PySem.W.WalkO q loose XP YP l.row.toRowW d [] (fun f vs=>Le f vs) :=
 L2.SH (n:=63) (k:=k) (x:=x) (CX:=fun _=>gX) (sp:=fun w=>dN (K w.params) B9) hn (by decide) YB hr hY F (fun _ _ _ _ hl hO hS=>NI hO hS hl) fun _ _ _ _ _ z=>z
end
end K2
end
section
namespace K2
open PySem PySem.Spec PyProof.Rows L2
noncomputable def KR:HO->Bool
 | .lst _=>true
 | .dK _=>true
 | .dT _=>true
 | _=>false
noncomputable def lN(h:Heap)(S:Addr->Bool)(H:Hp):Hp:=fun a=>match H a with
 | some u=>if (KR u&&S a)=true then (match h.get? a with
  | some o=>some (.lW o u)
  | none=>some u) else some u
 | none=>none
section
variable {h:Heap} {S:Addr->Bool} {H:Hp} {a:Addr}
theorem Kx(n:∀ u,H a=some u->KR u=false):lN h S H a=H a:=by
 unfold lN
 cases e:H a with
 | none=>rfl
 | some u=>simp only [n u e,yd,aF,if_false]
theorem vM(hs:S a=false):lN h S H a=H a:=by
 unfold lN
 cases e:H a with
 | none=>rfl
 | some u=>simp only [hs,ye,aF,if_false]
theorem si{u:HO}{o:Obj}(hs:S a=true)(e:H a=some u)(hu:KR u=true)(ho:h.get? a=some o):lN h S H a=some (.lW o u):=by
 unfold lN
 simp only [e,hs,hu,Bool.and_self,if_true,ho]
theorem oS(e:H a=none):lN h S H a=none:=by unfold lN; rw [e]
theorem oa{u:HO}(e:H a=some u)(hu:KR u=false):lN h S H a=some u:=by rw [Kx (fun v z=>by rw [e] at z; cases z; exact hu)]; exact e
theorem sg:Kp H (lN h S H):=⟨fun a xs e=>oa e rfl,fun a o u e=>oa e rfl⟩
end
section
variable {X:Cx} {pins:List (Addr×Obj)} {σ:L2.St} {H:Hp} {s:aA} {G:Gp}
theorem Inv.freeze(I : Inv X pins σ H s)(S : Addr → Bool) : Inv X pins σ (lN s.heap S H) s where
  ok := I.ok
  os := I.os
  bare := I.bare
  base := { keep := I.base.keep, slot := I.base.slot, there := I.base.there
            free := fun b o q n hx => oS (I.base.free b o q n hx)
            wB := fun b xs q => oa (I.base.wB b xs q) rfl
            vL := fun b o u q => oa (I.base.vL b o u q) rfl
            wC := fun b ps q => by
              obtain⟨more, e⟩ := I.base.wC b ps q
              exact⟨more, oa e rfl⟩ }
  loc := I.loc
  cell := I.cell
  free := oS I.free
  mT := fun x c e => oS (I.mT x c e)
  pin := fun p hp => let ⟨h1, h2, h3⟩ := I.pin p hp; ⟨h1, oS h2, h3⟩
  cT := fun a o q => by
    have st : ∀ u, H a = some u → hX X.prog X.w (lN s.heap S H) s.heap a u := fun u e =>
      (I.cT a u e).nA (fun b v _ r => r) (fun b r => oa r rfl) (fun b xs r => oa r rfl)
    cases e : H a with
    | none => rw [oS e] at q; cases q
    | some u =>
      by_cases hc : KR u = true
      · by_cases hs : S a = true
        · obtain⟨ob, ho⟩ := kB (I.cT a _ e)
          rw [si hs e hc ho] at q
          cases q
          exact⟨ho, st _ e⟩
        · rw [vM (by simpa using hs), e] at q
          cases q
          exact st _ e
      · rw [oa e (by simpa using hc)] at q
        cases q
        exact st _ e
  len := I.len
noncomputable def jj(R:Nat->Bool)(G:Gp):Addr->Bool:=fun a=>R a&&(G a).isSome
theorem CI(I:Inv X pins σ H s)(ab:mw X.K H G)(R:Nat->Bool):Mv X.K H G (lN s.heap (jj R G) H) (HP R G) where
 keep:=fun a o e n=>by
  refine⟨by rw [vM (by simp [jj,n])]; exact e,?_⟩
  unfold HP; split
  ·rfl
  ·exact n
 nA:=fun a n=>by
  cases q:G a with
  | none=>exact absurd q n
  | some g =>
   have t:=(ab a g q).tracked
   cases e:H a with
   | none=>exact absurd e t
   | some u =>
    unfold lN
    rw [e]
    dsimp only
    split
    ·split <;> simp
    ·simp
 ab:=fun a g e=>by
  unfold HP at e
  split at e
  ·cases e
  ·rename_i hr
   exact(ab a g e).mono sg (vM (by simp [jj,hr]))
theorem Kv(I:Inv X pins σ H s)(ab:mw X.K H G){R:Nat->Bool}:∀ {d t:D} {v:V},Fz G R d t->cX X.K H v d->cX X.K (lN s.heap (jj R G) H) v t:=by
 intro d t v h
 revert v
 refine Fz.rec (motive_1:=fun d t _=>∀ {v:V},cX X.K H v d->cX X.K (lN s.heap (jj R G) H) v t)
  (motive_2:=fun ds ts _=>∀ {vs:List V},bF X.K H vs ds->bF X.K (lN s.heap (jj R G) H) vs ts)
  (motive_3:=fun ds ts _=>(∀ {vs:List (Key×V)},oA X.K H vs ds->oA X.K (lN s.heap (jj R G) H) vs ts)/\∀ {vs:List (List Key×V)},lQ X.K H vs ds->lQ X.K (lN s.heap (jj R G) H) vs ts)
  ?_ ?_ ?_ ?_ ?_ ?_ ?_ ?_ ?_ h
 ·intro d v r; exact r.mono sg
 ·intro ds ss _ ih v r
  cases r with
  | tup h rs=>exact .tup (sg.tup _ _ h) (ih rs)
 ·intro ds ss _ ih v r
  cases r with
  | fG h rs=>exact .fG (sg.Vh h) (ih rs)
 ·intro a ds ss g hr _ ih v r
  cases r
  obtain⟨vs,hv,rs⟩:=ab a _ g
  obtain⟨ob,ho⟩:=kB (I.cT a _ hv)
  exact .fG (.inl ⟨_,si (by simp [jj,hr,g]) hv rfl ho⟩) (ih rs)
 ·intro a ds ss g hr _ ih v r
  cases r
  rcases ab a _ g with ⟨kv,hv,rs⟩ | ⟨kv,hv,rs⟩
  ·obtain⟨ob,ho⟩:=kB (I.cT a _ hv)
   exact .oK (si (by simp [jj,hr,g]) hv rfl ho) (ih.1 rs)
  ·obtain⟨ob,ho⟩:=kB (I.cT a _ hv)
   exact .oJ (si (by simp [jj,hr,g]) hv rfl ho) (ih.2 rs)
 ·intro vs r; cases r; exact .nil
 ·intro d s ds ss _ _ i1 i2 vs r
  cases r with
  | cons r rs=>exact .cons (i1 r) (i2 rs)
 ·exact⟨fun r=>by cases r; exact .nil,fun r=>by cases r; exact .nil⟩
 ·intro k d s ds ss _ _ i1 i2
  exact⟨fun r=>by cases r with | cons r rs=>exact .cons (i1 r) (i2.1 rs),fun r=>by cases r with | cons r rs=>exact .cons (i1 r) (i2.2 rs)⟩
variable {e:Expr} {te:gI} {st:Stmt} {t:iT}
theorem cU(he:gW X e te):gW X e (gz te):=by
 intro E pins s σ H τ G Q hE I h
 refine gN (he E pins s σ H τ G _ hE I h) ?_
 rintro u s1 ⟨v,H1,d,G1,I1,m,r,rd,R,t,hf,q⟩
 exact⟨v,_,t,_,Inv.freeze I1 _,m.trans (CI I1 m.ab R),r,Kv I1 m.ab hf rd,q⟩
theorem Td{i:Nat}(h1:Jb X st t):Jb X st (Ws i t):=by
 intro E pins s σ H τ G D hE I h
 refine gN (h1 E pins s σ H τ G _ hE I h) fun f s1 z=>?_
 cases f with
 | next =>
  obtain⟨jx,H',nK,G',I',m,q⟩:=z
  simp only at q
  split at q
  ·rename_i d hd
   obtain⟨R,t,hf,q⟩:=q
   obtain⟨v,hv,rv⟩:=I'.st.at' i d hd
   have a1:=(I'.st.mono (H':=lN s1.heap (jj R G') H') sg).set i (Kv I'.inv I'.ab hf rv)
   have es:jx.set i (some v)=jx:=by
    have hi:i < jx.length:=(List.getElem?_eq_some_iff.mp hv).1
    have e2:=(List.getElem?_eq_some_iff.mp hv).2
    rw [← e2]; exact List.set_getElem_self hi
   rw [es] at a1
   have m2:=CI I'.inv I'.ab R
   exact⟨jx,_,_,_,⟨Inv.freeze I'.inv _,a1,m2.ab⟩,m.trans m2,q⟩
  ·exact q.elim
 | ret v=>exact z
 | brk=>exact z
 | cont=>exact z
end
end K2
end
section
namespace K2
open PySem PySem.Spec PyProof.Rows L2
theorem kI:eR "len" = some (.builtin "len"):=by decide +kernel
theorem WD:eR "sum" = some (.builtin "sum"):=by decide +kernel
theorem WE:eR "all" = some (.builtin "all"):=by decide +kernel
theorem CW:eR "sorted" = some (.builtin "sorted"):=by decide +kernel
theorem yU:eR "list" = some (.type "list"):=by decide +kernel
theorem EH:eR "int" = some (.type "int"):=by decide +kernel
theorem Uc:eR "bool" = some (.type "bool"):=by decide +kernel
section
variable {X:Cx} {a b c e o:Expr} {es:List Expr} {ta tb tc te to:gI} {t:Iy} {pos p p2 apos jR:Pos} {x name:Str} {id T:String} {k:Nat} {f:Addr} {fd:bc} {ps:List Str} {sp:oe}
theorem bX(F:dI X.prog X.w X.K X.mg X.base gX k f fd ps (dN X.K sp))(hr:nc k X.A)(hg:Gl X x)(hm:X.mg x=some (.ref f))(hk:aB X.K (.ref f)=true)(hb:Binds X.K fd ps [])
  (ha:K3 X (e :: es) t) (N0:autoParam ((x == ("__debug__" : Str))=false) Ad._auto_1) (he:autoParam (cB (e :: es) X.env=(false,eval e X.env) :: cB es X.env) Ar._auto_1) (Kr:autoParam ((kS pos (cB es X.env)).any (·.1)=false) Ar._auto_1) :
  gW X (.Call (.Name x p) (e :: es) [] pos) (cz sp t):=Qi F hr hg hm hk hb ha N0 he Kr
end
end K2
end
section
namespace L2
open PySem PySem.Spec PyProof.Rows
section
variable {X:Cx} {pins:List (Addr×Obj)} {σ:St} {H:Hp} {s:aA} {h':Heap}
theorem Inv.uK{t':Nat}{fp:List Addr}(I:Inv X pins σ H s)(hf:∀ b∈fp,nI X pins H b)(k:∀ b o,b∉fp->s.heap.get? b=some o->h'.get? b=some o):Inv X pins σ H { s with heap:=h',toks:=t' }:=by
 have nt:∀ b u,H b=some u->b∉fp:=fun b u e z=>by rw [(hf b z).1] at e; cases e
 refine I.step (g':=s.gens) (d':=s.drawn) (ch:=fp) (fun b hb=>?_) (fun b o _ _ hc e _=>k b o hc e) (fun b o _ _ hc e _=>⟨o.slots,k b o hc e⟩) (fun _ _ _ _ n=>n)
  (fun b o hc e=>⟨o,k b o hc e⟩) (fun _ _ e=>e) (fun _ _ _ e=>e) (fun b ps e=>⟨#[],by rw [e]; simp⟩) (fun m hm=>?_) (fun b u e=>?_) I.bare
 ·obtain⟨f0,f1,f2,f3,f4,f5⟩:=hf b hb
  exact⟨f3,f1,f4,f5⟩
 ·obtain⟨o,es,ep,ho,r⟩:=hm
  exact⟨o,es,ep,k _ _ (fun z=>(hf _ z).2.1 rfl) ho,r⟩
 ·refine(I.cT b u e).nA (fun c v hc r=>k c v ?_ r) (fun _ z=>z) (fun _ _ z=>z)
  rcases hc with rfl | hc
  ·exact nt _ _ e
  ·exact nt _ _ hc
theorem Inv.Dp{t':Nat}{fp:List Addr}{T:Addr}{vs:List V}(I:Inv X pins σ H s)(hf:∀ b∈fp,nI X pins H b)(k:∀ b o,b∉fp->s.heap.get? b=some o->h'.get? b=some o)(hT:s.heap.objs.size<=T)
  (new:hX X.prog X.w (upd H T (.tup vs)) h' T (.tup vs)):Inv X pins σ (upd H T (.tup vs)) { s with heap:=h',toks:=t' }:=by
 have hn:H T=none:=I.cT.fresh hT
 have ht:∀ b o,s.heap.get? b=some o->b≠T:=fun b o e z=>by subst z; exact absurd (aQ e) (Nat.not_lt.mpr hT)
 have nt:∀ b u,H b=some u->b∉fp:=fun b u e z=>by rw [(hf b z).1] at e; cases e
 have ne:∀ b u,H b=some u->b≠T:=fun b u e=>fA e hn
 refine I.step (g':=s.gens) (d':=s.drawn) (ch:=fp) (fun b hb=>?_) (fun b o _ _ hc e _=>k b o hc e) (fun b o _ _ hc e _=>⟨o.slots,k b o hc e⟩) (fun b o _ e n=>by rw [cu (ht b o e)]; exact n)
  (fun b o hc e=>⟨o,k b o hc e⟩) (fun b xs e=>by rw [cu (ne _ _ e)]; exact e) (fun b o u e=>by rw [cu (ne _ _ e)]; exact e) (fun b ps e=>⟨#[],by rw [cu (ne _ _ e),e]; simp⟩) (fun m hm=>?_) (fun b u e=>?_) I.bare
 ·obtain⟨f0,f1,f2,f3,f4,f5⟩:=hf b hb
  exact⟨f3,f1,f4,f5⟩
 ·obtain⟨o,es,ep,ho,r⟩:=hm
  exact⟨o,es,ep,k _ _ (fun z=>(hf _ z).2.1 rfl) ho,r⟩
 ·by_cases hb:b=T
  ·subst hb; rw [dj] at e; cases e; exact new
  ·rw [cu hb] at e
   refine(I.cT b u e).nA (fun c v hc r=>k c v ?_ r) (fun c z=>by rw [cu (ne _ _ z)]; exact z) (fun c xs z=>by rw [cu (ne _ _ z)]; exact z)
   rcases hc with rfl | hc
   ·exact nt _ _ e
   ·exact nt _ _ hc
theorem nI.upd{b T:Addr}{o:HO}(h:nI X pins H b)(hb:b≠T):nI X pins (L2.upd H T o) b:=by
 obtain⟨f0,r⟩:=h
 exact⟨by rw [cu hb]; exact f0,r⟩
end
noncomputable def Ite(K:aj)(a:Addr):It :=
  ⟨fun i H=>∃ xs x,qt K H a xs/\xs[i]?=some x,
   fun i H v H'=>∃ T y,v=.ref T/\H T=none/\H'=upd H T (.tup [.int i,y])/\∀ xs,qt K H a xs->xs[i]?=some y,
   fun i H=>∃ xs,qt K H a xs/\xs.length<=i⟩
theorem MV{P:ck}{w:World}{K:aj}{elts:List Expr}{kk:Nat}{pos:Pos}(a e it:Addr)(kD:e≠it) :
  Turn P w K (.Tuple elts kk pos) (Ite K a) [e,it] e (fun i h=>(∃ old,IsEnum h e it i old)/\h.IsListIter it a i) where
 mem:=by simp
 obj:=fun i h Mh b hb=>by
  obtain⟨⟨old,he⟩,hit⟩:=Mh
  rcases List.mem_cons.mp hb with rfl | hb
  ·exact⟨_,he,fun v z=>by cases z⟩
  ·have e:b=it:=by simpa using hb
   subst e
   obtain⟨o,e,c,d⟩:=hit
   exact⟨o,e,fun v z=>by rw [d] at z; cases z⟩
 keep:=(by rintro i h h' ⟨⟨old,he⟩,hit⟩ k; exact⟨⟨old,k e (by simp) _ he⟩,hit.at fun o q=>k it (by simp) o q⟩)
 item:=by
  intro X hP hw hK hc i pins s σ H E I hf st hg
  obtain⟨⟨old,he⟩,hit⟩:=st
  subst hP hw hK
  obtain⟨xs,x,hq,hx⟩:=hg
  obtain⟨bM,rv,p,hz⟩:=I.list hq
  obtain⟨u,hu,ru⟩:=rv.get hx
  have YH:H s.heap.objs.size=none:=I.cT.fresh (aM _)
  have heT:e≠s.heap.objs.size:=bT (aQ he)
  have hiT:it≠s.heap.objs.size:=by obtain⟨o,q,_⟩:=hit; exact bT (aQ q)
  refine wpAny_pyNext_enum_item he hit p.isList (x:=u) (by simpa using hu) kD fun h' ho aeJ hT hsz kk=>?_
  refine⟨_,rfl,?_⟩
  have I1:Inv X pins σ (upd H s.heap.objs.size (.tup [.int i,x])) { s with heap:=h',toks:=s.toks+1 } :=
   I.Dp (fp:=[e,it]) hf (fun b o hb q=>kk b o (fun z=>hb (by simp [z])) (fun z=>hb (by simp [z])) q) (aM _)
    ⟨by show 2<=bG; decide,[.int i s.toks,u],.cons ⟨_,rfl⟩ (.cons ru .nil),⟨_,hT,rfl,_,rfl⟩⟩
  refine wpAny_letOwnedTupleGo_enum (s:={ s with heap:=h',toks:=s.toks+1 }) ho fun h2 Yz BJ=>?_
  have f1:∀ b∈[e,it],nI X pins (upd H s.heap.objs.size (.tup [.int i,x])) b:=fun b hb=>(hf b hb).upd (by
   rcases List.mem_cons.mp hb with rfl | hb
   ·exact heT
   ·rw [List.mem_singleton.mp hb]; exact hiT)
  have I2:Inv X pins σ (upd H s.heap.objs.size (.tup [.int i,x])) { s with heap:=h2,toks:=s.toks+1 } :=
   Inv.uK (s:={ s with heap:=h',toks:=s.toks+1 }) (t':=s.toks+1) (fp:=[e,it]) I1 f1 fun b o hb q=>(BJ.2 b (fun z=>hb (by simp [z]))).trans q
  refine⟨.ref s.heap.objs.size,_,I2,rfl,⟨_,x,rfl,YH,rfl,fun ys hy=>by rw [I.vw hy hq]; exact hx⟩,⟨⟨u,?_⟩,?_⟩,fun b hb=>(f1 b hb).1⟩
  ·simpa using Yz
  ·exact aeJ.at fun o q=>(BJ.2 it (eC kD)).trans q
 done:=by
  intro X hP hw hK hc i pins s σ H E I hf st hg
  obtain⟨⟨old,he⟩,hit⟩:=st
  subst hP hw hK
  obtain⟨xs,hq,hx⟩:=hg
  obtain⟨bM,rv,p,hz⟩:=I.list hq
  have hl:=rv.length
  refine wpAny_pyNext_enum_end (I.ok.hd hc) he hit p.isList (by simp; lia) fun h' eb=>⟨rfl,?_⟩
  exact I.uK (t':=s.toks) (fp:=[e,it]) hf fun b o hb q=>eb b o (fun z=>hb (by simp [z])) q
 self:=(by rintro A i s Q E ⟨⟨old,he⟩,_⟩ h; exact wpAny_pyIter_enum he h)
end L2
namespace K2
open PySem PySem.Spec PyProof.Rows L2
section
variable {X:Cx} {elts:List Expr} {kk:Nat} {JA:Pos} {a b:Expr} {ta tb:gI} {pos p:Pos}
theorem Mq{pins:List (Addr×Obj)}{σ:L2.St}{H H1:Hp}{G G1:Gp}{s1:aA}{l:Addr}{vs:List V}{ds:List D}{ok:Gp->Prop}{R:List D->(Gp->Prop)->Gp->Prop}(I1:Inv X pins σ H1 s1)(m:Mv X.K H G H1 G1)(hq:qt X.K H1 l vs)
  (hk:∀ H2 G2,Kp H1 H2->mw X.K H2 G2->ok G2->∃ ws,qt X.K H2 l ws/\bF X.K H2 ws ds) (q:R (lg 0 ds) ok G1) :
  wpAny (model X.prog X.w) X.A (call (.type "enumerate") [.ref l]) (fun v s2=>wpAny (model X.prog X.w) X.A (BX v) (K1 X pins σ (.Tuple elts kk JA) H G R) X.xe s2) X.xe s1:=by
 obtain⟨bM,rv,pl,hz⟩:=I1.list hq
 refine call_enumerate_list pl.isList fun h' he hit hsz kp=>?_
 refine wpAny_pyIter_enum he ?_
 refine⟨_,[s1.heap.objs.size+1,s1.heap.objs.size],_,_,H1,G1,lg 0 ds,ok,rfl,I1.kept (t':=s1.toks) kp,m,MV l _ _ (Nat.succ_ne_self _),⟨⟨_,he⟩,hit⟩,fun b hb=>?_,fun i H2 G2 k ab o=>?_,q⟩
 ·have Hs:s1.heap.objs.size<=b:=by
   rcases List.mem_cons.mp hb with rfl | hb
   ·lia
   ·rw [List.mem_singleton.mp hb]; exact aM _
  exact I1.Hx Hs (I1.cT.fresh Hs)
 ·obtain⟨ws,hw,rd⟩:=hk H2 G2 k ab o
  refine⟨fun d hd=>?_,fun hl=>⟨ws,hw,by rw [rd.length,← CL ds 0]; exact hl⟩⟩
  rw [CM] at hd
  cases hdi:ds[i]? with
  | none=>rw [hdi] at hd; cases hd
  | some d' =>
   rw [hdi] at hd
   obtain⟨v,hv,r⟩:=rd.get hdi
   refine⟨⟨ws,v,hw,hv⟩,?_⟩
   rintro x H3 ⟨T,y,ex,hT,e3,hy⟩
   subst ex e3
   have:=hy ws hw
   rw [hv] at this
   cases this
   have ed:D.tup [.int ((0+i:Nat):Int),d']=d:=by simpa using hd
   subst ed
   refine⟨.tup dj (.cons (by rw [fT]; exact .int _) (.cons (r.mono (.new hT)) .nil)),.OR ab hT⟩
theorem EI:eR "enumerate" = some (.type "enumerate"):=by decide +kernel
theorem WC:eR "zip" = some (.type "zip"):=by decide +kernel
theorem qX (hg:Gl X "enumerate") (hm:X.mg "enumerate" = none) (ha:gW X a ta) (hs:autoParam (cB [a] X.env=[(false,eval a X.env)]) Ar._auto_1):RS X (.Tuple elts kk JA) (.Call (.Name "enumerate" p) [a] [] pos) (rz ta):=by
 intro E pins s σ H τ G R hE I h
 have hA:K3 X [a] (aK ta bL):=ax ha aR hs
 refine Call_ (om I.inv hg hm EI (fu (Ds hA pos hE I (R:=ab0 fun x G1=>vG x G1 R) h fun vs H1 ds G1 us s1 I1 m1 r1 jV q1=>?_) hs rfl))
 match ds,q1 with
 | [x],q1 =>
  change vG x G1 R at q1
  obtain⟨w,rfl,DC⟩:=jV.one
  obtain⟨u,rfl,ru⟩:=r1.one
  cases DC with
  | fG hq rs=>cases ru; exact Mq I1.inv m1 hq.sq (fun H2 G2 k ab _=>⟨_,(k.Vh hq).sq,rs.mono k⟩) q1
  | ref p =>
   cases ru
   unfold vG at q1
   dsimp only at q1
   split at q1
   ·rename_i ds e
    obtain⟨vs,hv,rs⟩:=I1.ab.lst e
    refine Mq I1.inv m1 (.of hv) (fun H2 G2 k ab o=>?_) q1
    obtain⟨ws,hw,tK⟩:=ab.lst o
    exact⟨ws,.of hw,tK⟩
   ·exact q1.elim
  | tup _ _=>exact q1.elim
  | oK _ _=>exact q1.elim
  | oJ _ _=>exact q1.elim
  | du=>exact q1.elim
  | bl _=>exact q1.elim
  | int _=>exact q1.elim
  | str _=>exact q1.elim
  | exc _=>exact q1.elim
 | [],q1=>exact q1.elim
 | _ :: _ :: _,q1=>exact q1.elim
end
end K2
end
section
namespace K2
open PySem PySem.Spec PyProof.Rows L2
section
variable {X:Cx} {o i a b:Expr} {to ti ta tb:gI} {pos p:Pos}
theorem jJ(hu:X.A.units+64 < cLine)(ho:gW X o to)(hi:gW X i ti)
  (ha:autoParam (∀ v,Pa (.Subscript o i pos) X.env v=(do
   let ov ← O8 [v] (eval o X.env)
   let iv ← O8 [v,ov] (eval i X.env)
   standAt pos
   O8 [v,ov,iv] (setItem ov iv v)
   release [v,ov,iv] [])) Ai._auto_1):OX X (.Subscript o i pos) (mR to ti):=by
 intro E pins s σ H τ G w d u Q hE I r rd h
 rw [ha]
 refine af (fF (kn ho hE I h fun x H1 dx G1 ov s1 I1 m1 r1 jV q1=>?_))
 refine af (fF (kn hi hE I1 q1 fun y H2 dy G2 iv s2 nh m2 r2 yA q2=>?_))
 refine af (wpAny_standAt (af (fF ?_)))
 have ZW:=m1.trans m2
 have ZP:=rd.mono (ZW.kp I.ab)
 have B8:=I.st.mono (ZW.kp I.ab)
 have rx':=jV.mono (m2.kp I1.ab)
 unfold uQ at q2
 split at q2
 ·rename_i l
  cases rx'
  cases r1
  split at q2
  ·rename_i xs hg
   obtain⟨vs,hv,rs⟩:=nh.ab.lst hg
   split at q2
   ·rename_i k
    cases yA
    split at q2
    ·rename_i j hj
     have m3:Mv X.K H2 G2 (upd H2 l (.lst (vs.set j w))) (fK G2 l (.lst (xs.set j d))):=.putL nh.ab hg hv (rs.set ZP j)
     refine gN (set_list pins s2 σ H2 (.ref l) (.int k) w _ _ _ (fun H3=>H3=upd H2 l (.lst (vs.set j w))) nh.inv rfl r2 r ⟨l,vs,k,j,rfl,rfl,hv,?_,rfl⟩) ?_
     ·rw [rs.length]; exact hj
     ·rintro _ s3 ⟨H3,I3,e3⟩
      subst e3
      exact wpAny_release ⟨σ,_,τ,_,⟨I3,B8.mono (m3.kp nh.ab),m3.ab⟩,ZW.trans m3,q2⟩
    ·exact q2.elim
   ·exact q2.elim
  ·rename_i kvs hg
   obtain⟨hk,hz,q⟩:=q2
   obtain⟨H3,H4,I3,dp,m3⟩:=Rw nh.inv nh.ab hg hk hz yA ZP
   exact Od (by lia) I3 dp r2 r fun s4 I4=>wpAny_release ⟨σ,H4,τ,_,⟨I4,B8.mono (m3.kp nh.ab),m3.ab⟩,ZW.trans m3,q⟩
  ·exact q2.elim
 ·exact q2.elim
end
end K2
end
section
namespace L2
open PySem PySem.Spec PyProof.Rows
theorem uO{X:Cx}{pins:List (Addr×Obj)}{σ:St}{H:Hp}{s:aA}{l b:Addr}{xs:List V}(I:Inv X pins σ H s)(hq:qt X.K H l xs)(hf:nI X pins H b):l≠b:=by
 rintro rfl
 obtain⟨f0,f1,f2,f3,f4,f5⟩:=hf
 rcases hq with (h | ⟨o,h⟩) | ⟨o,bM,n,h,_⟩
 ·rw [f0] at h; cases h
 ·rw [f0] at h; cases h
 ·have hb:=I.ok.mod.V0 _ _ h
  rcases f3 with f3 | f3
  ·exact I.ok.Nx _ _ hb f3
  ·exact absurd (aQ (I.ok.bs _ _ hb).1) (Nat.not_lt.mpr f3)
noncomputable def Itz(K:aj)(a b:Addr):It :=
  ⟨fun i H=>∃ xs x ys y,qt K H a xs/\xs[i]?=some x/\qt K H b ys/\ys[i]?=some y,
   fun i H v H'=>∃ T x y,v=.ref T/\H T=none/\H'=upd H T (.tup [x,y])/\(∀ xs,qt K H a xs->xs[i]?=some x)/\∀ ys,qt K H b ys->ys[i]?=some y,
   fun i H=>∃ xs ys,qt K H a xs/\qt K H b ys/\(xs.length<=i\/ys.length<=i)⟩
structure Zy(z TI TO i1 i2 a b:Addr)(i:Nat)(h:Heap):Prop where
 hz:IsZip h z TI TO .none
 hI:IsPair h TI (.ref i1) (.ref i2)
 hO:∃ x y,IsPair h TO x y
 h1:h.IsListIter i1 a i
 h2:h.IsListIter i2 b i
theorem PA{P:ck}{w:World}{K:aj}{elts:List Expr}{kk:Nat}{pos:Pos}(a b z TI TO i1 i2:Addr)(nd:[z,TI,TO,i1,i2].Nodup) :
  Turn P w K (.Tuple elts kk pos) (Itz K a b) [z,TI,TO,i1,i2] z (Zy z TI TO i1 i2 a b) where
 mem:=by simp
 obj:=fun i h st c hc=>by
  simp only [gh,gy,or_false] at hc
  rcases hc with rfl | rfl | rfl | rfl | rfl
  ·exact⟨_,st.hz,fun v q=>by cases q⟩
  ·exact⟨_,st.hI,fun v q=>by cases q⟩
  ·obtain⟨x,y,h⟩:=st.hO; exact⟨_,h,fun v q=>by cases q⟩
  ·obtain⟨o,e,_,d⟩:=st.h1; exact⟨o,e,fun v q=>by rw [d] at q; cases q⟩
  ·obtain⟨o,e,_,d⟩:=st.h2; exact⟨o,e,fun v q=>by rw [d] at q; cases q⟩
 keep:=fun i h h' st k=>⟨k _ (by simp) _ st.hz,k _ (by simp) _ st.hI,let ⟨x,y,q⟩:=st.hO; ⟨x,y,k _ (by simp) _ q⟩,st.h1.at fun o q=>k _ (by simp) o q,st.h2.at fun o q=>k _ (by simp) o q⟩
 item:=by
  intro X hP hw hK hc i pins s σ H E I hf st hg
  subst hP hw hK
  obtain⟨xs,x,ys,y,Sh,hx,Sg,hy⟩:=hg
  obtain⟨Yc,ZM,p1,hz1⟩:=I.list Sh
  obtain⟨wU,PV,p2,hz2⟩:=I.list Sg
  obtain⟨u1,hu1,ru1⟩:=ZM.get hx
  obtain⟨u2,hu2,Xu⟩:=PV.get hy
  obtain⟨xo,yo,hO⟩:=st.hO
  have ap:∀ c∈[z,TI,TO,i1,i2],a≠c/\b≠c:=fun c hc=>⟨uO I Sh (hf c hc),uO I Sg (hf c hc)⟩
  simp only [cD,gh,gy,or_false,not_or] at nd
  obtain⟨⟨n1,n2,n3,n4⟩,⟨n5,n6,n7⟩,⟨n8,n9⟩,n10,_⟩:=nd
  have Dz:ZipApart z TI TO i1 i2 a b:=⟨eC n1,eC n2,eC n3,eC n4,n5,n6,n7,n8,n9,n10,(ap z (by simp)).1,(ap TO (by simp)).1,(ap i1 (by simp)).1,(ap i2 (by simp)).1,(ap z (by simp)).2,(ap TO (by simp)).2,(ap i1 (by simp)).2,(ap i2 (by simp)).2⟩
  have YH:H s.heap.objs.size=none:=I.cT.fresh (aM _)
  have inH:∀ c∈[z,TI,TO,i1,i2],c≠s.heap.objs.size:=fun c hc=>by
   simp only [gh,gy,or_false] at hc
   rcases hc with rfl | rfl | rfl | rfl | rfl
   ·exact bT (aQ st.hz)
   ·exact bT (aQ st.hI)
   ·exact bT (aQ hO)
   ·obtain⟨o,e,_⟩:=st.h1; exact bT (aQ e)
   ·obtain⟨o,e,_⟩:=st.h2; exact bT (aQ e)
  refine wpAny_pyNext_zip_item Dz st.hz st.hI hO st.h1 st.h2 p1.isList p2.isList (x:=u1) (y:=u2) (by simpa using hu1) (by simpa using hu2) fun h' a1 a2 a3 a4 a5 a6 a7=>?_
  refine⟨_,rfl,?_⟩
  have k1:∀ c o,c∉[z,TI,TO,i1,i2]->s.heap.get? c=some o->h'.get? c=some o:=fun c o hc q =>
   a7 c o (fun e=>hc (by simp [e])) (fun e=>hc (by simp [e])) (fun e=>hc (by simp [e])) (fun e=>hc (by simp [e])) q
  have I1:Inv X pins σ (upd H s.heap.objs.size (.tup [x,y])) { s with heap:=h' } :=
   I.Dp (t':=s.toks) (fp:=[z,TI,TO,i1,i2]) hf k1 (aM _) ⟨by show 2<=bG; decide,[u1,u2],.cons ru1 (.cons Xu .nil),⟨_,a5,rfl,_,rfl⟩⟩
  refine wpAny_letOwnedTupleGo_zip (s:={ s with heap:=h' }) a1 fun h2 hz2 BJ=>?_
  have f1:∀ c∈[z,TI,TO,i1,i2],nI X pins (upd H s.heap.objs.size (.tup [x,y])) c:=fun c hc=>(hf c hc).upd (inH c hc)
  have I2:Inv X pins σ (upd H s.heap.objs.size (.tup [x,y])) { s with heap:=h2 } :=
   Inv.uK (s:={ s with heap:=h' }) (t':=s.toks) (fp:=[z,TI,TO,i1,i2]) I1 f1 fun c o hc q=>(BJ.2 c (fun e=>hc (by simp [e]))).trans q
  have hI':IsPair h' TI (.ref i1) (.ref i2):=a7 TI _ (eC n1) n5 n6 n7 st.hI
  refine⟨.ref s.heap.objs.size,_,I2,rfl,⟨_,x,y,rfl,YH,rfl,fun zs hs=>by rw [I.vw hs Sh]; exact hx,fun zs hs=>by rw [I.vw hs Sg]; exact hy⟩,⟨hz2,?_,⟨u1,u2,?_⟩,?_,?_⟩,fun c hc=>(f1 c hc).1⟩
  ·exact(BJ.2 TI (eC n1)).trans hI'
  ·exact(BJ.2 TO (eC n2)).trans a2
  ·exact a3.at fun o q=>(BJ.2 i1 (eC n3)).trans q
  ·exact a4.at fun o q=>(BJ.2 i2 (eC n4)).trans q
 done:=by
  intro X hP hw hK hc i pins s σ H E I hf st hg
  subst hP hw hK
  obtain⟨xs,ys,Sh,Sg,hx⟩:=hg
  obtain⟨Yc,ZM,p1,hz1⟩:=I.list Sh
  obtain⟨wU,PV,p2,hz2⟩:=I.list Sg
  have UL:=ZM.length
  have Sj:=PV.length
  obtain⟨xo,yo,hO⟩:=st.hO
  have ap:∀ c∈[z,TI,TO,i1,i2],a≠c/\b≠c:=fun c hc=>⟨uO I Sh (hf c hc),uO I Sg (hf c hc)⟩
  simp only [cD,gh,gy,or_false,not_or] at nd
  obtain⟨⟨n1,n2,n3,n4⟩,⟨n5,n6,n7⟩,⟨n8,n9⟩,n10,_⟩:=nd
  have Dz:ZipApart z TI TO i1 i2 a b:=⟨eC n1,eC n2,eC n3,eC n4,n5,n6,n7,n8,n9,n10,(ap z (by simp)).1,(ap TO (by simp)).1,(ap i1 (by simp)).1,(ap i2 (by simp)).1,(ap z (by simp)).2,(ap TO (by simp)).2,(ap i1 (by simp)).2,(ap i2 (by simp)).2⟩
  refine wpAny_pyNext_zip_end (I.ok.hd hc) Dz st.hz st.hI hO st.h1 st.h2 p1.isList p2.isList (by
   rcases hx with hx | hx
   ·left; simp; lia
   ·right; simp; lia) fun h' k1=>⟨rfl,?_⟩
  exact I.uK (t':=s.toks) (fp:=[z,TI,TO,i1,i2]) hf fun c o hc q=>k1 c o (fun e=>hc (by simp [e])) (fun e=>hc (by simp [e])) (fun e=>hc (by simp [e])) (fun e=>hc (by simp [e])) q
 self:=fun A i s Q E st h=>wpAny_pyIter_zip st.hz h
end L2
namespace K2
open PySem PySem.Spec PyProof.Rows L2
section
variable {X:Cx} {elts:List Expr} {kk:Nat} {JA:Pos} {a b:Expr} {ta tb:gI} {pos p:Pos}
theorem GL{pins:List (Addr×Obj)}{s:aA}{σ:L2.St}{H:Hp}{G:Gp}{x:V}{d:D}{v:Value}{ds:List D}{ok:Gp->Prop}(I:Inv X pins σ H s)(ab:mw X.K H G)(rx:RelV x v)(rd:cX X.K H x d)(hi:vt d G=some (ds,ok)) :
  ∃ l vs,v=.ref l/\qt X.K H l vs/\bF X.K H vs ds/\∀ H2 G2,Kp H H2->mw X.K H2 G2->ok G2->∃ ws,qt X.K H2 l ws/\bF X.K H2 ws ds:=by
 cases rd with
 | fG hq rs=>cases hi; cases rx; exact⟨_,_,rfl,hq.sq,rs,fun H2 G2 k ab _=>⟨_,(k.Vh hq).sq,rs.mono k⟩⟩
 | ref l =>
  unfold vt at hi
  dsimp only at hi
  cases hg:G l with
  | none=>rw [hg] at hi; cases hi
  | some gg =>
   rw [hg] at hi
   cases gg with
   | lst zs =>
    cases hi
    cases rx
    obtain⟨vs,hv,rs⟩:=ab.lst hg
    refine⟨_,_,rfl,.of hv,rs,fun H2 G2 k ab o=>?_⟩
    obtain⟨ws,hw,tK⟩:=ab.lst o
    exact⟨ws,.of hw,tK⟩
   | iO _=>cases hi
 | _=>cases hi
theorem DN (hg:Gl X "zip") (hm:X.mg "zip" = none) (ha:gW X a ta) (hb:gW X b tb) (hs:autoParam (cB [a,b] X.env=[(false,eval a X.env),(false,eval b X.env)]) Ar._auto_1) (BJ:autoParam (cB [b] X.env=[(false,eval b X.env)]) Ar._auto_1) :
  RS X (.Tuple elts kk JA) (.Call (.Name "zip" p) [a,b] [] pos) (Ko ta tb):=by
 intro E pins s σ H τ G R hE I h
 have hA:K3 X [a,b] (aK ta (aK tb bL)):=ax ha (ax hb aR BJ) (by rw [hs,BJ])
 refine Call_ (om I.inv hg hm WC (fu (Ds hA pos hE I (R:=abZ fun x y G1=>tU x y G1 R) h fun vs H1 ds G1 us s1 I1 m1 r1 jV q1=>?_) (by rw [hs,BJ]) (by rw [BJ]; rfl)))
 match ds,q1 with
 | [x,y],q1 =>
  change tU x y G1 R at q1
  obtain⟨w1,w2,rfl,DC,rw2⟩:=jV.two
  obtain⟨u1,u2,rfl,ru1,Xu⟩:=vals2 r1
  unfold tU at q1
  split at q1
  ·rename_i xs k1 ys k2 e1 e2
   obtain⟨l1,v1,rfl,Sh,rs1,st1⟩:=GL I1.inv I1.ab ru1 DC e1
   obtain⟨l2,v2,rfl,Sg,R8,OP⟩:=GL I1.inv I1.ab Xu rw2 e2
   obtain⟨Yc,ZM,pl1,_⟩:=I1.inv.list Sh
   obtain⟨wU,PV,pl2,_⟩:=I1.inv.list Sg
   refine call_zip_2 pl1.isList pl2.isList fun h' z1 z2 z3 z4 z5 z6 z7=>?_
   refine wpAny_pyIter_zip z1 ?_
   refine⟨_,[s1.heap.objs.size+4,s1.heap.objs.size+2,s1.heap.objs.size+3,s1.heap.objs.size,s1.heap.objs.size+1],_,_,H1,G1,pf xs ys,_,rfl,I1.inv.kept (t':=s1.toks) z7,m1,
    PA l1 l2 _ _ _ _ _ (by simp),⟨z1,z2,⟨_,_,z3⟩,z4,z5⟩,fun c hc=>?_,fun i H2 G2 k ab o=>?_,q1⟩
   ·have UO:s1.heap.objs.size<=c:=by
     simp only [gh,gy,or_false] at hc
     rcases hc with rfl | rfl | rfl | rfl | rfl
     ·exact gC _ _
     ·exact gC _ _
     ·exact gC _ _
     ·exact aM _
     ·exact gC _ _
    exact I1.inv.Hx UO (I1.inv.cT.fresh UO)
   ·obtain⟨ws1,hw1,jV⟩:=st1 H2 G2 k ab o.1
    obtain⟨ws2,hw2,yA⟩:=OP H2 G2 k ab o.2
    refine⟨fun d hd=>?_,fun hl=>⟨ws1,ws2,hw1,hw2,?_⟩⟩
    ·rw [Ft] at hd
     cases hx:xs[i]? with
     | none=>rw [hx] at hd; cases hd
     | some x' =>
      cases hy:ys[i]? with
      | none=>rw [hx,hy] at hd; cases hd
      | some y' =>
       rw [hx,hy] at hd
       have ed:D.tup [x',y']=d:=by simpa using hd
       subst ed
       obtain⟨vx,hvx,rx⟩:=jV.get hx
       obtain⟨vy,hvy,ry⟩:=yA.get hy
       refine⟨⟨ws1,vx,ws2,vy,hw1,hvx,hw2,hvy⟩,?_⟩
       rintro v H3 ⟨T,px,py,ex,hT,e3,hx3,hy3⟩
       subst ex e3
       have q1:=hx3 ws1 hw1
       have q2:=hy3 ws2 hw2
       rw [hvx] at q1
       rw [hvy] at q2
       cases q1; cases q2
       exact⟨.tup dj (.cons (rx.mono (.new hT)) (.cons (ry.mono (.new hT)) .nil)),.OR ab hT⟩
    ·rw [Fs] at hl
     rw [jV.length,yA.length]
     lia
  ·exact q1.elim
 | [],q1=>exact q1.elim
 | [_],q1=>exact q1.elim
 | _ :: _ :: _ :: _,q1=>exact q1.elim
end
end K2
end
section
namespace K2
open PySem PySem.W PyProof.Rows
noncomputable def iI{α:Type}(lt:Nat->Nat->Bool):KasT α->α
 | .ret a=>a
 | .ask i j k=>iI lt (k (lt i j))
theorem mz{α β:Type}(lt:Nat->Nat->Bool)(f:α->KasT β):∀ t:KasT α,iI lt (t.bind f)=iI lt (f (iI lt t))
 | .ret _=>rfl
 | .ask i j k=>mz lt f (k (lt i j))
noncomputable abbrev gA(p:Array Nat)(k:Nat):Nat:=p.getD k 0
theorem CG(p:Array Nat)(k:Nat):gA p k=(p[k]?).getD 0:=by
 unfold gA; rw [bC]
structure MJ(lt:Nat->Nat->Bool):Prop where
 asymm:∀ i j,lt i j=true->lt j i=false
 trans:∀ i j k,lt j i=false->lt k j=false->lt k i=false
theorem MJ.refl{lt:Nat->Nat->Bool}(w:MJ lt)(i:Nat):lt i i=false:=by
 cases h:lt i i with
 | false=>rfl
 | true=>rw [w.asymm _ _ h] at h; cases h
noncomputable def Up(lt:Nat->Nat->Bool)(p:Array Nat)(m:Nat):Prop:=∀ i j,i<=j->j < m->lt (gA p j) (gA p i)=false
noncomputable def Dn(lt:Nat->Nat->Bool)(p:Array Nat)(m:Nat):Prop:=∀ i j,i<=j->j < m->lt (gA p i) (gA p j)=false
section
variable {lt:Nat->Nat->Bool}
theorem Up.more(w:MJ lt){p:Array Nat}{n m:Nat}(h1:1<=n)(h:Up lt p n)(hs:∀ k,n<=k->k < m->lt (gA p k) (gA p (k - 1))=false):Up lt p m:=by
 intro i j I0 hjm
 induction j with
 | zero =>
  have:i=0:=by lia
  subst this; exact w.refl _
 | succ j ih =>
  by_cases hj:j+1 < n
  ·exact h i (j+1) I0 hj
  ·by_cases e:i=j+1
   ·subst e; exact w.refl _
   ·have h1:=ih (by lia) (by lia)
    have h2:=hs (j+1) (by lia) hjm
    exact w.trans _ _ _ h1 h2
theorem LC(p:Array Nat):∀ (f n:Nat),n<=iI lt (qD p f n)/\iI lt (qD p f n)<=n+f/\(∀ k,n<=k->k < iI lt (qD p f n)->lt (gA p k) (gA p (k - 1))=false) /\
  (iI lt (qD p f n) < n+f->lt (gA p (iI lt (qD p f n))) (gA p (iI lt (qD p f n) - 1))=true):=by
 intro f
 induction f with
 | zero=>intro n; exact⟨aM _,aM _,fun k h1 h2=>absurd (show k < n from h2) (by lia),fun h=>absurd (show n < n+0 from h) (by lia)⟩
 | succ f ih =>
  intro n
  have e:iI lt (qD p (f+1) n)=if lt (gA p n) (gA p (n - 1))=true then n else iI lt (qD p f (n+1)):=by
   show iI lt (if lt (gA p n) (gA p (n - 1))=true then wy n else qD p f (n+1))=_
   split <;> rfl
  rw [e]
  by_cases c:lt (gA p n) (gA p (n - 1))=true
  ·rw [if_pos c]
   exact⟨aM _,by lia,fun k h1 h2=>absurd h2 (by lia),fun _=>c⟩
  ·rw [if_neg c]
   obtain⟨h1,h2,h3,h4⟩:=ih (n+1)
   refine⟨by lia,by lia,fun k k1 k2=>?_,fun h=>h4 (by lia)⟩
   by_cases e:k=n
   ·subst e; simpa using c
   ·exact h3 k (by lia) k2
theorem iG{p:Array Nat}{i j:Nat}(hj:j<=p.size)(k:Nat):gA (gY p i j) k=if i<=k/\k < j then gA p (i+j - 1 - k) else gA p k:=by
 rw [CG,gY,getElem?_mirror_all hj]
 split <;> rw [CG]
theorem mG(p:Array Nat)(i j:Nat):(gY p i j).size=p.size:=mirror_size _ _ _ _
theorem j5(p:Array Nat)(i j:Nat):(gY p i j).Perm p:=mirror_perm _ _ _ _
theorem Dn.rev{p:Array Nat}{a n:Nat}(w:MJ lt)(hn:n<=p.size)(h:Dn lt p n)(he:∀ k,a<=k->k < n->lt (gA p (n - 1)) (gA p k)=false):Dn lt (gY p a n) n:=by
 intro i j I0 Yu
 rw [iG hn,iG hn]
 by_cases hi:a<=i
 ·rw [if_pos ⟨hi,by lia⟩,if_pos ⟨by lia,Yu⟩]
  exact w.trans _ _ _ (he (a+n - 1 - j) (by lia) (by lia)) (h (a+n - 1 - i) (n - 1) (by lia) (by lia))
 ·rw [if_neg (by lia)]
  by_cases hj:a<=j
  ·rw [if_pos ⟨hj,Yu⟩]
   exact h i (a+n - 1 - j) (by lia) (by lia)
  ·rw [if_neg (by lia)]
   exact h i j I0 Yu
noncomputable def Eqs(lt:Nat->Nat->Bool)(p:Array Nat)(n q:Nat):Prop:=q+1<=n/\∀ k,n - (q+1)<=k->k < n->lt (gA p (n - 1)) (gA p k)=false
theorem Dn.one(w:MJ lt){p:Array Nat}{n:Nat}(h1:1<=n)(h:Dn lt p n)(hc:lt (gA p (n - 1)) (gA p n)=false):Dn lt p (n+1):=by
 intro i j I0 hj
 by_cases e:j=n
 ·subst e
  by_cases e2:i=j
  ·subst e2; exact w.refl _
  ·exact w.trans _ _ _ hc (h i (j - 1) (by lia) (by lia))
 ·exact h i j I0 (by lia)
theorem PX(w:MJ lt):∀ (f:Nat) (p:Array Nat) (n q:Nat),n+f<=p.size->Dn lt p n->Eqs lt p n q->∃ p' n' q',iI lt (lA f p n q)=(p',n',q')/\p'.Perm p/\p'.size=p.size/\n<=n'/\n'<=n+f/\Dn lt p' n'/\Eqs lt p' n' q':=by
 intro f
 induction f with
 | zero=>intro p n q _ hd he; exact⟨p,n,q,rfl,ng _,rfl,aM _,aM _,hd,he⟩
 | succ f ih =>
  intro p n q hs hd he
  have h1:1<=n:=by have:=he.1; lia
  have e:iI lt (lA (f+1) p n q)=if lt (gA p n) (gA p (n - 1))=true then (if q > 0 then iI lt (lA f (gY p (n - (q+1)) n) (n+1) 0) else iI lt (lA f p (n+1) 0))
    else if lt (gA p (n - 1)) (gA p n)=true then (p,n,q) else iI lt (lA f p (n+1) (q+1)):=by
   show iI lt (if lt (gA p n) (gA p (n - 1))=true then (if q > 0 then lA f (gY p (n - (q+1)) n) (n+1) 0 else lA f p (n+1) 0) else .ask (gA p (n - 1)) (gA p n) fun d=>if d=true then .ret (p,n,q) else lA f p (n+1) (q+1))=_
   split
   ·split <;> rfl
   ·show iI lt (if lt (gA p (n - 1)) (gA p n)=true then wy (p,n,q) else lA f p (n+1) (q+1))=_
    split <;> rfl
  rw [e]
  by_cases c:lt (gA p n) (gA p (n - 1))=true
  ·rw [if_pos c]
   have ca:=w.asymm _ _ c
   by_cases hq:q > 0
   ·rw [if_pos hq]
    have d1:Dn lt (gY p (n - (q+1)) n) n:=hd.rev w (by lia) he.2
    have en:gA (gY p (n - (q+1)) n) n=gA p n:=by rw [iG (by lia),if_neg (by lia)]
    have ca':lt (gA (gY p (n - (q+1)) n) (n - 1)) (gA (gY p (n - (q+1)) n) n)=false:=by
     rw [en,iG (by lia)]
     split
     ·-- an item of the ZJ is above p n
      exact w.trans _ _ _ ca (hd _ (n - 1) (by lia) (by lia))
     ·exact ca
    obtain⟨p',n',q',z,h2,h3,h4,h5,h6,h7⟩:=ih (gY p (n - (q+1)) n) (n+1) 0 (by rw [mG]; lia) (d1.one w h1 ca') ⟨by lia,fun k k1 k2=>by
     have:k=n:=by lia
     subst this; exact w.refl _⟩
    exact⟨p',n',q',z,h2.trans (j5 _ _ _),h3.trans (mG _ _ _),by lia,by lia,h6,h7⟩
   ·rw [if_neg hq]
    obtain⟨p',n',q',z,h2,h3,h4,h5,h6,h7⟩:=ih p (n+1) 0 (by lia) (hd.one w h1 ca) ⟨by lia,fun k k1 k2=>by
     have:k=n:=by lia
     subst this; exact w.refl _⟩
    exact⟨p',n',q',z,h2,h3,by lia,by lia,h6,h7⟩
  ·rw [if_neg c]
   have c':lt (gA p n) (gA p (n - 1))=false:=by simpa using c
   by_cases d:lt (gA p (n - 1)) (gA p n)=true
   ·rw [if_pos d]
    exact⟨p,n,q,rfl,ng _,rfl,aM _,by lia,hd,he⟩
   ·rw [if_neg d]
    have d':lt (gA p (n - 1)) (gA p n)=false:=by simpa using d
    obtain⟨p',n',q',z,h2,h3,h4,h5,h6,h7⟩:=ih p (n+1) (q+1) (by lia) (hd.one w h1 d') ⟨by have:=he.1; lia,fun k k1 k2=>by
     rw [qy]
     by_cases e:k=n
     ·subst e; exact w.refl _
     ·exact w.trans _ _ _ (he.2 k (by lia) (by lia)) c'⟩
    exact⟨p',n',q',z,h2,h3,by lia,by lia,h6,h7⟩
theorem Dn.up{p:Array Nat}{n:Nat}(hn:n<=p.size)(h:Dn lt p n):Up lt (gY p 0 n) n:=by
 intro i j I0 Yu
 rw [iG hn,iG hn,if_pos ⟨by lia,Yu⟩,if_pos ⟨by lia,by lia⟩]
 exact h _ _ (by lia) (by lia)
theorem FP(w:MJ lt){p:Array Nat}{n nrem:Nat}(h1:1<=n)(hn:n<=nrem)(hs:nrem<=p.size)(h:Dn lt p n):∃ p' m,iI lt (O6 n nrem p)=(m,p')/\p'.Perm p/\p'.size=p.size/\n<=m/\m<=nrem/\Up lt p' m:=by
 obtain⟨a1,a2,a3,_⟩:=LC (lt:=lt) (gY p 0 n) (nrem - n) n
 refine⟨gY p 0 n,iI lt (qD (gY p 0 n) (nrem - n) n),by rw [O6,mz]; rfl,j5 _ _ _,mG _ _ _,a1,by lia,?_⟩
 exact(h.up (by lia)).more w h1 a3
theorem uY(w:MJ lt){p:Array Nat}{n nrem:Nat}(h1:1<=n)(hn:n < nrem)(hs:nrem<=p.size)(h:Dn lt p n)(hc:lt (gA p (n - 1)) (gA p n)=false) :
  ∃ p' m,iI lt (yY n nrem p)=(m,p')/\p'.Perm p/\p'.size=p.size/\n<=m/\m<=nrem/\Up lt p' m:=by
 obtain⟨p1,n1,q1,z,z2,z3,z4,z5,z6,z7⟩:=PX w (nrem - (n+1)) p (n+1) 0 (by lia) (h.one w h1 hc) ⟨by lia,fun k k1 k2=>by
  have:k=n:=by lia
  subst this; exact w.refl _⟩
 rw [yY,mz,z]
 show ∃ p' m,iI lt (if q1 > 0 then O6 n1 nrem (gY p1 (n1 - (q1+1)) n1) else O6 n1 nrem p1)=(m,p')/\_
 by_cases hq:q1 > 0
 ·rw [if_pos hq]
  obtain⟨p',m,y1,y2,y3,y4,y5,y6⟩:=FP (nrem:=nrem) w (p:=gY p1 (n1 - (q1+1)) n1) (by lia) (by lia) (by rw [mG]; lia) (z6.rev w (by lia) z7.2)
  exact⟨p',m,y1,(y2.trans (j5 _ _ _)).trans z2,(y3.trans (mG _ _ _)).trans z3,by lia,y5,y6⟩
 ·rw [if_neg hq]
  obtain⟨p',m,y1,y2,y3,y4,y5,y6⟩:=FP (nrem:=nrem) w (p:=p1) (by lia) (by lia) (by lia) z6
  exact⟨p',m,y1,y2.trans z2,y3.trans z3,by lia,y5,y6⟩
theorem Na(w:MJ lt){p:Array Nat}{nrem:Nat}(h1:1<=nrem)(hs:nrem<=p.size):∃ p' m,iI lt (kas_count nrem p)=(m,p')/\p'.Perm p/\p'.size=p.size/\1<=m/\m<=nrem/\Up lt p' m:=by
 obtain⟨a1,a2,a3,a4⟩:=LC (lt:=lt) p (nrem - 1) 1
 rw [kas_count,mz]
 generalize iI lt (qD p (nrem - 1) 1)=n at a1 a2 a3 a4
 have u1:Up lt p 1:=fun i j I0 hj=>by
  have:i=j:=by lia
  subst this; exact w.refl _
 have up:Up lt p n:=u1.more w (aM _) a3
 by_cases e:n=nrem
 ·subst e
  rw [if_pos (by simp)]
  exact⟨p,n,rfl,ng _,rfl,a1,aM _,up⟩
 ·rw [if_neg (by simpa using e)]
  have hb:=a4 (by lia)
  by_cases h2:n > 1
  ·rw [if_pos h2]
   show ∃ p' m,iI lt (if lt (gA p 0) (gA p (n - 1))=true then wy (n,p) else yY n nrem (gY p 0 n))=(m,p')/\_
   by_cases c:lt (gA p 0) (gA p (n - 1))=true
   ·rw [if_pos c]
    exact⟨p,n,rfl,ng _,rfl,a1,by lia,up⟩
   ·rw [if_neg c]
    have c':lt (gA p 0) (gA p (n - 1))=false:=by simpa using c
    have all:∀ i j,i < n->j < n->lt (gA p i) (gA p j)=false:=fun i j hi hj =>
     w.trans _ _ _ (w.trans _ _ _ (up j (n - 1) (by lia) (by lia)) c') (up 0 i (by lia) hi)
    have d1:Dn lt (gY p 0 n) n:=fun i j I0 hj=>by
     rw [iG (by lia),iG (by lia),if_pos ⟨by lia,by lia⟩,if_pos ⟨by lia,hj⟩]
     exact all _ _ (by lia) (by lia)
    have hl:lt (gA (gY p 0 n) (n - 1)) (gA (gY p 0 n) n)=false:=by
     rw [iG (by lia),iG (by lia),if_pos ⟨by lia,by lia⟩,if_neg (by lia)]
     exact w.trans _ _ _ (w.asymm _ _ hb) (all _ _ (by lia) (by lia))
    obtain⟨p',m,y1,y2,y3,y4,y5,y6⟩:=uY (nrem:=nrem) w (p:=gY p 0 n) a1 (by lia) (by rw [mG]; lia) d1 hl
    exact⟨p',m,y1,y2.trans (j5 _ _ _),y3.trans (mG _ _ _),by lia,y5,y6⟩
  ·rw [if_neg h2]
   have e1:n=1:=by lia
   subst e1
   have d1:Dn lt p 1:=fun i j I0 hj=>by
    have:i=j:=by lia
    subst this; exact w.refl _
   obtain⟨p',m,y1,y2,y3,y4,y5,y6⟩:=uY (nrem:=nrem) w (p:=p) (aM _) (by lia) hs d1 (w.asymm _ _ hb)
   exact⟨p',m,y1,y2,y3,by lia,y5,y6⟩
theorem M9(w:MJ lt){p:Array Nat}{k:Nat}:∀ (f l r:Nat),l<=r->r<=k->r - l<=f->Up lt p k->(∀ i,i < l->lt (gA p k) (gA p i)=false)->(∀ i,r<=i->i < k->lt (gA p k) (gA p i)=true) ->
  ∃ m,iI lt (j0 p k f l r)=m/\m<=k/\(∀ i,i < m->lt (gA p k) (gA p i)=false)/\(∀ i,m<=i->i < k->lt (gA p k) (gA p i)=true):=by
 intro f
 induction f with
 | zero =>
  intro l r hlr hrk hf up h1 h2
  have:l=r:=by lia
  subst this
  exact⟨l,rfl,hrk,h1,h2⟩
 | succ f ih =>
  intro l r hlr hrk hf up h1 h2
  have e:iI lt (j0 p k (f+1) l r)=if l>=r then l else if lt (gA p k) (gA p ((l+r) / 2))=true then iI lt (j0 p k f l ((l+r) / 2)) else iI lt (j0 p k f ((l+r) / 2+1) r):=by
   show iI lt (if l>=r then wy l else .ask (gA p k) (gA p ((l+r) / 2)) fun c=>if c=true then j0 p k f l ((l+r) / 2) else j0 p k f ((l+r) / 2+1) r)=_
   split
   ·rfl
   ·show iI lt (if lt (gA p k) (gA p ((l+r) / 2))=true then j0 p k f l ((l+r) / 2) else j0 p k f ((l+r) / 2+1) r)=_
    split <;> rfl
  rw [e]
  by_cases c:l>=r
  ·rw [if_pos c]
   have:l=r:=by lia
   subst this
   exact⟨l,rfl,hrk,h1,h2⟩
  ·rw [if_neg c]
   by_cases d:lt (gA p k) (gA p ((l+r) / 2))=true
   ·rw [if_pos d]
    refine ih l ((l+r) / 2) (by lia) (by lia) (by lia) up h1 fun i i1 i2=>?_
    cases q:lt (gA p k) (gA p i) with
    | true=>rfl
    | false=>rw [w.trans _ _ _ (up ((l+r) / 2) i i1 i2) q] at d; cases d
   ·rw [if_neg d]
    refine ih ((l+r) / 2+1) r (by lia) hrk (by lia) up (fun i hi=>?_) h2
    exact w.trans _ _ _ (up i ((l+r) / 2) (by lia) (by lia)) (by simpa using d)
theorem CH{p:Array Nat}{src d:Nat}(hs:src < p.size)(hd:d<=src)(k:Nat):gA (bubble p src d) k=if k=src - d then gA p src else if src - d < k/\k<=src then gA p (k - 1) else gA p k:=by
 rw [CG,getElem?_bubble hs d hd,CG p src,CG p (k - 1),CG p k]
 by_cases h1:k=src - d
 ·rw [if_pos h1,if_pos h1]
 ·rw [if_neg h1,if_neg h1]
  by_cases h2:src - d < k/\k<=src
  ·rw [if_pos h2,if_pos h2]
  ·rw [if_neg h2,if_neg h2]
theorem S0(w:MJ lt):∀ (f:Nat) (p:Array Nat) (k:Nat),k+f<=p.size->Up lt p k->∃ p',iI lt (kas_bin f p k)=p'/\p'.Perm p/\p'.size=p.size/\Up lt p' (k+f):=by
 intro f
 induction f with
 | zero=>intro p k _ up; exact⟨p,rfl,ng _,rfl,up⟩
 | succ f ih =>
  intro p k hs up
  obtain⟨m,e,hm,h1,h2⟩:=M9 w k 0 k (cJ _) (aM _) (aM _) up (fun i hi=>absurd hi (by lia)) (fun i i1 i2=>absurd i1 (by lia))
  have up':Up lt (bubble p k (k - m)) (k+1):=by
   intro i j I0 hj
   rw [CH (by lia) (by lia),CH (by lia) (by lia)]
   have ek:k - (k - m)=m:=by lia
   rw [ek]
   by_cases j1:j=m
   ·rw [if_pos j1]
    by_cases i1:i=m
    ·rw [if_pos i1]; exact w.refl _
    ·rw [if_neg i1,if_neg (by lia)]; exact h1 i (by lia)
   ·rw [if_neg j1]
    by_cases j2:m < j/\j<=k
    ·rw [if_pos j2]
     by_cases i1:i=m
     ·rw [if_pos i1]; exact w.asymm _ _ (h2 (j - 1) (by lia) (by lia))
     ·rw [if_neg i1]
      by_cases i2:m < i/\i<=k
      ·rw [if_pos i2]; exact up _ _ (by lia) (by lia)
      ·rw [if_neg i2]; exact up _ _ (by lia) (by lia)
    ·rw [if_neg j2,if_neg (by lia),if_neg (by lia)]; exact up _ _ I0 (by lia)
  obtain⟨p',z,z1,z2,z3⟩:=ih (bubble p k (k - m)) (k+1) (by rw [bubble_size]; lia) up'
  refine⟨p',?_,z1.trans (bubble_perm _ _ _),z2.trans (bubble_size _ _ _),by rw [show k+(f+1)=k+1+f by lia]; exact z3⟩
  rw [kas_bin,mz,e]; exact z
theorem FQ(w:MJ lt){n:Nat}(h1:1<=n):∃ p,iI lt (kas_sort n)=p/\p.toList.Perm (bq n)/\p.size=n/\Up lt p n:=by
 obtain⟨p,m,z,z1,z2,z3,z4,z5⟩:=Na w (p:=(bq n).toArray) h1 (by simp)
 have zs:p.size=n:=by rw [z2]; simp
 have zp:p.toList.Perm (bq n):=by simpa using z1.toList
 rw [kas_sort,mz,z]
 show ∃ q,iI lt (if m < n then kas_bin (n - max m 1) p (max m 1) else .ret p)=q/\_
 by_cases c:m < n
 ·rw [if_pos c]
  have em:max m 1=m:=by lia
  rw [em]
  obtain⟨p',y,y1,y2,y3⟩:=S0 w (n - m) p m (by lia) z5
  exact⟨p',y,(by simpa using y1.toList:p'.toList.Perm p.toList).trans zp,y2.trans zs,by rw [show n=m+(n - m) by lia]; exact y3⟩
 ·rw [if_neg c]
  have:m=n:=by lia
  subst this
  exact⟨p,rfl,zp,zs,z5⟩
end
end K2
end
section
namespace K2
open PySem PySem.Spec PyProof.Rows L2
open PySem.AutoSeq1 (wpAny_loadPart')
open PySem.MeetsSeq PySem.MeetsSeq2 PySem.MeetsSeq3 PySem.SeqAt
noncomputable def Bb(A:eF)(s:aA)(y x:Value)(b:Bool):Prop :=
 ∀ (prog:ck) (w:World) (E:Value->aA->Prop) (Q:Value->aA->Prop),Q (.bool b) s->wpAny (model prog w) A (richCompare .Lt y x) Q E s
noncomputable def sN(e l:Nat->Bool)(n m:Nat):Nat->Nat->Bool
 | 0,_=>decide (n < m)
 | f+1,i=>if e i=true then sN e l n m f (i+1) else l i
theorem Tx(l b:Addr)(xs ys:Array Value)(n m:Nat)(dd de:Option Addr)(sl sm:Array (Option Value))(e lt:Nat->Bool)(k:Nat) :
  ∀ i:Nat,i<=min xs.size ys.size->min xs.size ys.size - i=k->Meets (Builtin.«list.__eq__.loop» ⟨[.ref l,.ref b,qg i,qg 0],[]⟩)
   (fun A R s=>s.heap.get? l=some { cls:=.type "list",dict:=dd,data:=.seq xs n,slots:=sl }/\s.heap.get? b=some { cls:=.type "list",dict:=de,data:=.seq ys m,slots:=sm } /\
    (∀ j (h1:j < xs.size) (h2:j < ys.size),EqAt A.in1 s xs[j] ys[j] (e j)/\Bb A.in1 s xs[j] ys[j] (lt j)) /\
    R (.ok (.ret (.bool (sN e lt xs.size ys.size k i)))) s):=by
 induction k with
 | zero =>
  intro i hi hk prog w A R s h
  obtain⟨hp,g,d,tk,os⟩:=s
  obtain⟨hl,hb,he,h⟩:=h
  wp_walk using cI hl,cI hb
  by_cases c:xs.size<=ys.size
  ·have h1:xs[((i:Nat):Int).toNat]?=none:=by simp; lia
   rw [h1]
   wp_walk using cI hl,cI hb
   exact h
  ·have h2:ys[((i:Nat):Int).toNat]?=none:=by simp; lia
   rw [h2]
   cases q:xs[((i:Nat):Int).toNat]? with
   | none =>
    wp_walk using cI hl,cI hb
    exact h
   | some v =>
    wp_walk using cI hl,cI hb
    exact h
 | succ k ih =>
  intro i hi hk prog w A R s h
  obtain⟨hp,g,d,tk,os⟩:=s
  obtain⟨hl,hb,he,h⟩:=h
  wp_walk using cI hl,cI hb
  have l1:i < xs.size:=by lia
  have l2:i < ys.size:=by lia
  have h1:xs[((i:Nat):Int).toNat]?=some xs[i]:=by simp [l1]
  have h2:ys[((i:Nat):Int).toNat]?=some ys[i]:=by simp [l2]
  have hc:((i:Int)+1)=((i+1:Nat):Int):=by push_cast; rfl
  rw [h1,h2]
  refine af ((he i l1 l2).1 prog w _ _ ?_)
  cases q:e i with
  | true =>
   rw [sN,q,if_pos rfl] at h
   wp_walk
   rw [hc]
   exact⟨Fi plain_eq_loop _,mF entry_eq_loop (by
    rw [jT plain_eq_loop _]
    exact ih (i+1) (by lia) (by lia) prog w A R _ ⟨hl,hb,he,h⟩)⟩
  | false =>
   rw [sN,q,if_neg (by simp)] at h
   wp_walk using cI hl,cI hb
   rw [h1,h2]
   have Ym:=(he i l1 l2).2 prog w
   wp_walk using Ym
   exact h
theorem Cv(l b:Addr)(xs ys:Array Value)(n m:Nat)(dd de:Option Addr)(sl sm:Array (Option Value))(e lt:Nat->Bool) :
  Meets (Builtin.«list.__lt__» ⟨[.ref l,.ref b],[]⟩)
   (fun A R s=>s.heap.get? l=some { cls:=.type "list",dict:=dd,data:=.seq xs n,slots:=sl }/\s.heap.get? b=some { cls:=.type "list",dict:=de,data:=.seq ys m,slots:=sm } /\
    (∀ j (h1:j < xs.size) (h2:j < ys.size),EqAt A.in1 s xs[j] ys[j] (e j)/\Bb A.in1 s xs[j] ys[j] (lt j)) /\
    R (.ok (.ret (.bool (sN e lt xs.size ys.size (min xs.size ys.size) 0)))) s):=by
 intro prog w A R s h
 obtain⟨hp,g,d,tk,os⟩:=s
 obtain⟨hl,hb,he,h⟩:=h
 have f3:=Jp
 wp_walk using cI hl,cI hb
 exact⟨Fi plain_eq_loop _,mF entry_eq_loop (by
  rw [jT plain_eq_loop _]
  exact Tx l b xs ys n m dd de sl sm e lt _ 0 (cJ _) rfl prog w A R _ ⟨hl,hb,he,h⟩)⟩
theorem zj(l b:Addr)(xs ys:Array Value)(n m:Nat)(dd de:Option Addr)(sl sm:Array (Option Value))(e lt:Nat->Bool) :
  Meets (Builtin.«tuple.__lt__» ⟨[.ref l,.ref b],[]⟩)
   (fun A R s=>s.heap.get? l=some { cls:=.type "tuple",dict:=dd,data:=.seq xs n,slots:=sl }/\s.heap.get? b=some { cls:=.type "tuple",dict:=de,data:=.seq ys m,slots:=sm } /\
    (∀ j (h1:j < xs.size) (h2:j < ys.size),EqAt A.in1 s xs[j] ys[j] (e j)/\Bb A.in1 s xs[j] ys[j] (lt j)) /\
    R (.ok (.ret (.bool (sN e lt xs.size ys.size (min xs.size ys.size) 0)))) s) :=
 .of_wp fun prog w A R s h=>by
  obtain⟨hp,g,d,tk,os⟩:=s
  obtain⟨hl,hb,he,h⟩:=h
  have f2:=qh
  have zl:(xs.toList.zip ys.toList).length=min xs.size ys.size:=by simp
  wp_walk using cI hl,cI hb,jw _ (fun rest c s'=>c.1=none/\s'=⟨hp,g,d,tk,os⟩/\∃ i,i<=min xs.size ys.size/\rest=(xs.toList.zip ys.toList).drop i /\
   R (.ok (.ret (.bool (sN e lt xs.size ys.size (min xs.size ys.size - i) i)))) ⟨hp,g,d,tk,os⟩) _
  case turn =>
   rintro⟨y,x⟩ rest c s' ⟨hc,rfl,i,hi,hz,hR⟩
   have il:i < min xs.size ys.size:=by
    have:=congrArg dP hz
    rw [cM,zl,ak] at this
    lia
   have l1:i < xs.size:=by lia
   have l2:i < ys.size:=by lia
   rw [fk (by rw [zl]; exact il)] at hz
   injection hz with hyx QV
   have ey:y=xs[i]/\x=ys[i]:=by simpa using hyx
   obtain⟨rfl,rfl⟩:=ey
   obtain⟨k,ek⟩:∃ k,min xs.size ys.size - i=k+1:=⟨min xs.size ys.size - i - 1,by lia⟩
   rw [ek,sN] at hR
   refine af ((he i l1 l2).1 prog w _ _ ?_)
   cases q:e i with
   | true =>
    rw [q,if_pos rfl] at hR
    wp_walk
    exact⟨rfl,rfl,i+1,by lia,QV,by rw [show min xs.size ys.size - (i+1)=k by lia]; exact hR⟩
   | false =>
    rw [q,if_neg (by simp)] at hR
    have Ym:=(he i l1 l2).2 prog w
    wp_walk using Ym
    exact⟨_,rfl,by simpa using hR⟩
  case fin =>
   rintro⟨c1,c2⟩ s' ⟨hc,rfl,i,hi,hz,hR⟩
   simp only at hc
   subst hc
   have il:min xs.size ys.size - i=0:=by
    have:=congrArg dP hz
    rw [cM,zl,aG] at this
    lia
   rw [il,sN] at hR
   wp_walk
   exact⟨_,rfl,by simpa [uI] using hR⟩
  case h =>
   exact⟨rfl,rfl,0,cJ _,rfl,by simpa using h⟩
theorem NA{A:eF}{s:aA}{l b:Addr}{xs ys:Array Value}{e lt:Nat->Bool}(hl:s.heap.IsList l xs)(hb:s.heap.IsList b ys)(hu:A.units < cLine)
  (he:∀ j (h1:j < xs.size) (h2:j < ys.size),EqAt A.in1 s xs[j] ys[j] (e j)/\Bb A.in1 s xs[j] ys[j] (lt j)):Bb A s (.ref l) (.ref b) (sN e lt xs.size ys.size (min xs.size ys.size) 0):=by
 intro prog w E Q hq
 obtain⟨⟨cls,dd,data,sl⟩,ho,hc,n,hd⟩:=id hl
 obtain⟨⟨RD,Mz,data2,IZ⟩,Hl,Hq,n2,hd2⟩:=id hb
 simp only at hc hd Hq hd2
 subst hc hd Hq hd2
 exact xZ (op:=.Lt) ⟨_,ho,rfl⟩ ⟨_,Hl,rfl⟩ uD MO (Lh _ _) (Cv l b xs ys n n2 dd Mz sl IZ e lt)
  ⟨ho,Hl,he,(fun x=>nomatch x),hq⟩ hu
theorem Kd{A:eF}{s:aA}{l b:Addr}{xs ys:Array Value}{e lt:Nat->Bool}(hl:s.heap.IsTuple l xs)(hb:s.heap.IsTuple b ys)(hu:A.units < cLine)
  (he:∀ j (h1:j < xs.size) (h2:j < ys.size),EqAt A.in1 s xs[j] ys[j] (e j)/\Bb A.in1 s xs[j] ys[j] (lt j)):Bb A s (.ref l) (.ref b) (sN e lt xs.size ys.size (min xs.size ys.size) 0):=by
 intro prog w E Q hq
 obtain⟨⟨cls,dd,data,sl⟩,ho,hc,n,hd⟩:=id hl
 obtain⟨⟨RD,Mz,data2,IZ⟩,Hl,Hq,n2,hd2⟩:=id hb
 simp only at hc hd Hq hd2
 subst hc hd Hq hd2
 exact xZ (op:=.Lt) ⟨_,ho,rfl⟩ ⟨_,Hl,rfl⟩ lY sv (qG _ _) (zj l b xs ys n n2 dd Mz sl IZ e lt)
  ⟨ho,Hl,he,(fun x=>nomatch x),hq⟩ hu
theorem oP(xs ys:List D):∀ (k i:Nat),i<=min xs.length ys.length->min xs.length ys.length - i=k ->
  sN (fun j=>i7 (xs.getD j .du) (ys.getD j .du)) (fun j=>nC (xs.getD j .du) (ys.getD j .du)) xs.length ys.length k i=nB (xs.drop i) (ys.drop i)
 | 0,i,hi,hk=>by
  rw [sN]
  by_cases c:xs.length<=ys.length
  ·have e1:xs.drop i=[]:=ji (by lia)
   rw [e1]
   cases q:ys.drop i with
   | nil =>
    have:=congrArg dP q
    rw [cM,aG] at this
    exact decide_eq_false (by lia)
   | cons y r =>
    have:=congrArg dP q
    rw [cM,ak] at this
    exact decide_eq_true (by lia)
  ·have e1:ys.drop i=[]:=ji (by lia)
   rw [e1]
   cases q:xs.drop i with
   | nil =>
    have:=congrArg dP q
    rw [cM,aG] at this
    exact decide_eq_false (by lia)
   | cons y r=>exact decide_eq_false (by lia)
 | k+1,i,hi,hk=>by
  have l1:i < xs.length:=by lia
  have l2:i < ys.length:=by lia
  rw [sN,fk l1,fk l2,pP,oP xs ys k (i+1) (by lia) (by lia)]
  have g1:xs.getD i .du=xs[i]:=by rw [az,ag l1]; rfl
  have g2:ys.getD i .du=ys[i]:=by rw [az,ag l2]; rfl
  rw [g1,g2]
theorem j6{h:Heap}:∀ {ds:List D} {vs:List Value} {as:List Addr},g7 h vs (lV ds) as->∀ j (hj:j < vs.length),∃ bs,Reads h vs[j] (pd (ds.getD j .du)) bs
 | [],vs,as,r,j,hj=>by cases r; exact absurd hj (cE _)
 | d :: ds,_,_,.cons (v:=v) (vs:=vs) r1 r2,j,hj=>by
  cases j with
  | zero=>exact⟨_,r1⟩
  | succ j=>exact j6 r2 j (by simpa using hj)
theorem readsAll_len{h:Heap}:∀ {ds:List D} {vs:List Value} {as:List Addr},g7 h vs (lV ds) as->vs.length=ds.length
 | [],_,_,r=>by cases r; rfl
 | d :: ds,_,_,.cons r1 r2=>by rw [ak,ak,readsAll_len r2]
theorem pK:∀ {ds:List D},qj ds=true->∀ j,nr (ds.getD j .du)=true
 | [],_,j=>by rw [List.getD_nil]; rfl
 | d :: ds,h,0=>by
  have h:(nr d&&qj ds)=true:=h
  rw [aP] at h; simpa using h.1
 | d :: ds,h,j+1=>by
  have h:(nr d&&qj ds)=true:=h
  rw [aP] at h; simpa using pK h.2 j
theorem lh:∀ (ds:List D) (j:Nat),(pd (ds.getD j .du)).depth<=cO (lV ds)
 | [],j=>by rw [List.getD_nil]; exact aM _
 | d :: ds,0=>by
  show (pd d).depth<=cO (pd d :: lV ds)
  simp only [cO]; lia
 | d :: ds,j+1=>by
  have:=lh ds j
  show (pd (ds.getD j .du)).depth<=cO (pd d :: lV ds)
  simp only [cO]; lia
theorem rC:∀ {l:List nH} {ds:List D},fY l ds=true->∀ j,j < ds.length->∃ s∈l,dF s (ds.getD j .du)=true/\l[j]?=some s
 | [],[],_,j,hj=>absurd hj (cE _)
 | [],_ :: _,h,_,_=>by cases h
 | _ :: _,[],h,_,_=>by cases h
 | s :: l,d :: ds,h,0,_=>by
  have h:(dF s d&&fY l ds)=true:=h
  rw [aP] at h
  exact⟨s,by simp,by simpa using h.1,by simp⟩
 | s :: l,d :: ds,h,j+1,hj=>by
  have h:(dF s d&&fY l ds)=true:=h
  rw [aP] at h
  obtain⟨s',h1,h2,h3⟩:=rC h.2 j (by simpa using hj)
  exact⟨s',ao _ h1,by simpa using h2,by simpa using h3⟩
theorem rD:∀ {s:nH} {ds:List D},g6 s ds=true->∀ j,j < ds.length->dF s (ds.getD j .du)=true
 | s,[],_,j,hj=>absurd hj (cE _)
 | s,d :: ds,h,0,_=>by
  have h:(dF s d&&g6 s ds)=true:=h
  rw [aP] at h; simpa using h.1
 | s,d :: ds,h,j+1,hj=>by
  have h:(dF s d&&g6 s ds)=true:=h
  rw [aP] at h; simpa using rD h.2 j (by simpa using hj)
theorem Et{A:eF}{s:aA}{xs ys:List D}{vs ws:Array Value}{as bs:List Addr}(r1:g7 s.heap vs.toList (lV xs) as)(r2:g7 s.heap ws.toList (lV ys) bs)(n1:qj xs=true)(n2:qj ys=true)
  (hu:A.units+cO (lV xs) < cLine) (j:Nat) (h1:j < vs.size) (h2:j < ws.size):EqAt A s vs[j] ws[j] (i7 (xs.getD j .du) (ys.getD j .du)):=by
 obtain⟨Zw,q1⟩:=j6 r1 j (by simpa using h1)
 obtain⟨Zs,q2⟩:=j6 r2 j (by simpa using h2)
 have m1:=pK n1 j
 have m2:=pK n2 j
 have dp:=lh xs j
 have:=eqAt_reads (pd (xs.getD j .du)) (pd (ys.getD j .du)) A s _ _ _ _ q1 q2 (kc _ m1) (kc _ m2) (by lia)
 rw [uc _ _ m1 m2] at this
 simpa using this
theorem z9:∀ (n:Nat) (sh:nH) (a b:D) (A:eF) (s:aA) (u v:Value) (as bs:List Addr),(pd a).depth<=n->dF sh a=true->dF sh b=true->nr a=true->nr b=true->Reads s.heap u (pd a) as->Reads s.heap v (pd b) bs->A.units+n < cLine->Bb A s u v (nC a b):=by
 intro n
 induction n using Nat.strongRecOn with
 | _ n ih =>
 intro sh a b A s u v as bs hn h1 h2 n1 n2 r1 r2 hu
 cases sh with
 | int =>
  first | obtain⟨_,rfl⟩:=eB h1 | obtain⟨_,rfl⟩:=eu h1 | obtain⟨_,rfl⟩:=eA h1
  first | obtain⟨_,rfl⟩:=eB h2 | obtain⟨_,rfl⟩:=eu h2 | obtain⟨_,rfl⟩:=eA h2
  cases r1; cases r2
  intro prog w E Q hq
  exact HT.FW A s _ _ _ _ prog w E Q hq
 | tup l =>
  first | obtain⟨_,rfl⟩:=eB h1 | obtain⟨_,rfl⟩:=eu h1 | obtain⟨_,rfl⟩:=eA h1
  first | obtain⟨_,rfl⟩:=eB h2 | obtain⟨_,rfl⟩:=eu h2 | obtain⟨_,rfl⟩:=eA h2
  rename_i xs ys
  have n1:qj xs=true:=n1
  have n2:qj ys=true:=n2
  cases r1 with
  | tuple k1 k2 k3 k4 =>
   cases r2 with
   | tuple m1 m2 m3 m4 =>
    rename_i p o vs c p' o' ws c'
    have hd:(pd (.tup xs)).depth=cO (lV xs)+1:=rfl
    obtain⟨n',rfl⟩:∃ n',n=n'+1:=⟨n - 1,by lia⟩
    have z1:=readsAll_len k4
    have z2:=readsAll_len m4
    have e1:vs.size=xs.length:=by simpa using z1
    have e2:ws.size=ys.length:=by simpa using z2
    have base:=Kd (A:=A) (s:=s) (e:=fun j=>i7 (xs.getD j .du) (ys.getD j .du)) (lt:=fun j=>nC (xs.getD j .du) (ys.getD j .du)) ⟨_,k1,k2,_,k3⟩ ⟨_,m1,m2,_,m3⟩ (by lia) (fun j j1 j2=>by
     refine⟨Et k4 m4 n1 n2 (by show A.units+1+_ < _; lia) j j1 j2,?_⟩
     obtain⟨Zw,q1⟩:=j6 k4 j (by simpa using j1)
     obtain⟨Zs,q2⟩:=j6 m4 j (by simpa using j2)
     obtain⟨sj,hsj,g1,g2⟩:=rC (l:=l) (ds:=xs) h1 j (by lia)
     obtain⟨sj',aew,g1',YO⟩:=rC (l:=l) (ds:=ys) h2 j (by lia)
     rw [g2] at YO; cases YO
     have dp:=lh xs j
     have:=ih n' (by lia) sj (xs.getD j .du) (ys.getD j .du) A.in1 s _ _ _ _ (by lia) g1 g1' (pK n1 j) (pK n2 j) q1 q2 (by show A.units+1+n' < cLine; lia)
     simpa using this)
    have fin:=oP xs ys (min xs.length ys.length) 0 (cJ _) rfl
    rw [e1,e2,fin] at base
    exact base
 | lst l =>
  first | obtain⟨_,rfl⟩:=eB h1 | obtain⟨_,rfl⟩:=eu h1 | obtain⟨_,rfl⟩:=eA h1
  first | obtain⟨_,rfl⟩:=eB h2 | obtain⟨_,rfl⟩:=eu h2 | obtain⟨_,rfl⟩:=eA h2
  rename_i xs ys
  have n1:qj xs=true:=n1
  have n2:qj ys=true:=n2
  cases r1 with
  | list k1 k2 k3 k4 =>
   cases r2 with
   | list m1 m2 m3 m4 =>
    rename_i p o vs c p' Zw o' ws c' Zs
    have hd:(pd (.fG xs)).depth=cO (lV xs)+1:=rfl
    obtain⟨n',rfl⟩:∃ n',n=n'+1:=⟨n - 1,by lia⟩
    have z1:=readsAll_len k4
    have z2:=readsAll_len m4
    have e1:vs.size=xs.length:=by simpa using z1
    have e2:ws.size=ys.length:=by simpa using z2
    have base:=NA (A:=A) (s:=s) (e:=fun j=>i7 (xs.getD j .du) (ys.getD j .du)) (lt:=fun j=>nC (xs.getD j .du) (ys.getD j .du)) ⟨_,k1,k2,_,k3⟩ ⟨_,m1,m2,_,m3⟩ (by lia) (fun j j1 j2=>by
     refine⟨Et k4 m4 n1 n2 (by show A.units+1+_ < _; lia) j j1 j2,?_⟩
     obtain⟨Zw,q1⟩:=j6 k4 j (by simpa using j1)
     obtain⟨Zs,q2⟩:=j6 m4 j (by simpa using j2)
     have dp:=lh xs j
     have:=ih n' (by lia) l (xs.getD j .du) (ys.getD j .du) A.in1 s _ _ _ _ (by lia) (rD (s:=l) (ds:=xs) h1 j (by lia)) (rD (s:=l) (ds:=ys) h2 j (by lia)) (pK n1 j) (pK n2 j) q1 q2 (by show A.units+1+n' < cLine; lia)
     simpa using this)
    have fin:=oP xs ys (min xs.length ys.length) 0 (cJ _) rfl
    rw [e1,e2,fin] at base
    exact base
end K2
end
section
namespace K2
open PySem PySem.Spec PyProof.Rows L2 PySem.W
section
variable {prog:ck} {w:World} {A:eF} {E:Value->aA->Prop} {s:aA}
theorem FF {at':Addr} {bM:List Value} {n:Nat} {P:PySem.Fin->aA->Prop} (TU:s.heap.get? at'=some (uB "list" bM.toArray n)) (mU:bM.length < 2)
  (done:P (.done (.ret .none)) { s with heap:=sortedHeap s.heap at' bM bM.toArray }):wpAny (model prog w) A (Builtin.«list.sort» ⟨[.ref at'],[]⟩) P E s:=by
 rw [list_sort_plain]
 have lt':at' < s.heap.objs.size:=aQ TU
 refine af (listItems_at TU rfl (af (listUpdate_at TU rfl ?_)))
 obtain⟨c,hc⟩:∃ c,(s.heap.update at' (jh fun _=>#[])).get? at'=some (uB "list" #[] c):=⟨_,get?_update_seq TU (fun _=>#[])⟩
 refine af (seqEpoch_at hc rfl (af (wpAny_newTuple (af (wpAny_newList (fF ?_))))))
 have h6:(((s.heap.update at' (jh fun _=>#[])).push (uB "tuple" bM.toArray 0)).push (uB "list" #[] 0)).get? at'=some (uB "list" #[] c):=by
  rw [Heap.get?_push_ne _ _ _ (by rw [size_push',Fc]; exact bT (C8 lt')),Heap.get?_push_ne _ _ _ (by rw [Fc]; exact bT lt')]
  exact hc
 show wpAny (model prog w) A _ P E { s with heap:=((s.heap.update at' (jh fun _=>#[])).push (uB "tuple" bM.toArray 0)).push (uB "list" #[] 0) }
 dsimp only
 have sz2:bM.toArray.size < 2:=by simpa using mU
 rw [if_pos sz2,if_pos sz2]
 refine af (av ?_)
 rw [StateT.run_pure]
 refine af (av ?_)
 dsimp only
 have es:(bM.toArray.zip bM.toArray).map (·.2)=bM.toArray:=by
  apply Array.toList_inj.mp
  simp [List.map_snd_zip]
 refine af (seqEpoch_at h6 rfl (af (listUpdate_at h6 rfl ?_ (hsz2:=by rw [show (arrOf (SortSt.mk' general' (bM.toArray.zip bM.toArray) #[] 7 none)).map (·.2)=bM.toArray from es,cN]; simp; lia))))
 simp only [bne_self_eq_false,aF,if_false]
 refine av ?_
 rw [show (arrOf (SortSt.mk' general' (bM.toArray.zip bM.toArray) #[] 7 none)).map (·.2)=bM.toArray from es]
 exact done
theorem JK{l:Addr}{bM:List Value}{Q:Value->aA->Prop}(hl:s.heap.IsList l bM.toArray)(mU:bM.length < 2)
  (done:Q (.ref (s.heap.objs.size+1)) { s with heap:=sortedAll s.heap bM bM.toArray }):wpAny (model prog w) A (call (.builtin "sorted") [.ref l]) Q E s:=by
 refine Calls.call_function_entry kind_sorted plain_sorted entry_sorted (args_sorted1 _) ?_
 unfold Builtin.«sorted»
 refine af (m:=checkCount "sorted" 1 1 _) (av (af (collect_list hl (af (wpAny_newList ?_)))))
 have e1:((s.heap.push (uB "list" #[] 0)).update s.heap.objs.size (jh (·++bM.toArray))).objs.size=s.heap.objs.size+1:=by rw [Fc,size_push']
 have e2:(((s.heap.push (uB "list" #[] 0)).update s.heap.objs.size (jh (·++bM.toArray))).push (uB "list" bM.toArray 0)).get? (s.heap.objs.size+1)=some (uB "list" bM.toArray 0):=by
  rw [← e1]; exact bx _ rfl
 show wpAny _ _ _ _ _ { s with heap:=((s.heap.push (uB "list" #[] 0)).update s.heap.objs.size (jh (·++bM.toArray))).push (uB "list" bM.toArray 0) }
 rw [e1]
 refine af (fF (dg slot_list_sort ⟨_,e2,rfl⟩ entry_list_sort (FF e2 mU ⟨_,rfl,?_⟩) (args_list_sort _)))
 exact av ⟨_,rfl,done⟩
end
section
open PySem.SeqAt
noncomputable def RU(A:eF)(s:aA)(y x:Value)(b:Bool):Prop :=
 ∀ (prog:ck) (w:World) (E:Value->aA->Prop) (Q:Bool->aA->Prop),Q b s->wpAny (model prog w) A (oneLt' true y x) Q E s
theorem JT{A:eF}{s:aA}{l b:Addr}{xs ys:Array Value}{e lt:Nat->Bool}(hl:s.heap.IsList l xs)(hb:s.heap.IsList b ys)(hu:A.units < cLine)
  (he:∀ j (h1:j < xs.size) (h2:j < ys.size),EqAt A.in1 s xs[j] ys[j] (e j)/\Bb A.in1 s xs[j] ys[j] (lt j)):RU A s (.ref l) (.ref b) (sN e lt xs.size ys.size (min xs.size ys.size) 0):=by
 intro prog w E Q hq
 obtain⟨⟨cls,dd,data,sl⟩,ho,hc,n,hd⟩:=id hl
 obtain⟨⟨RD,Mz,data2,IZ⟩,Hl,Hq,n2,hd2⟩:=id hb
 simp only at hc hd Hq hd2
 subst hc hd Hq hd2
 rw [oneLt'_eq]
 simp only [if_true]
 refine af (wpAny_cRoomFor hu (af (Ld (T:="list") ⟨_,ho,rfl⟩ uD ?_)))
 exact Bg uD ⟨_,ho,rfl⟩ MO (Lh _ _) (Cv l b xs ys n n2 dd Mz sl IZ e lt) ⟨ho,Hl,he,og hq⟩
theorem Gf{A:eF}{s:aA}{l b:Addr}{xs ys:Array Value}{e lt:Nat->Bool}(hl:s.heap.IsTuple l xs)(hb:s.heap.IsTuple b ys)(hu:A.units < cLine)
  (he:∀ j (h1:j < xs.size) (h2:j < ys.size),EqAt A.in1 s xs[j] ys[j] (e j)/\Bb A.in1 s xs[j] ys[j] (lt j)):RU A s (.ref l) (.ref b) (sN e lt xs.size ys.size (min xs.size ys.size) 0):=by
 intro prog w E Q hq
 obtain⟨⟨cls,dd,data,sl⟩,ho,hc,n,hd⟩:=id hl
 obtain⟨⟨RD,Mz,data2,IZ⟩,Hl,Hq,n2,hd2⟩:=id hb
 simp only at hc hd Hq hd2
 subst hc hd Hq hd2
 rw [oneLt'_eq]
 simp only [if_true]
 refine af (wpAny_cRoomFor hu (af (Ld (T:="tuple") ⟨_,ho,rfl⟩ lY ?_)))
 exact Bg lY ⟨_,ho,rfl⟩ sv (qG _ _) (zj l b xs ys n n2 dd Mz sl IZ e lt) ⟨ho,Hl,he,og hq⟩
theorem Hh{n:Nat}{A:eF}{s:aA}{xs ys:List D}{vs ws:Array Value}{as bs:List Addr}(r1:g7 s.heap vs.toList (lV xs) as)(r2:g7 s.heap ws.toList (lV ys) bs)(n1:qj xs=true)(n2:qj ys=true)(hd:cO (lV xs)<=n)
  (hu:A.units+n < cLine) (hs:∀ j,j < xs.length->j < ys.length->∃ sh,dF sh (xs.getD j .du)=true/\dF sh (ys.getD j .du)=true) (j:Nat) (h1:j < vs.size) (h2:j < ws.size) :
  EqAt A s vs[j] ws[j] (i7 (xs.getD j .du) (ys.getD j .du))/\Bb A s vs[j] ws[j] (nC (xs.getD j .du) (ys.getD j .du)):=by
 have z1:=readsAll_len r1
 have z2:=readsAll_len r2
 have e1:vs.size=xs.length:=by simpa using z1
 have e2:ws.size=ys.length:=by simpa using z2
 refine⟨Et r1 r2 n1 n2 (by lia) j h1 h2,?_⟩
 obtain⟨Zw,q1⟩:=j6 r1 j (by simpa using h1)
 obtain⟨Zs,q2⟩:=j6 r2 j (by simpa using h2)
 obtain⟨sh,g1,g2⟩:=hs j (by lia) (by lia)
 have dp:=lh xs j
 have:=z9 n sh (xs.getD j .du) (ys.getD j .du) A s _ _ _ _ (by lia) g1 g2 (pK n1 j) (pK n2 j) q1 q2 hu
 simpa using this
theorem qZ{n:Nat}{sh:nH}{a b:D}{A:eF}{s:aA}{u v:Value}{as bs:List Addr}(hn:(pd a).depth<=n)(h1:dF sh a=true)(h2:dF sh b=true)(n1:nr a=true)(n2:nr b=true)(r1:Reads s.heap u (pd a) as)(r2:Reads s.heap v (pd b) bs)
  (hu:A.units+n < cLine):RU A s u v (nC a b):=by
 cases sh with
 | int =>
  first | obtain⟨_,rfl⟩:=eB h1 | obtain⟨_,rfl⟩:=eu h1 | obtain⟨_,rfl⟩:=eA h1
  first | obtain⟨_,rfl⟩:=eB h2 | obtain⟨_,rfl⟩:=eu h2 | obtain⟨_,rfl⟩:=eA h2
  cases r1; cases r2
  intro prog w E Q hq
  exact oneLt_int hq
 | tup l =>
  first | obtain⟨_,rfl⟩:=eB h1 | obtain⟨_,rfl⟩:=eu h1 | obtain⟨_,rfl⟩:=eA h1
  first | obtain⟨_,rfl⟩:=eB h2 | obtain⟨_,rfl⟩:=eu h2 | obtain⟨_,rfl⟩:=eA h2
  rename_i xs ys
  have n1:qj xs=true:=n1
  have n2:qj ys=true:=n2
  cases r1 with
  | tuple k1 k2 k3 k4 =>
   cases r2 with
   | tuple m1 m2 m3 m4 =>
    rename_i p o vs c p' o' ws c'
    have hd:(pd (.tup xs)).depth=cO (lV xs)+1:=rfl
    obtain⟨n',rfl⟩:∃ n',n=n'+1:=⟨n - 1,by lia⟩
    have z1:=readsAll_len k4
    have z2:=readsAll_len m4
    have e1:vs.size=xs.length:=by simpa using z1
    have e2:ws.size=ys.length:=by simpa using z2
    have base:=Gf (A:=A) (s:=s) ⟨_,k1,k2,_,k3⟩ ⟨_,m1,m2,_,m3⟩ (by lia) (Hh (A:=A.in1) (n:=n') k4 m4 n1 n2 (by lia) (by show A.units+1+n' < cLine; lia) fun j j1 j2=>by
     obtain⟨sj,hsj,g1,g2⟩:=rC (l:=l) (ds:=xs) h1 j j1
     obtain⟨sj',aew,g1',YO⟩:=rC (l:=l) (ds:=ys) h2 j j2
     rw [g2] at YO; cases YO
     exact⟨sj,g1,g1'⟩)
    have fin:=oP xs ys (min xs.length ys.length) 0 (cJ _) rfl
    rw [e1,e2,fin] at base
    exact base
 | lst l =>
  first | obtain⟨_,rfl⟩:=eB h1 | obtain⟨_,rfl⟩:=eu h1 | obtain⟨_,rfl⟩:=eA h1
  first | obtain⟨_,rfl⟩:=eB h2 | obtain⟨_,rfl⟩:=eu h2 | obtain⟨_,rfl⟩:=eA h2
  rename_i xs ys
  have n1:qj xs=true:=n1
  have n2:qj ys=true:=n2
  cases r1 with
  | list k1 k2 k3 k4 =>
   cases r2 with
   | list m1 m2 m3 m4 =>
    rename_i p o vs c p' Zw o' ws c' Zs
    have hd:(pd (.fG xs)).depth=cO (lV xs)+1:=rfl
    obtain⟨n',rfl⟩:∃ n',n=n'+1:=⟨n - 1,by lia⟩
    have z1:=readsAll_len k4
    have z2:=readsAll_len m4
    have e1:vs.size=xs.length:=by simpa using z1
    have e2:ws.size=ys.length:=by simpa using z2
    have base:=JT (A:=A) (s:=s) ⟨_,k1,k2,_,k3⟩ ⟨_,m1,m2,_,m3⟩ (by lia) (Hh (A:=A.in1) (n:=n') k4 m4 n1 n2 (by lia) (by show A.units+1+n' < cLine; lia) fun j j1 j2=>⟨l,rD (s:=l) (ds:=xs) h1 j j1,rD (s:=l) (ds:=ys) h2 j j2⟩)
    have fin:=oP xs ys (min xs.length ys.length) 0 (cJ _) rfl
    rw [e1,e2,fin] at base
    exact base
theorem Ee{prog:ck}{w:World}{A:eF}{s:aA}{b fin:Bool}{Q:Bool->aA->Prop}{n:Nat}(hu:A.units+n < cLine):∀ (l:List nH) (xs ys:List D) (vs ws:List Value) (as bs:List Addr) (i:Nat),fY l xs=true->fY l ys=true->qj xs=true->qj ys=true ->
  g7 s.heap vs (lV xs) as->g7 s.heap ws (lV ys) bs->cO (lV xs)<=n->fin=false->Q (nB xs ys) s->KatLex prog w A b fin Q (vs.zip ws) i s:=by
 intro l xs
 induction xs generalizing l with
 | nil =>
  intro ys vs ws as bs i h1 h2 n1 n2 r1 r2 hd hf hq
  cases r1
  cases l with
  | nil =>
   cases ys with
   | nil=>cases r2; subst hf; exact hq
   | cons _ _=>cases h2
  | cons _ _=>cases h1
 | cons x xs ih =>
  intro ys vs ws as bs i h1 h2 n1 n2 r1 r2 hd hf hq
  cases l with
  | nil=>cases h1
  | cons sh l =>
  cases ys with
  | nil=>cases h2
  | cons y ys =>
  cases r1 with
  | @cons v vs _ _ _ _ a1 a2 =>
  cases r2 with
  | @cons u ws _ _ _ _ b1 b2 =>
  have h1:(dF sh x&&fY l xs)=true:=h1
  have h2:(dF sh y&&fY l ys)=true:=h2
  have n1:(nr x&&qj xs)=true:=n1
  have n2:(nr y&&qj ys)=true:=n2
  rw [aP] at h1 h2 n1 n2
  have hd1:(pd x).depth<=n/\cO (lV xs)<=n:=by
   have hd:cO (pd x :: lV xs)<=n:=hd
   simp only [cO] at hd
   lia
  show KatLex prog w A b fin Q ((v,u) :: vs.zip ws) i s
  have eq:=eqAt_reads (pd x) (pd y) A s _ _ _ _ a1 b1 (kc _ n1.1) (kc _ n2.1) (by lia)
  rw [uc _ _ n1.1 n2.1] at eq
  refine kat_cons (eq prog w _ _ ?_)
  rw [pP] at hq
  cases q:i7 x y with
  | true =>
   rw [q,if_pos rfl] at hq
   exact kat_yes (ih l ys vs ws _ _ (i+1) h1.2 h2.2 n1.2 n2.2 a2 b2 hd1.2 hf hq)
  | false =>
   rw [q,if_neg (by simp)] at hq
   refine kat_no ?_
   cases c:(b&&i == 0) with
   | true=>exact qZ hd1.1 h1.1 h2.1 n1.1 n2.1 a1 b1 hu prog w _ Q hq
   | false=>exact kat_one v u (z9 n sh x y A s _ _ _ _ hd1.1 h1.1 h2.1 n1.1 n2.1 a1 b1 hu prog w _ _ hq)
end
noncomputable def lu{α:Type}(n:Nat)(P:α->Prop):KasT α->Prop
 | .ret a=>P a
 | .ask i j k=>i < n/\j < n/\∀ b,lu n P (k b)
theorem lu.bind{α β:Type}{n:Nat}{P:α->Prop}{P':β->Prop}{f:α->KasT β}:∀ {t:KasT α},lu n P t->(∀ a,P a->lu n P' (f a))->lu n P' (t.bind f)
 | .ret a,q,h=>h a q
 | .ask i j k,⟨q1,q2,q3⟩,h=>⟨q1,q2,fun b=>lu.bind (q3 b) h⟩
theorem Au{α:Type}{n:Nat}{lt:Nat->Nat->Bool}{cmp:Nat->Nat->(Bool->aA->Prop)->aA->Prop}{s:aA}{Q:α->aA->Prop}(hc:∀ i j,i < n->j < n->∀ C:Bool->aA->Prop,C (lt i j) s->cmp i j C s) :
  ∀ (t:KasT α),lu n (fun _=>True) t->Q (iI lt t) s->t.kasWp cmp Q s
 | .ret a,_,q=>q
 | .ask i j k,⟨h1,h2,h3⟩,q=>hc i j h1 h2 _ (Au hc (k (lt i j)) (h3 _) q)
noncomputable def Bd(n:Nat)(p:Array Nat):Prop:=0 < n/\∀ x∈p,x < n
theorem Bd.at{n:Nat}{p:Array Nat}(h:Bd n p)(k:Nat):p.getD k 0 < n:=by
 by_cases hk:k < p.size
 ·have:p.getD k 0=p[k]:=by simp [qI,hk]
  rw [this]; exact h.2 _ (Array.getElem_mem hk)
 ·have:p.getD k 0=0:=by simp [qI,hk]
  rw [this]; exact h.1
theorem Bd.perm{n:Nat}{p q:Array Nat}(h:Bd n p)(hp:q.Perm p):Bd n q:=⟨h.1,fun x hx=>h.2 x (hp.mem_iff.mp hx)⟩
theorem EO{n:Nat}{p:Array Nat}(h:Bd n p):∀ (f k:Nat),lu n (fun _=>True) (qD p f k)
 | 0,k=>trivial
 | f+1,k=>⟨h.at _,h.at _,fun b=>by
  show lu n _ (if b=true then wy k else qD p f (k+1))
  split
  ·trivial
  ·exact EO h f (k+1)⟩
theorem v3{n:Nat}:∀ (f:Nat) (p:Array Nat) (k q:Nat),Bd n p->lu n (fun r=>Bd n r.1) (lA f p k q)
 | 0,p,k,q,h=>h
 | f+1,p,k,q,h=>⟨h.at _,h.at _,fun b=>by
  show lu n _ (if b=true then (if q > 0 then lA f (gY p (k - (q+1)) k) (k+1) 0 else lA f p (k+1) 0) else .ask (p.getD (k - 1) 0) (p.getD k 0) fun d=>if d=true then .ret (p,k,q) else lA f p (k+1) (q+1))
  split
  ·split
   ·exact v3 f _ _ _ (h.perm (j5 _ _ _))
   ·exact v3 f _ _ _ h
  ·refine⟨h.at _,h.at _,fun d=>?_⟩
   show lu n _ (if d=true then wy (p,k,q) else lA f p (k+1) (q+1))
   split
   ·exact h
   ·exact v3 f _ _ _ h⟩
theorem Ir{n:Nat}{p:Array Nat}(h:Bd n p)(k m:Nat):lu n (fun r=>Bd n r.2) (O6 k m p) :=
 lu.bind (EO (h.perm (j5 _ _ _)) _ _) fun _ _=>h.perm (j5 _ _ _)
theorem vZ{n:Nat}{p:Array Nat}(h:Bd n p)(k m:Nat):lu n (fun r=>Bd n r.2) (yY k m p) :=
 lu.bind (v3 _ _ _ _ h) fun r hr=>by
  split
  ·exact Ir (hr.perm (j5 _ _ _)) _ _
  ·exact Ir hr _ _
theorem Om{n:Nat}{p:Array Nat}(h:Bd n p)(m:Nat):lu n (fun r=>Bd n r.2) (kas_count m p) :=
 lu.bind (EO h _ _) fun k _=>by
  split
  ·exact h
  ·split
   ·refine⟨h.at _,h.at _,fun b=>?_⟩
    show lu n _ (if b=true then wy (k,p) else yY k m (gY p 0 k))
    split
    ·exact h
    ·exact vZ (h.perm (j5 _ _ _)) _ _
   ·exact vZ h _ _
theorem xh{n:Nat}{p:Array Nat}(h:Bd n p)(k:Nat):∀ (f l r:Nat),lu n (fun _=>True) (j0 p k f l r)
 | 0,l,r=>trivial
 | f+1,l,r=>by
  show lu n _ (if l>=r then wy l else .ask (p.getD k 0) (p.getD ((l+r) / 2) 0) fun c=>if c=true then j0 p k f l ((l+r) / 2) else j0 p k f ((l+r) / 2+1) r)
  split
  ·trivial
  ·refine⟨h.at _,h.at _,fun b=>?_⟩
   show lu n _ (if b=true then j0 p k f l ((l+r) / 2) else j0 p k f ((l+r) / 2+1) r)
   split
   ·exact xh h k f _ _
   ·exact xh h k f _ _
theorem MH{n:Nat}:∀ (f:Nat) (p:Array Nat) (k:Nat),Bd n p->lu n (fun _=>True) (kas_bin f p k)
 | 0,p,k,h=>trivial
 | f+1,p,k,h=>lu.bind (xh h k _ _ _) fun l _=>MH f _ _ (h.perm (bubble_perm _ _ _))
theorem Iu{n:Nat}(h:0 < n):lu n (fun _=>True) (kas_sort n) :=
 lu.bind (Om ⟨h,fun x hx=>by simpa using hx⟩ n) fun r hr=>by
  split
  ·exact MH _ _ _ hr
  ·trivial
end K2
end
section
namespace K2
open PySem PySem.Spec PyProof.Rows L2 PySem.W
mutual
theorem qU{h h':Heap}(hk:∀ b o vs n,o.data=.seq vs n->h.get? b=some o->h'.get? b=some o):∀ (d:D) {v:Value} {as:List Addr},nr d=true->Reads h v (pd d) as->Reads h' v (pd d) as
 | .du,_,_,_,r=>by cases r; exact .none
 | .bl b,_,_,_,r=>by cases r; exact .bool b
 | .int i,_,_,_,r=>by cases r; exact .int i _
 | .str x,_,_,_,r=>by cases r; exact .str x _
 | .tup ds,_,_,n,r=>by
  cases r with
  | tuple h1 h2 h3 h4=>exact .tuple (hk _ _ _ _ h3 h1) h2 h3 (mH hk ds n h4)
 | .fG ds,_,_,n,r=>by
  cases r with
  | list h1 h2 h3 h4=>exact .list (hk _ _ _ _ h3 h1) h2 h3 (mH hk ds n h4)
 | .kg _,_,_,n,_=>by cases n
 | .ref _,_,_,n,_=>by cases n
 | .exc _,_,_,n,_=>by cases n
theorem mH{h h':Heap}(hk:∀ b o vs n,o.data=.seq vs n->h.get? b=some o->h'.get? b=some o):∀ (ds:List D) {vs:List Value} {as:List Addr},qj ds=true->g7 h vs (lV ds) as->g7 h' vs (lV ds) as
 | [],_,_,_,r=>by cases r; exact .nil
 | d :: ds,_,_,n,r=>by
  have n:(nr d&&qj ds)=true:=n
  rw [aP] at n
  cases r with
  | cons r1 r2=>exact .cons (qU hk d n.1 r1) (mH hk ds n.2 r2)
end
mutual
theorem Dx(G:Gp):∀ (sh:nH) (d:D) (n:Nat),dF sh d=true->T4 sh<=n->Sn G n d d
 | .int,.int i,n,_,_=>.int i
 | .tup l,.tup ds,n,h,hn=>by
  have hn:Rq l+1<=n:=hn
  obtain⟨m,rfl⟩:∃ m,n=m+1:=⟨n - 1,by lia⟩
  exact Lz G l ds m h (by lia)
 | .lst s,.fG ds,n,h,hn=>by
  have hn:T4 s+1<=n:=hn
  obtain⟨m,rfl⟩:∃ m,n=m+1:=⟨n - 1,by lia⟩
  exact LA G s ds m h (by lia)
theorem Lz(G:Gp):∀ (l:List nH) (ds:List D) (m:Nat),fY l ds=true->Rq l<=m->Sn G (m+1) (.tup ds) (.tup ds)
 | [],[],m,_,_=>.JB
 | s :: l,d :: ds,m,h,hm=>by
  have h:(dF s d&&fY l ds)=true:=h
  have hm:max (T4 s) (Rq l)<=m:=hm
  rw [aP] at h
  exact .qQ (Dx G s d m h.1 (by lia)) (Lz G l ds m h.2 (by lia))
theorem LA(G:Gp):∀ (s:nH) (ds:List D) (m:Nat),g6 s ds=true->T4 s<=m->Sn G (m+1) (.fG ds) (.fG ds)
 | s,[],m,_,_=>.FR
 | s,d :: ds,m,h,hm=>by
  have h:(dF s d&&g6 s ds)=true:=h
  rw [aP] at h
  exact .FV (Dx G s d m h.1 hm) (LA G s ds m h.2 hm)
end
theorem getD_at{α:Type}(xs:List α)(d:α){i:Nat}(h:i < xs.length):xs.getD i d=xs[i]:=by
 rw [az,ag h]; rfl
theorem mM{α:Type}(xs:List α)(d:α):(bq xs.length).map (fun i=>xs.getD i d)=xs:=by
 refine E8 (by simp) fun i h1 h2=>?_
 rw [dJ,lD]
 exact getD_at _ _ h2
theorem xm{h:Heap}{s1:nH}{l:List nH}:∀ (zs:List D) (vs:List Value),(∀ z∈zs,dF (.tup (s1 :: l)) z=true)->(∀ i,i < vs.length->∃ as,Reads h (vs.getD i .none) (pd (zs.getD i .du)) as)->vs.length=zs.length ->
  ∃ fs,KatTups h vs fs/\fs.length=vs.length/\∀ f∈fs,∃ d as,dF s1 d=true/\Reads h f (pd d) as:=by
 intro zs
 induction zs with
 | nil =>
  intro vs _ _ h
  have:vs=[]:=List.length_eq_zero_iff.mp h
  subst this
  exact⟨[],trivial,rfl,fun _ h=>by cases h⟩
 | cons z zs ih =>
 intro vs hs hr hl
 cases vs with
 | nil=>cases hl
 | cons v vs =>
  obtain⟨fs,h1,h2,h3⟩:=ih vs (fun z hz=>hs z (ao _ hz)) (fun i hi=>by
   obtain⟨as,r⟩:=hr (i+1) (by simpa using hi)
   exact⟨as,by simpa using r⟩) (by simpa using hl)
  obtain⟨as,r⟩:=hr 0 (by simp)
  have hz:=hs z (by simp)
  simp only [oZ] at r
  cases z <;> first | (cases hz; done) | skip
  rename_i ds
  cases ds with
  | nil=>cases hz
  | cons d ds =>
   have hz:(dF s1 d&&fY l ds)=true:=hz
   rw [aP] at hz
   cases r with
   | tuple k1 k2 k3 k4 =>
    rename_i p o ws c
    have k5:g7 h ws.toList (pd d :: lV ds) as:=k4
    cases q:ws.toList with
    | nil=>rw [q] at k5; cases k5
    | cons f rest =>
     rw [q] at k5
     cases k5 with
     | cons r1 r2 =>
      have hf:ws[0]?=some f:=by
       have:ws.toList[0]?=some f:=by rw [q]; rfl
       simpa using this
      refine⟨f :: fs,.cons k1 k2 k3 hf h1,by simp [h2],fun g hg=>?_⟩
      rcases List.mem_cons.mp hg with rfl | hg
      ·exact⟨d,_,hz.1,r1⟩
      ·exact h3 g hg
noncomputable def FA:nH->Value
 | .int=>.type "int"
 | .tup _=>.type "tuple"
 | .lst _=>.type "list"
theorem sf{M:Model}{h:Heap}{sh:nH}{d:D}{v:Value}{as:List Addr}(hs:dF sh d=true)(r:Reads h v (pd d) as):Looks M h (typeOf v) (FA sh):=by
 cases sh with
 | int =>
  cases d <;> first | (cases hs; done) | skip
  cases r
  exact .now
 | tup l =>
  cases d <;> first | (cases hs; done) | skip
  cases r with
  | tuple k1 k2 k3 k4 =>
   rename_i p o ws c
   have:Looks M h (typeOf (.ref p)) o.cls:=(Looks.ld k1).andThen .now
   rw [k2] at this; exact this
 | lst l =>
  cases d <;> first | (cases hs; done) | skip
  cases r with
  | list k1 k2 k3 k4 =>
   rename_i p o ws c as
   have:Looks M h (typeOf (.ref p)) o.cls:=(Looks.ld k1).andThen .now
   rw [k2] at this; exact this
theorem Cy{prog:ck}{w:World}{A:eF}{s:aA}{E:Value->aA->Prop}{Q:Bool->aA->Prop}{n:Nat}{b:Bool}{l:List nH}{a c:D}{u v:Value}{as bs:List Addr}(hn:(pd a).depth<=n+1)(h1:dF (.tup l) a=true)(h2:dF (.tup l) c=true)(n1:nr a=true)(n2:nr c=true)
  (r1:Reads s.heap u (pd a) as) (r2:Reads s.heap v (pd c) bs) (hu:A.units+n < cLine) (hq:Q (nC a c) s):wpAny (model prog w) A (keyLt' (tuples' b) u v) Q E s:=by
 first | obtain⟨_,rfl⟩:=eB h1 | obtain⟨_,rfl⟩:=eu h1 | obtain⟨_,rfl⟩:=eA h1
 first | obtain⟨_,rfl⟩:=eB h2 | obtain⟨_,rfl⟩:=eu h2 | obtain⟨_,rfl⟩:=eA h2
 rename_i xs ys
 cases r1 with
 | tuple k1 k2 k3 k4 =>
  cases r2 with
  | tuple m1 m2 m3 m4 =>
   rename_i p o vs c p' o' ws c'
   have z1:=readsAll_len k4
   have z2:=readsAll_len m4
   have e1:vs.size=xs.length:=by simpa using z1
   have e2:ws.size=ys.length:=by simpa using z2
   have el:∀ (l:List nH) (xs ys:List D),fY l xs=true->fY l ys=true->xs.length=ys.length:=by
    intro l
    induction l with
    | nil =>
     intro xs ys h1 h2
     cases xs with
     | nil=>cases ys with
      | nil=>rfl
      | cons _ _=>cases h2
     | cons _ _=>cases h1
    | cons s l ih =>
     intro xs ys h1 h2
     cases xs with
     | nil=>cases h1
     | cons x xs =>
      cases ys with
      | nil=>cases h2
      | cons y ys =>
       have h1:(dF s x&&fY l xs)=true:=h1
       have h2:(dF s y&&fY l ys)=true:=h2
       rw [aP] at h1 h2
       rw [ak,ak,ih xs ys h1.2 h2.2]
   have hd:(pd (.tup xs)).depth=cO (lV xs)+1:=rfl
   refine kat_lt k1 k3 m1 m3 (Ee (n:=n) hu l xs ys _ _ _ _ 0 h1 h2 n1 n2 k4 m4 (by lia) (decide_eq_false (by rw [e1,e2,el l xs ys h1 h2]; lia)) hq)
section
variable {X:Cx}
theorem Cu{x:D}{G:Gp}{zs:List D}(ty:yf x G)(hi:itemsOf x G=some zs):ql x G=some zs:=by
 cases x <;> first | exact ty.elim | exact hi
theorem EE (hc:X.calm=true) (hu:X.A.units+64 < cLine):qf X (.builtin "sorted") yT:=by
 intro pins s σ H G xs ds us Q I ab rx rd q
 unfold yT at q
 split at q
 ·rename_i x
  obtain⟨sh,zs,ty,hi,rE,cT,h64,q⟩:=q
  obtain⟨w1,rfl,DC⟩:=rd.one
  obtain⟨u,rfl,ru⟩:=rx.one
  obtain⟨l,vs,bM,rfl,rv,rs,hl,_⟩:=kJ I ab ru DC (Cu ty hi)
  have UL:=rv.length
  have Sj:=rs.length
  have hsz:bG=16777216:=cN
  have hz:∀ z∈zs,dF sh z=true:=fun z h=>List.all_eq_true.mp rE z h
  by_cases mU:bM.length < 2
  ·refine JK hl mU ?_
   obtain⟨e,he⟩:=sortedAll_at s.heap bM bM.toArray
   have hp:H (s.heap.objs.size+1)=none:=I.cT.fresh (Nat.le_succ _)
   have es:nW zs=zs:=mf sh hz (.refl _) (by
    match zs,Sj,mU with
    | [],_,_=>exact .nil
    | [z],_,_=>exact OE _ _
    | _ :: _ :: _,h,f=>exact absurd f (by rw [← UL,h]; simp))
   rw [es] at q
   refine⟨.ref (s.heap.objs.size+1),upd H (s.heap.objs.size+1) (.lst vs),.ref _,_,I.laid (t':=s.toks) (fun b o e=>sortedAll_old e) (Nat.le_succ _) ?_,.BA ab hp rs,rfl,.ref _,q _ (ab.free hp)⟩
   exact⟨by lia,bM,e,rv,he⟩
  ·obtain⟨m,F0⟩:=I.fr
   have nz:0 < zs.length:=by lia
   have nL:∀ b o vs n,o.data=.seq vs n->s.heap.get? b=some o->b≠X.env.locals:=fun b o vs n e1 e2 z=>by
    obtain⟨o',es,ep,NU,yO,_⟩:=F0.ns
    rw [z,NU] at e2; cases e2; rw [yO] at e1; cases e1
   unfold Qn at cT
   rw [aP] at cT
   have hdp:T4 sh<=7:=of_decide_eq_true cT.1
   have sn:∀ z∈zs,Sn G 7 z z:=fun z h=>Dx G sh z 7 (hz z h) hdp
   refine kat_sorted F0 zV hl (by lia) (by lia) fun Dd e1 h' F N lG=>?_
   obtain⟨kk,ns⟩:=mB I F0 F fun p hp=>N p (ao _ hp)
   have zH:∀ i,i < bM.length->∃ as,Reads h' (bM.getD i .none) (pd (zs.getD i .du)) as:=fun i hi=>by
    have i1:i < zs.length:=by lia
    have i2:i < vs.length:=by lia
    have g1:zs.getD i .du=zs[i]:=getD_at _ _ i1
    have g2:bM.getD i .none=bM[i]:=getD_at _ _ hi
    obtain⟨v,hv,Xy⟩:=rs.get (ag i1)
    obtain⟨u,wV,Vn⟩:=rv.get hv
    rw [ag hi] at wV
    cases wV
    obtain⟨as,r⟩:=(iF I ab (sn _ (cq i1))).1 v _ Xy Vn
    rw [g1,g2]
    exact⟨as,qU (fun b o vs n e1 e2=>kk b o (nL b o vs n e1 e2) e2) _ (sn _ (cq i1)).nr r⟩
   have xp:∀ i,i < zs.length->dF sh (zs.getD i .du)=true:=fun i hi=>by rw [getD_at _ _ hi]; exact hz _ (cq hi)
   have Tv:∀ i,i < zs.length->nr (zs.getD i .du)=true:=fun i hi=>by rw [getD_at _ _ hi]; exact(sn _ (cq hi)).nr
   have YZ:∀ i,i < zs.length->(pd (zs.getD i .du)).depth<=7:=fun i hi=>by rw [getD_at _ _ hi]; exact AK (sn _ (cq hi))
   let zz:Nat->D:=fun i=>if i < zs.length then zs.getD i .du else zs.getD 0 .du
   have Pl:∀ i,dF sh (zz i)=true:=fun i=>by
    show dF sh (if i < zs.length then zs.getD i .du else zs.getD 0 .du)=true
    split
    ·exact xp i (by assumption)
    ·exact xp 0 nz
   let lt:Nat->Nat->Bool:=fun i j=>nC (zz i) (zz j)
   have swo:MJ lt:=⟨fun i j h=>wN sh (Pl i) (Pl j) h,fun i j k h1 h2=>tQ sh (Pl i) (Pl j) (Pl k) h1 h2⟩
   have X4:∀ i j,i < zs.length->j < zs.length->lt i j=nC (zs.getD i .du) (zs.getD j .du):=fun i j hi hj=>by
    show nC (if i < zs.length then _ else _) (if j < zs.length then _ else _)=_
    rw [if_pos hi,if_pos hj]
   obtain⟨p,ep,rB,XD,hup⟩:=FQ swo (n:=bM.length) (by lia)
   have YK:X.A.in1.in1.units=X.A.units+2:=rfl
   have ask:∀ κ:SortKind,(∀ i j,i < bM.length->j < bM.length->∀ C:Bool->aA->Prop,C (nC (zs.getD i .du) (zs.getD j .du)) { s with heap:=h' }->kas_ask X.prog X.w X.A.in1.in1 κ bM i j C { s with heap:=h' }) ->
     (kas_sort bM.length).kasWp (kas_ask X.prog X.w X.A.in1.in1 κ bM) (fun p Vm=>KasFin X.base X.env.locals m Dd e1 (p.toList.map fun i=>bM.getD i eD) (fun s3=>sV X pins σ H G Q (.ref Dd) s3) Vm) { s with heap:=h' }:=by
    intro κ hk
    refine Au (lt:=lt) (n:=bM.length) (fun i j i1 i2 C hC=>hk i j i1 i2 C (by rw [← X4 i j (by lia) (by lia)]; exact hC)) _ (Iu (by lia)) ?_
    rw [ep]
    refine KasFin.intro (g:=fun o=>(Dd,o) :: qc X.base s.heap X.env.locals) F N (.head (fun q hq z=>absurd (lG q hq) (by rw [z]; exact gi _))) fun h2 c F2 N2=>?_
    obtain⟨k2,ns2⟩:=mB I F0 F2 fun p hp=>N2 p (ao _ hp)
    have hD:s.heap.get? Dd=none:=by
     have nD:=N _ ay
     cases qd:s.heap.get? Dd with
     | none=>rfl
     | some o=>exact absurd (lG _ (nZ nD.2.1 nD.2.2 qd)) (gi _)
    have hp:H Dd=none:=yQ I.cT hD
    have rvp:Vals (p.toList.map fun i=>vs.getD i .du) (p.toList.map fun i=>bM.getD i eD):=by
     have:∀ (ps:List Nat),(∀ i∈ps,i < bM.length)->Vals (ps.map fun i=>vs.getD i .du) (ps.map fun i=>bM.getD i eD):=by
      intro ps
      induction ps with
      | nil=>intro _; exact .nil
      | cons i ps ih =>
       intro hh
       have hi:=hh i (by simp)
       refine .cons ?_ (ih fun j hj=>hh j (ao _ hj))
       have i2:i < vs.length:=by lia
       obtain⟨u,wV,Vn⟩:=rv.get (ag i2)
       rw [ag hi] at wV
       cases wV
       show RelV (vs.getD i .du) (bM.getD i .none)
       rw [getD_at _ _ i2,getD_at _ _ hi]; exact Vn
     exact this _ fun i hi=>by simpa using rB.mem_iff.mp hi
    have rsp:bF X.K H (p.toList.map fun i=>vs.getD i .du) (p.toList.map fun i=>zs.getD i .du):=by
     have:∀ (ps:List Nat),(∀ i∈ps,i < bM.length)->bF X.K H (ps.map fun i=>vs.getD i .du) (ps.map fun i=>zs.getD i .du):=by
      intro ps
      induction ps with
      | nil=>intro _; exact .nil
      | cons i ps ih =>
       intro hh
       have hi:=hh i (by simp)
       refine .cons ?_ (ih fun j hj=>hh j (ao _ hj))
       have i2:i < vs.length:=by lia
       have i1:i < zs.length:=by lia
       obtain⟨v,hv,r⟩:=rs.get (ag i1)
       rw [ag i2] at hv
       cases hv
       show cX X.K H (vs.getD i .du) (zs.getD i .du)
       rw [getD_at _ _ i2,getD_at _ _ i1]; exact r
     exact this _ fun i hi=>by simpa using rB.mem_iff.mp hi
    have es:nW zs=p.toList.map fun i=>zs.getD i .du:=by
     refine mf sh hz ?_ ?_
     ·have h1:(p.toList.map fun i=>zs.getD i .du).Perm ((bq zs.length).map fun i=>zs.getD i .du):=by
       have:bM.length=zs.length:=by lia
       rw [← this]
       exact rB.map _
      rw [mM] at h1
      exact h1
     ·rw [iB,Li]
      intro i j hi hj I0
      have g1:gA p i=p.toList[i]:=by
       have:i < p.size:=by simpa using hi
       simp [gA,qI,this]
      have g2:gA p j=p.toList[j]:=by
       have:j < p.size:=by simpa using hj
       simp [gA,qI,this]
      have bi:p.toList[i] < bM.length:=by simpa using rB.mem_iff.mp (cq hi)
      have bj:p.toList[j] < bM.length:=by simpa using rB.mem_iff.mp (cq hj)
      have:=hup i j (by lia) (by have:j < p.toList.length:=hj; rw [bJ,XD] at this; exact this)
      rw [g1,g2,X4 _ _ (by lia) (by lia)] at this
      exact this
    rw [es] at q
    have ln:(p.toList.map fun i=>vs.getD i .du).length<=bG:=by rw [ah,bJ,XD]; lia
    refine⟨.ref Dd,upd H Dd (.lst (p.toList.map fun i=>vs.getD i .du)),.ref _,_,Inv.LZ (t':=s.toks) I k2 ns2 hD ?_,.BA ab hp rsp,rfl,.ref _,q _ (ab.free hp)⟩
    exact⟨ln,_,c,rvp,(N2 _ ay).1⟩
   have gen:∀ i j,i < bM.length->j < bM.length->∀ C:Bool->aA->Prop,C (nC (zs.getD i .du) (zs.getD j .du)) { s with heap:=h' }->wpAny (model X.prog X.w) X.A.in1.in1 (keyLt' OC (bM.getD i eD) (bM.getD j eD)) C (fun _ _=>False) { s with heap:=h' }:=by
    intro i j hi hj C hC
    obtain⟨as,r1⟩:=zH i hi
    obtain⟨bs,r2⟩:=zH j hj
    rw [keyLt'_oneType]
    exact qZ (s:={ s with heap:=h' }) (n:=7) (YZ i (by lia)) (xp i (by lia)) (xp j (by lia)) (Tv i (by lia)) (Tv j (by lia)) r1 r2 (by rw [YK]; lia) X.prog X.w _ C hC
   have lk:∀ v∈bM,Looks (model X.prog X.w) h' (typeOf v) (FA sh):=fun v hv=>by
    obtain⟨i,hi,rfl⟩:=da hv
    obtain⟨as,r⟩:=zH i hi
    rw [getD_at _ _ hi] at r
    exact sf (xp i (by lia)) r
   cases sh with
   | int=>exact kas_kind (s:={ s with heap:=h' }) (T:=.type "int") (by lia) lk rfl rfl (ask OC gen)
   | lst ss=>exact kas_kind (s:={ s with heap:=h' }) (T:=.type "list") (by lia) lk rfl rfl (ask OC gen)
   | tup ss =>
    cases ss with
    | nil=>exact absurd cT.2 (by simp)
    | cons s1 ss =>
     obtain⟨fs,t1,t2,t3⟩:=xm (h:=h') zs bM hz zH (by lia)
     refine kat_kind (s:={ s with heap:=h' }) (T:=FA s1) t1 (by lia) (fun f hf=>?_) (by cases s1 <;> rfl) (ask _ fun i j hi hj C hC=>?_)
     ·obtain⟨d,as,h1,h2⟩:=t3 f hf
      exact sf h1 h2
     ·obtain⟨as,r1⟩:=zH i hi
      obtain⟨bs,r2⟩:=zH j hj
      exact Cy (s:={ s with heap:=h' }) (n:=7) (by have:=YZ i (by lia); lia) (xp i (by lia)) (xp j (by lia)) (Tv i (by lia)) (Tv j (by lia)) r1 r2 (by rw [YK]; lia) hC
 ·exact q.elim
end
end K2
end
section
namespace L2
open PySem PySem.Spec PyProof.Rows
section
variable {prog:ck} {w:World} {A:eF} {E:Value->aA->Prop} {s:aA}
theorem As{d:Addr}{od:Obj}{es:Array ip}{c:Nat}{Q:Value->aA->Prop}(ns:(d == e6)=false)(xM:s.heap.get? d=some od)(ex:od.ExactDict)(dd:od.data=.dict es c)
  (hQ:Q (.ref s.heap.objs.size) { s with heap:=s.heap.push { cls:=.type "dict_keyiterator",data:=.fields #[.ref d,.int 0 0,.int es.size 0,.int c 0] } }):wpAny (model prog w) A (BX (.ref d)) Q E s:=by
 have ty:s.TypeIs (.ref d) "dict":=⟨od,xM,ex.1⟩
 refine iU ty F.slot_dict_iter (dg F.slot_dict_iter ty F.entry_dict_iter ?_ (F.args_dict_iter_1 _))
 unfold Builtin.«dict.__iter__» Builtin.Dict.dictSlotNone
 refine af (af (yW ty (show wpAny _ _ (pure (fx d)) _ _ s from av ?_)))
 show wpAny _ _ (iS d >>= _) _ _ s
 unfold iS
 rw [if_neg (fun z=>by rw [ns] at z; cases z)]
 refine af (av (af (eZ xM dd (af (iV xM dd ?_)))))
 refine af (df (av ⟨_,rfl,"dict_keyiterator",_,⟨_,bx _ rfl,rfl⟩,F.slot_dict_keyiterator_next.lookup,?_⟩))
 simpa [qg] using hQ
theorem Cw{it d:Addr}{od:Obj}{es:Array ip}{i c:Nat}{Q:Option Value->aA->Prop}(ki:s.heap.IsKeyIter it d i es.size c)(xM:s.heap.get? d=some od)(dd:od.data=.dict es c)(hi:i < es.size)
  (hQ:∀ h',h'.IsKeyIter it d (i+1) es.size c->gM it s.heap h'->Q (some es[i].key) { s with heap:=h' }):wpAny (model prog w) A (qC (.ref it)) Q E s:=by
 obtain⟨o,ho,hc,hf⟩:=id ki
 unfold qC
 refine af (qu (fU (name:=nj "__next__") ki.typeIs jG (dg jG ki.typeIs Jo ?_ (IW _))))
 refine af (av (af (af ?_)))
 first | refine af (jv ki.typeIs (av ?_)) | refine af (lS ki.typeIs (av ?_))
 refine af (jE ho hf ?_)
 have VB:fX "dict_keyiterator" = false:=by decide
 rw [VB]
 show wpAny _ _ (if (fx d == eD)=true then _ else _) _ _ s
 rw [if_neg (fun z=>by cases z)]
 refine af (av (af (eZ xM dd ?_)))
 rw [if_neg (by simp)]
 refine af (av (af (iV xM dd ?_)))
 rw [if_neg (by simp)]
 refine av ?_
 dsimp only
 rw [if_neg (show ¬ ((i:Int) < 0) from Int.not_lt.mpr (jr i)),aX,bz hi]
 dsimp only
 refine af ?_
 first | refine af (jv ki.typeIs (av ?_)) | refine af (lS ki.typeIs (av ?_))
 refine af (wpAny_isOneOf_keyiter ki.typeIs ?_)
 show wpAny _ _ (OB (.ref it) 1 (qg ((i:Int)+1)) >>= _) _ _ s
 refine af (kR ho hf (by simp) ?_)
 have ki2:(s.heap.update it (lH (·.setIfInBounds 1 (qg ((i:Int)+1))))).IsKeyIter it d (i+1) es.size c :=
  ⟨_,fD _ ho (nu (fc hf _)),(sA ..).trans hc,by rw [fc hf]; simp [qg]⟩
 refine af (fF (af (wpAny_isOneOf_keyiter (s:={ s with heap:=s.heap.update it (lH (·.setIfInBounds 1 (qg ((i:Int)+1)))) }) ki2.typeIs ?_)))
 show wpAny _ _ (pure es[i].key) _ _ _
 exact av (av ⟨_,rfl,av (hQ _ ki2 (cR ..))⟩)
theorem Hd{it d:Addr}{od:Obj}{es:Array ip}{i c:Nat}{Q:Option Value->aA->Prop}(calm:A.handled=none)(ki:s.heap.IsKeyIter it d i es.size c)(xM:s.heap.get? d=some od)(dd:od.data=.dict es c)(hi:es.size<=i)
  (hQ:∀ h',Heap.ExtBut it s.heap h'->Q none { s with heap:=h' }):wpAny (model prog w) A (qC (.ref it)) Q E s:=by
 obtain⟨o,ho,hc,hf⟩:=id ki
 unfold qC
 refine af (qu (fU (name:=nj "__next__") ki.typeIs jG (dg jG ki.typeIs Jo ?_ (IW _))))
 refine af (av (af (af ?_)))
 first | refine af (jv ki.typeIs (av ?_)) | refine af (lS ki.typeIs (av ?_))
 refine af (jE ho hf ?_)
 have VB:fX "dict_keyiterator" = false:=by decide
 rw [VB]
 show wpAny _ _ (if (fx d == eD)=true then _ else _) _ _ s
 rw [if_neg (fun z=>by cases z)]
 refine af (av (af (eZ xM dd ?_)))
 rw [if_neg (by simp)]
 refine af (av (af (iV xM dd ?_)))
 rw [if_neg (by simp)]
 refine av ?_
 dsimp only
 rw [if_neg (show ¬ ((i:Int) < 0) from Int.not_lt.mpr (jr i)),aX,gR hi]
 dsimp only
 refine af ?_
 first | refine af (jv ki.typeIs (av ?_)) | refine af (lS ki.typeIs (av ?_))
 show wpAny _ _ (OB (.ref it) 0 .none >>= _) _ _ s
 refine af (kR ho hf (by simp) ?_)
 show wpAny _ _ (newExc (.type "StopIteration") [] >>= _) _ _ _
 refine af ?_
 simp only [newExc,newTuple]
 refine af (df (af (m:=oB _ _) (C5 (a:=eD) (by first | rfl | (simp only [oB]; rfl)) (df ?_ (by size_fits)))) (by size_fits))
 simp only [raiseNew]
 refine af (wpAny_handled ?_)
 rw [show A.in1.handled=none from calm]
 refine af (av (wpAny_throw ?_))
 refine af (o4 (T:="StopIteration") (b:=true) ⟨_,bx _ rfl,rfl⟩ Ss (?_))
 exact av (hQ _ (((cR ..).extBut.push _).push _))
end
noncomputable def Itk(a:Addr)(o:Obj)(es:Array ip)(ks:List V):It :=
 ⟨fun i H=>(∃ u,H a=some (.lW o u))/\i < es.size,fun i H v H'=>H'=H/\ks[i]?=some v,fun i H=>(∃ u,H a=some (.lW o u))/\es.size<=i⟩
theorem MU{P:ck}{w:World}{K:aj}{tg:Expr}(a it:Addr)(o:Obj)(es:Array ip)(c:Nat)(ks:List V)(dd:o.data=.dict es c)(hk:∀ i (h:i < es.size),∃ v,ks[i]?=some v/\RelV v es[i].key) :
  Turn P w K tg (Itk a o es ks) [it] it (fun i h=>h.IsKeyIter it a i es.size c) where
 mem:=by simp
 obj:=fun i h st b hb=>by
  have e:b=it:=by simpa using hb
  subst e
  obtain⟨o',q,_,d⟩:=st
  exact⟨o',q,fun v z=>by rw [d] at z; cases z⟩
 keep:=(by rintro i h h' ⟨o',q,r⟩ k; exact⟨o',k it (by simp) o' q,r⟩)
 item:=by
  intro X hP hw hK hc i pins s σ H E I hf st hg
  subst hP hw hK
  obtain⟨⟨u,hu⟩,hi⟩:=hg
  obtain⟨f0,f1,f2,f3,f4,f5⟩:=hf it (by simp)
  obtain⟨v,hv,rv⟩:=hk i hi
  refine Cw st (I.cT a _ hu).1 dd hi fun h' B8 sb=>?_
  have I1:Inv X pins σ H { s with heap:=h' }:=I.turned (t':=s.toks) (fun b o hb e=>(sb.2 b hb).trans e) f0 f1 f3 f4 f5
  obtain⟨o',e,cl,d'⟩:=id B8
  exact⟨_,rfl,Mi (s:={ s with heap:=h' }) e cl d' (by decide) ⟨v,H,I1,rv,⟨rfl,hv⟩,B8,fun b hb=>(hf b hb).1⟩⟩
 done:=by
  intro X hP hw hK hc i pins s σ H E I hf st hg
  subst hP hw hK
  obtain⟨⟨u,hu⟩,hi⟩:=hg
  obtain⟨f0,f1,f2,f3,f4,f5⟩:=hf it (by simp)
  exact Hd (I.ok.hd hc) st (I.cT a _ hu).1 dd hi fun h' eb=>⟨rfl,I.turned (t':=s.toks) (fun b o hb e=>eb b o hb e) f0 f1 f3 f4 f5⟩
 self:=fun A i s Q E st h=>by
  refine iU st.typeIs Ll (dg Ll st.typeIs F.entry_dict_keyiterator_iter ?_ (F.args_dict_keyiterator_iter_1 _))
  show wpAny _ _ (ret (.ref it)) _ _ s
  exact av ⟨_,rfl,"dict_keyiterator",_,st.typeIs,F.slot_dict_keyiterator_next.lookup,h⟩
end L2
namespace K2
open PySem PySem.Spec PyProof.Rows L2
section
variable {X:Cx} {tg a:Expr} {ta:gI} {pos p:Pos}
theorem wI{α β:Type}{F:α->β->Prop}:∀ {l:List α} {m:List β},Pc F l m->∀ i (h1:i < l.length) (h2:i < m.length),F l[i] m[i]:=by
 intro l m h
 induction h with
 | nil=>intro i h1; exact absurd h1 (cE i)
 | cons h t ih =>
  intro i h1 h2
  cases i with
  | zero=>exact h
  | succ i=>exact ih i (uF h1) (uF h2)
theorem Hg{P:ck}{w:World}{k:Key}{u:Value}(h:(cy P w).is k u=true):RelV (kV k) u:=by
 rcases fj h with ⟨i,t,rfl,rfl⟩ | ⟨x,t,rfl,rfl⟩
 ·exact⟨t,rfl⟩
 ·exact⟨t,rfl⟩
theorem oA.keys{K:aj}{H:Hp}:∀ {kv:List (Key×V)} {kvs:List (D×D)},oA K H kv kvs->kvs.map (·.1)=kv.map fun p=>eE p.1:=fun h =>
 oA.ind (motive:=fun kv kvs _=>kvs.map (·.1)=kv.map fun p=>eE p.1) rfl (fun _ _ ih=>congrArg (_ :: ·) ih) h
theorem lQ.keys{K:aj}{H:Hp}:∀ {kv:List (List Key×V)} {kvs:List (D×D)},lQ K H kv kvs->kvs.map (·.1)=kv.map fun p=>D.tup (p.1.map eE):=fun h =>
 lQ.ind (motive:=fun kv kvs _=>kvs.map (·.1)=kv.map fun p=>D.tup (p.1.map eE)) rfl (fun _ _ ih=>congrArg (_ :: ·) ih) h
theorem zG{K:aj}{H:Hp}(k:Key):cX K H (kV k) (eE k):=by
 cases k with
 | inl i=>exact .int i
 | inr x=>exact .str x
theorem rZ{K:aj}{H:Hp}:∀ (ks:List Key),bF K H (ks.map kV) (ks.map eE)
 | []=>.nil
 | k :: ks=>.cons (zG k) (rZ ks)
theorem zN(ha:gW X a ta):RS X tg a (Hk ta):=by
 intro E pins s σ H τ G R hE I h
 refine kn ha hE I h fun x H1 d G1 v s1 I1 m1 r1 jV q1=>?_
 unfold yN at q1
 have go:∀ (l:Addr) (o:Obj) (u:HO) (kvs:List (D×D)) (es:Array ip) (c:Nat) (ks:List V),(l == e6)=false->H1 l=some (.lW o u)->o.ExactDict->o.data=.dict es c->(∀ i (h:i < es.size),∃ v,ks[i]?=some v/\RelV v es[i].key)->ks.length=es.size ->
   bF X.K H1 ks (kvs.map (·.1))->R (kvs.map (·.1)) (fun _=>True) G1->wpAny (model X.prog X.w) X.A (BX (.ref l)) (K1 X pins σ tg H G R) X.xe s1:=by
  intro l o u kvs es c ks ns hl ex dd hk hlen rs q
  refine As ns (I1.inv.cT l _ hl).1 ex dd ?_
  refine⟨s1.heap.objs.size,[s1.heap.objs.size],_,_,H1,G1,kvs.map (·.1),_,rfl,I1.inv.kept (t':=s1.toks) fun b o e=>aN _ e,m1,MU l _ o es c ks dd hk,⟨_,bx _ rfl,rfl,rfl⟩,fun b hb=>?_,fun i H2 G2 k ab _=>?_,q⟩
  ·have e:b=s1.heap.objs.size:=by simpa using hb
   subst e
   exact I1.inv.Hx (aM _) (I1.inv.cT.fresh (aM _))
  ·have Sj:=k.lW _ _ _ hl
   have R8:=rs.mono k
   refine⟨fun d hd=>?_,fun hle=>⟨⟨u,Sj⟩,by rw [← hlen,rs.length]; exact hle⟩⟩
   obtain⟨v,hv,r⟩:=R8.get hd
   have hi:i < es.size:=by rw [← hlen]; exact(List.getElem?_eq_some_iff.mp hv).1
   refine⟨⟨⟨u,Sj⟩,hi⟩,?_⟩
   rintro x H3 ⟨e,y⟩
   subst e
   rw [hv] at y
   cases y
   exact⟨r,.refl ab⟩
 cases jV with
 | oK hq rs =>
  rename_i l o kv kvs
  cases r1
  obtain⟨z,ns,vs,rel,ob,es,ep,ho,ex,dd,hko,hp,nd⟩:=(I1.inv.cT l _ hq).2
  have eo:ob=o:=by have:=(I1.inv.cT l _ hq).1; rw [ho] at this; exact bR this
  subst eo
  have l1:es.size=vs.length:=by simpa using hp.length
  have l2:kv.length=vs.length:=gG rel
  refine go l ob _ kvs es ep (kv.map fun p=>kV p.1) ns hq ex dd (fun i hi=>?_) (by rw [ah]; lia) ?_ q1
  ·have i2:i < vs.length:=by lia
   have i3:i < kv.length:=by lia
   have g1:=(hp.get? (e:=es[i]) (k:=vs[i].1) (v:=vs[i].2) (by rw [ag (by simpa using hi)]; simp) (by rw [ag i2])).1
   refine⟨kV kv[i].1,by simp [i3],?_⟩
   have ek:kv[i].1=vs[i].1:=(wI rel i i3 i2).1
   rw [ek]
   exact Hg g1
  ·rw [rs.keys]
   have:∀ (l:List (Key×V)),bF X.K H1 (l.map fun p=>kV p.1) (l.map fun p=>eE p.1):=by
    intro l
    induction l with
    | nil=>exact .nil
    | cons p l ih=>exact .cons (zG p.1) ih
   exact this kv
 | oJ hq rs =>
  rename_i l o kv kvs
  cases r1
  obtain⟨z,ns,xs,rel,ob,es,ep,ho,ex,dd,hl,nd⟩:=(I1.inv.cT l _ hq).2
  have eo:ob=o:=by have:=(I1.inv.cT l _ hq).1; rw [ho] at this; exact bR this
  subst eo
  have l1:=congrArg dP hl
  rw [ah,bJ] at l1
  refine go l ob _ kvs es ep (xs.map fun q=>V.ref q.2.1) ns hq ex dd (fun i hi=>?_) (by rw [ah]; lia) ?_ q1
  ·have i2:i < xs.length:=by lia
   refine⟨.ref xs[i].2.1,by simp [i2],?_⟩
   have:es[i]=Bf (d8 (cy X.prog X.w)) xs[i]:=by
    have:=congrArg (fun l=>l[i]?) hl
    simp only [bA,ag i2] at this
    simpa [hi] using this
   rw [this]
   rfl
  ·rw [rs.keys]
   have:∀ (kv:List (List Key×V)) (xs:List (List Key×Addr×Value)),Pc (fun (p:List Key×V) (q:List Key×Addr×Value)=>p.1=q.1/\H1 q.2.1=some (.tup (p.1.map kV))/\RelV p.2 q.2.2) kv xs->bF X.K H1 (xs.map fun q=>V.ref q.2.1) (kv.map fun p=>D.tup (p.1.map eE)):=by
    intro kv xs r
    induction r with
    | nil=>exact .nil
    | cons h _ ih=>exact .cons (.tup h.2.1 (rZ _)) ih
   exact this kv xs rel
 | _=>exact q1.elim
end
end K2
end
section
namespace L2
open PySem PySem.Spec PyProof.Rows PySem.W
section
variable {prog:ck} {w:World}
theorem Jt{A:eF}{it d:Addr}{od:Obj}{es:Array ip}{c:Nat}(hh:A.handled=none)(kD:d≠it)(dd:od.data=.dict es c) :
  Sv prog w A it [it,d] [it] es.size (fun i v=>∃ h:i < es.size,v=es[i].key) (fun i h=>h.IsKeyIter it d i es.size c/\h.get? d=some od) where
 sub:=fun b hb=>by simp at hb; simp [hb]
 frame:=fun i h h' st hk=>⟨st.1.at fun o e=>hk it (by simp) o e,hk d (by simp) od st.2⟩
 item:=fun i s Q E hi st hQ=>Cw st.1 st.2 dd hi fun h' B8 sb=>hQ _ h' s.toks ⟨hi,rfl⟩ ⟨B8,(sb.2 d kD).trans st.2⟩ fun b o hb e=>(sb.2 b (by simpa using hb)).trans e
 done:=fun s Q E st hQ=>Hd hh st.1 st.2 dd (aM _) fun h' eb=>hQ h' s.toks fun b o hb e=>eb b o (by simpa using hb) e
 self:=fun i s Q E st hQ=>wpAny_pyIter_keyiter st.1 hQ
theorem FD{d:Addr}{od:Obj}{es:Array ip}{c:Nat}(ns:(d == e6)=false)(ex:od.ExactDict)(dd:od.data=.dict es c) :
  KdlSrc prog w "dict" d d es.size (fun i v=>∃ h:i < es.size,v=es[i].key) (fun h=>h.get? d=some od) where
 type:=fun s cT=>⟨od,cT,ex.1⟩
 there:=fun h cT=>⟨aQ cT,aQ cT⟩
 keep:=fun h h' cT hk=>hk d (.inl rfl) od cT
 notList:=by decide
 notTuple:=by decide
 hint:=fun A E s Q cT hq=>kdl_hint_dict ⟨od,cT,ex.1⟩ hq
 iter:=fun A s hh cT=>⟨_,_,(fun E Q hq=>As ns cT ex dd hq),Jt hh (bT (aQ cT)) dd,⟨⟨_,bx _ rfl,rfl,rfl⟩,aN _ cT⟩⟩
end
end L2
namespace K2
open PySem PySem.Spec PyProof.Rows L2 PySem.W
section
variable {X:Cx}
theorem Di:∀ (ks:List V) (us:List Value),ks.length=us.length->(∀ i (h1:i < ks.length) (h2:i < us.length),RelV ks[i] us[i])->Vals ks us
 | [],[],_,_=>.nil
 | [],_ :: _,h,_=>by cases h
 | _ :: _,[],h,_=>by cases h
 | k :: ks,u :: us,h,hr=>.cons (hr 0 (by simp) (by simp)) (Di ks us (by simpa using h) fun i h1 h2=>hr (i+1) (by simpa using h1) (by simpa using h2))
end
end K2
end
section
namespace L2
open PySem PySem.Spec PyProof.Rows
noncomputable def Iti(a:Addr)(o:Obj)(kv:List (Key×V)):It :=
 ⟨fun i H=>(∃ u,H a=some (.lW o u))/\i < kv.length,fun i H v H'=>∃ T p,v=.ref T/\H T=none/\H'=upd H T (.tup [kV p.1,p.2])/\kv[i]?=some p,fun i H=>(∃ u,H a=some (.lW o u))/\kv.length<=i⟩
theorem zP{α β:Type}{F:α->β->Prop}:∀ {l:List α} {m:List β},Pc F l m->∀ i (h1:i < l.length) (h2:i < m.length),F l[i] m[i]
 | _,_,.cons h _,0,_,_=>h
 | _,_,.cons _ t,i+1,h1,h2=>zP t i (by simpa using h1) (by simpa using h2)
theorem NO{P:ck}{w:World}{k:Key}{u:Value}(h:(cy P w).is k u=true):RelV (kV k) u:=by
 rcases fj h with ⟨i,t,rfl,rfl⟩ | ⟨x,t,rfl,rfl⟩
 ·exact⟨t,rfl⟩
 ·exact⟨t,rfl⟩
theorem sS:entryFor table "dict_itemiterator.__iter__" = some Builtin.«dict_keyiterator.__iter__» :=
 BY (id':="dict_keyiterator.__iter__") (by rw [fastTable_eq_tree]; kernel_rfl) (by decide +kernel) (by decide +kernel) (by rw [fastTable_eq_tree]; kernel_rfl)
theorem Jz{P:ck}{w:World}{K:aj}{elts:List Expr}{kk:Nat}{pos:Pos}(a it:Addr)(o:Obj)(kv:List (Key×V))(vs:List (Key×Value))(ep:Nat)(rel:KV kv vs)(hD:∀ h:Heap,h.get? a=some o->h.DictAt (cy P w) a vs ep) :
  Turn P w K (.Tuple elts kk pos) (Iti a o kv) [it] it (fun i h=>∃ ok ov,IsItemIter h it a i vs.length ep ok ov) where
 mem:=by simp
 obj:=fun i h ⟨ok,ov,st⟩ b hb=>by
  have e:b=it:=by simpa using hb
  subst e
  exact⟨_,st,fun v z=>by cases z⟩
 keep:=fun i h h' ⟨ok,ov,st⟩ k=>⟨ok,ov,k it (by simp) _ st⟩
 item:=by
  intro X hP hw hK hc i pins s σ H E I hf st hg
  obtain⟨ok,ov,st⟩:=st
  subst hP hw hK
  obtain⟨⟨u,hu⟩,hi⟩:=hg
  have hl:=rel.length
  have NX:i < vs.length:=by lia
  have hx:vs[i]?=some (vs[i].1,vs[i].2):=ag NX
  have rp:=zP rel i hi NX
  have YH:H s.heap.objs.size=none:=I.cT.fresh (aM _)
  have hiT:it≠s.heap.objs.size:=bT (aQ st)
  refine wpAny_pyNext_items_item st (hD _ (I.cT a _ hu).1) hx fun key h' hk ho hT hsz kk=>?_
  refine⟨_,rfl,?_⟩
  have rk:RelV (kV kv[i].1) key:=by rw [rp.1]; exact NO hk
  have I1:Inv X pins σ (upd H s.heap.objs.size (.tup [kV kv[i].1,kv[i].2])) { s with heap:=h',toks:=s.toks } :=
   I.Dp (fp:=[it]) hf (fun b o hb q=>kk b o (fun z=>hb (by simp [z])) q) (aM _)
    ⟨by show 2<=bG; decide,[key,vs[i].2],.cons rk (.cons rp.2 .nil),⟨_,hT,rfl,_,rfl⟩⟩
  refine wpAny_letOwnedTupleGo_items (s:={ s with heap:=h' }) ho fun h2 Yz BJ=>?_
  have f1:∀ b∈[it],nI X pins (upd H s.heap.objs.size (.tup [kV kv[i].1,kv[i].2])) b:=fun b hb=>(hf b hb).upd (by rw [List.mem_singleton.mp hb]; exact hiT)
  have I2:Inv X pins σ (upd H s.heap.objs.size (.tup [kV kv[i].1,kv[i].2])) { s with heap:=h2,toks:=s.toks } :=
   Inv.uK (s:={ s with heap:=h',toks:=s.toks }) (t':=s.toks) (fp:=[it]) I1 f1 fun b o hb q=>(BJ.2 b (fun z=>hb (by simp [z]))).trans q
  exact⟨.ref s.heap.objs.size,_,I2,rfl,⟨_,kv[i],rfl,YH,rfl,ag hi⟩,⟨_,_,Yz⟩,fun b hb=>(f1 b hb).1⟩
 done:=by
  intro X hP hw hK hc i pins s σ H E I hf st hg
  obtain⟨ok,ov,st⟩:=st
  subst hP hw hK
  obtain⟨⟨u,hu⟩,hi⟩:=hg
  have hl:=rel.length
  obtain⟨f0,f1,f2,f3,f4,f5⟩:=hf it (by simp)
  exact wpAny_pyNext_items_end (I.ok.hd hc) st (hD _ (I.cT a _ hu).1) (gm (by lia)) fun h' eb=>⟨rfl,I.turned (t':=s.toks) (fun b o hb e=>eb b o hb e) f0 f1 f3 f4 f5⟩
 self:=fun A i s Q E ⟨ok,ov,st⟩ h=>by
  have ty:s.TypeIs (.ref it) "dict_itemiterator":=⟨_,st,rfl⟩
  refine iU ty Jn (dg Jn ty sS ?_ (F.args_dict_itemiterator_iter_1 _))
  show wpAny _ _ (ret (.ref it)) _ _ s
  exact av ⟨_,rfl,"dict_itemiterator",_,ty,F.slot_dict_itemiterator_next.lookup,h⟩
end L2
namespace K2
open PySem PySem.Spec PyProof.Rows L2
section
variable {X:Cx}
theorem Vp{pins:List (Addr×Obj)}{σ:L2.St}{H:Hp}{s:aA}{x:V}{kvs:List (D×D)}(I:Inv X pins σ H s)(rd:cX X.K H x (.kg kvs))(h1:Hf kvs=true) :
  ∃ a ob u kv vs ep,x=.ref a/\H a=some (.lW ob u)/\oA X.K H kv kvs/\(a == e6)=false/\KV kv vs/\∀ h:Heap,h.get? a=some ob->h.DictAt (cy X.prog X.w) a vs ep:=by
 cases rd with
 | oK hq rs =>
  rename_i a o kv
  obtain⟨z,hm,vs,rel,ob,es,ep,ho,r⟩:=(I.cT a _ hq).2
  have eo:ob=o:=by have:=(I.cT a _ hq).1; rw [ho] at this; exact bR this
  subst eo
  exact⟨a,ob,_,kv,vs,ep,rfl,hq,rs,hm,rel,fun h e=>⟨ob,es,e,r⟩⟩
 | oJ hq rs =>
  rename_i a o kv
  cases rs with
  | nil =>
   obtain⟨z,hm,xs,rel,ob,es,ep,ho,hx,yO,hl,nd⟩:=(I.cT a _ hq).2
   have eo:ob=o:=by have:=(I.cT a _ hq).1; rw [ho] at this; exact bR this
   subst eo
   have hv:xs=[]:=by cases rel; rfl
   subst hv
   have he:es=#[]:=by simpa using hl
   subst he
   exact⟨a,ob,_,[],[],ep,rfl,hq,.nil,hm,.nil,fun h e=>⟨ob,#[],e,hx,yO,(fun _ h=>by simp at h),.nil,dh⟩⟩
  | cons _ _=>simp [Hf,fQ] at h1
theorem oA.item{K:aj}{H:Hp}:∀ {kv:List (Key×V)} {kvs:List (D×D)} {i:Nat} {q:D×D},oA K H kv kvs->kvs[i]?=some q->∃ p,kv[i]?=some p/\q.1=eE p.1/\cX K H p.2 q.2
 | _,_,_,_,.nil,e=>by simp at e
 | _,_,0,_,.cons r _,e=>by simp at e; subst e; exact⟨_,rfl,rfl,r⟩
 | _,_,i+1,q,.cons _ t,e=>by
  obtain⟨p,h1,h2⟩:=oA.item (i:=i) (q:=q) t (by simpa using e)
  exact⟨p,by simpa using h1,h2⟩
variable {elts:List Expr} {kk:Nat} {JA apos jR:Pos} {o:Expr} {to:gI}
theorem Nc{K:aj}{H:Hp}(k:Key):cX K H (kV k) (eE k):=by
 cases k with
 | inl i=>exact .int i
 | inr x=>exact .str x
theorem Nm (ho:gW X o to) (Hr:autoParam (wx o "items" X.env (eval o X.env)=eval o X.env) Ar._auto_1) (Hn:autoParam ((apos.endLine == jR.line)=true) Ar._auto_1) :
  RS X (.Tuple elts kk JA) (.Call (.Attribute o "items" apos) [] [] jR) (Kq to):=by
 intro E pins s σ H τ G R hE I h
 refine wpAny_Call_method0_late Hr Hn (kn ho hE I h fun x H1 d G1 v s1 I1 m1 r1 jV q1=>?_)
 cases d with
 | kg kvs =>
  obtain⟨h1,q1⟩:=q1
  obtain⟨t1,t2⟩:=zi pins s1 σ H1 G1 x _ v I1.inv I1.ab r1 jV trivial
  obtain⟨a,ob,u,kv,vs,ep,rfl,hu,rs,hm,rel,hD⟩:=Vp I1.inv jV h1
  cases r1
  refine⟨"dict","dict.items",qF,Ji,PySem.F.type_dict_items,t1,t2,tH rfl (Su ?_)⟩
  have dA:=hD _ (I1.inv.cT a _ hu).1
  refine call_meetsIn Ji t1 PySem.F.entry_dict_items (PySem.F.args_dict_items_1 _) (meets_dict_items (cy X.prog X.w) a hm) ⟨⟨vs,dA.dictOf⟩,?_⟩
  have I2:Inv X pins σ H1 { s1 with heap:=s1.heap.push { cls:=.type "dict_items",data:=.fields #[.ref a] } }:=I1.inv.kept (t':=s1.toks) fun b o e=>aN _ e
  refine wpAny_pyIter_items (s:={ s1 with heap:=s1.heap.push { cls:=.type "dict_items",data:=.fields #[.ref a] } }) (kvs:=vs) (ep:=ep) ⟨_,bx _ rfl,rfl,rfl⟩ (dA.push _) ?_
  refine⟨_,[_],_,_,H1,G1,kvs.map (fun p=>.tup [p.1,p.2]),_,rfl,I2.kept (t':=s1.toks) fun b o e=>aN _ e,m1,Jz a _ ob kv vs ep rel hD,⟨.none,.none,bx _ rfl⟩,fun b hb=>?_,fun i H2 G2 k ab _=>?_,q1⟩
  ·have e:=List.mem_singleton.mp hb
   subst e
   exact I2.Hx (aM _) (I2.cT.fresh (aM _))
  ·have Sj:=k.lW _ _ _ hu
   have R8:=rs.mono k
   have hlen:kv.length=kvs.length:=rs.length
   refine⟨fun d hd=>?_,fun hle=>⟨⟨u,Sj⟩,by rw [hlen]; simpa using hle⟩⟩
   rw [bA] at hd
   cases TM:kvs[i]? with
   | none=>rw [TM] at hd; cases hd
   | some q =>
    rw [TM] at hd
    obtain⟨p,hp,ek,rp⟩:=R8.item TM
    have hi:i < kv.length:=(List.getElem?_eq_some_iff.mp hp).1
    refine⟨⟨⟨u,Sj⟩,hi⟩,fun x H3 ⟨T,p',ex,hT,e3,hy⟩=>?_⟩
    subst ex e3
    rw [hp] at hy
    cases hy
    have ed:D.tup [q.1,q.2]=d:=by simpa using hd
    subst ed
    rw [ek]
    exact⟨.tup dj (.cons (Nc _) (.cons (rp.mono (.new hT)) .nil)),.OR ab hT⟩
 | _=>exact q1.elim
end
end K2
end
section
namespace K2
open PySem PySem.Spec PyProof.Rows L2 PySem.W
section
variable {X:Cx}
variable {es:List Expr} {t:TF2} {e v1 v2:Expr} {te:gI} {pos:Pos} {c:Str} {k:Nat}
variable {a:Expr} {ta:gI} {p p2 DM:Pos}
theorem JJ{pins:List (Addr×Obj)}{σ:L2.St}{H:Hp}{G:Gp}{s:aA}{Q:DK}{T:String}{r d:Addr}{n:Nat}{P:Nat->Value->Prop}{OK:Heap->Prop}(hc:X.calm=true)(hu:X.A.units+64 < cLine)(I:Inv X pins σ H s)(ab:mw X.K H G)
  (K:v9 X.prog X.w T r d n P OK) (V7:OK s.heap) {vs:List V} {zs:List D} (hlen:vs.length=n) (hP:∀ i u (h:i < vs.length),P i u->RelV vs[i] u) (rs:bF X.K H vs zs) (sh:nH) (hz:∀ z∈zs,dF sh z=true) (cT:Qn sh=true) (h64:zs.length < 64)
  (q:jo G (.lst (nW zs)) Q):wpAny (model X.prog X.w) X.A (call (.builtin "sorted") [.ref r]) (sV X pins σ H G Q) X.xe s:=by
 have Sj:=rs.length
 have hsz:bG=16777216:=cN
 obtain⟨m,F0⟩:=I.fr
 have nL:∀ b o vs n,o.data=.seq vs n->s.heap.get? b=some o->b≠X.env.locals:=fun b o vs n e1 e2 z=>by
  obtain⟨o',es,ep,NU,yO,_⟩:=F0.ns
  rw [z,NU] at e2; cases e2; rw [yO] at e1; cases e1
 unfold Qn at cT
 rw [aP] at cT
 have hdp:T4 sh<=7:=of_decide_eq_true cT.1
 have sn:∀ z∈zs,Sn G 7 z z:=fun z h=>Dx G sh z 7 (hz z h) hdp
 refine kdu_sorted K (I.ok.hd hc) F0 zV V7 (by lia) fun Dd h0 tk bM F1 N1 lG hl0 hP'=>?_
 have UL:vs.length=bM.length:=by lia
 have rv:Vals vs bM:=Di vs bM UL fun i h1 h2=>hP i bM[i] h1 (hP' i bM[i] (ag h2))
 by_cases mU:bM.length < 2
 ·have e2:h0.get? Dd=some (uB "list" bM.toArray 0):=(N1 _ ay).1
  refine dg slot_list_sort ⟨_,e2,rfl⟩ entry_list_sort (FF (s:={ s with heap:=h0,toks:=tk }) e2 mU ⟨_,rfl,?_⟩) (args_list_sort _)
  obtain⟨kk,ns⟩:=mB I F0 F1 fun p hp=>N1 p (ao _ hp)
  have hD:s.heap.get? Dd=none:=by
   have nD:=N1 _ ay
   cases qd:s.heap.get? Dd with
   | none=>rfl
   | some o=>exact absurd (lG _ (nZ nD.2.1 nD.2.2 qd)) (gi _)
  have hp:H Dd=none:=yQ I.cT hD
  have hDL:Dd≠X.env.locals:=(N1 _ ay).2.1
  obtain⟨e3,h3⟩:=sortedHeap_at (out:=bM.toArray) e2
  have es:nW zs=zs:=mf sh hz (.refl _) (by
   match zs,Sj,mU with
   | [],_,_=>exact .nil
   | [z],_,_=>exact OE _ _
   | _ :: _ :: _,h,f=>exact absurd f (by rw [← UL,h]; simp))
  rw [es] at q
  refine⟨.ref Dd,upd H Dd (.lst vs),.ref _,_,Inv.LZ (t':=tk) I (fun b o hb e=>?_) (fun m' hm=>?_) hD ⟨by lia,bM,e3,rv,h3⟩,.BA ab hp rs,rfl,.ref _,q _ (ab.free hp)⟩
  ·have hb2:b≠Dd:=fun z=>by rw [z,hD] at e; cases e
   have e4:=kk b o hb e
   rw [sortedHeap_old hb2 (aQ e4)]; exact e4
  ·obtain⟨o,es,ep,ho,r⟩:=ns m' hm
   exact⟨o,es,ep,by rw [sortedHeap_old (eC hDL) (aQ ho)]; exact ho,r⟩
 have nz:0 < zs.length:=by lia
 refine kat_lsort (vs:=bM) F1 N1 (.head fun q hq z=>absurd (lG q hq) (by rw [z]; exact gi _)) (by simp) (by lia) (by lia) fun e1 h' F N=>?_
 obtain⟨kk,ns⟩:=mB I F0 F fun p hp=>N p (ao _ hp)
 have zH:∀ i,i < bM.length->∃ as,Reads h' (bM.getD i .none) (pd (zs.getD i .du)) as:=fun i hi=>by
  have i1:i < zs.length:=by lia
  have i2:i < vs.length:=by lia
  have g1:zs.getD i .du=zs[i]:=getD_at _ _ i1
  have g2:bM.getD i .none=bM[i]:=getD_at _ _ hi
  obtain⟨v,hv,Xy⟩:=rs.get (ag i1)
  obtain⟨u,wV,Vn⟩:=rv.get hv
  rw [ag hi] at wV
  cases wV
  obtain⟨as,r⟩:=(iF I ab (sn _ (cq i1))).1 v _ Xy Vn
  rw [g1,g2]
  exact⟨as,qU (fun b o vs n e1 e2=>kk b o (nL b o vs n e1 e2) e2) _ (sn _ (cq i1)).nr r⟩
 have xp:∀ i,i < zs.length->dF sh (zs.getD i .du)=true:=fun i hi=>by rw [getD_at _ _ hi]; exact hz _ (cq hi)
 have Tv:∀ i,i < zs.length->nr (zs.getD i .du)=true:=fun i hi=>by rw [getD_at _ _ hi]; exact(sn _ (cq hi)).nr
 have YZ:∀ i,i < zs.length->(pd (zs.getD i .du)).depth<=7:=fun i hi=>by rw [getD_at _ _ hi]; exact AK (sn _ (cq hi))
 let zz:Nat->D:=fun i=>if i < zs.length then zs.getD i .du else zs.getD 0 .du
 have Pl:∀ i,dF sh (zz i)=true:=fun i=>by
  show dF sh (if i < zs.length then zs.getD i .du else zs.getD 0 .du)=true
  split
  ·exact xp i (by assumption)
  ·exact xp 0 nz
 let lt:Nat->Nat->Bool:=fun i j=>nC (zz i) (zz j)
 have swo:MJ lt:=⟨fun i j h=>wN sh (Pl i) (Pl j) h,fun i j k h1 h2=>tQ sh (Pl i) (Pl j) (Pl k) h1 h2⟩
 have X4:∀ i j,i < zs.length->j < zs.length->lt i j=nC (zs.getD i .du) (zs.getD j .du):=fun i j hi hj=>by
  show nC (if i < zs.length then _ else _) (if j < zs.length then _ else _)=_
  rw [if_pos hi,if_pos hj]
 obtain⟨p,ep,rB,XD,hup⟩:=FQ swo (n:=bM.length) (by lia)
 have YK:X.A.in1.in1.units=X.A.units+2:=rfl
 have ask:∀ κ:SortKind,(∀ i j,i < bM.length->j < bM.length->∀ C:Bool->aA->Prop,C (nC (zs.getD i .du) (zs.getD j .du)) { s with heap:=h',toks:=tk }->kas_ask X.prog X.w X.A.in1.in1 κ bM i j C { s with heap:=h',toks:=tk }) ->
   (kas_sort bM.length).kasWp (kas_ask X.prog X.w X.A.in1.in1 κ bM) (fun p Vm=>KasFin X.base X.env.locals m Dd e1 (p.toList.map fun i=>bM.getD i eD) (fun s3=>sV X pins σ H G Q (.ref Dd) s3) Vm) { s with heap:=h',toks:=tk }:=by
  intro κ hk
  refine Au (lt:=lt) (n:=bM.length) (fun i j i1 i2 C hC=>hk i j i1 i2 C (by rw [← X4 i j (by lia) (by lia)]; exact hC)) _ (Iu (by lia)) ?_
  rw [ep]
  refine KasFin.intro (g:=fun o=>(Dd,o) :: qc X.base s.heap X.env.locals) F N (.head (fun q hq z=>absurd (lG q hq) (by rw [z]; exact gi _))) fun h2 c F2 N2=>?_
  obtain⟨k2,ns2⟩:=mB I F0 F2 fun p hp=>N2 p (ao _ hp)
  have hD:s.heap.get? Dd=none:=by
   have nD:=N _ ay
   cases qd:s.heap.get? Dd with
   | none=>rfl
   | some o=>exact absurd (lG _ (nZ nD.2.1 nD.2.2 qd)) (gi _)
  have hp:H Dd=none:=yQ I.cT hD
  have rvp:Vals (p.toList.map fun i=>vs.getD i .du) (p.toList.map fun i=>bM.getD i eD):=by
   have:∀ (ps:List Nat),(∀ i∈ps,i < bM.length)->Vals (ps.map fun i=>vs.getD i .du) (ps.map fun i=>bM.getD i eD):=by
    intro ps
    induction ps with
    | nil=>intro _; exact .nil
    | cons i ps ih =>
     intro hh
     have hi:=hh i (by simp)
     refine .cons ?_ (ih fun j hj=>hh j (ao _ hj))
     have i2:i < vs.length:=by lia
     obtain⟨u,wV,Vn⟩:=rv.get (ag i2)
     rw [ag hi] at wV
     cases wV
     show RelV (vs.getD i .du) (bM.getD i .none)
     rw [getD_at _ _ i2,getD_at _ _ hi]; exact Vn
   exact this _ fun i hi=>by simpa using rB.mem_iff.mp hi
  have rsp:bF X.K H (p.toList.map fun i=>vs.getD i .du) (p.toList.map fun i=>zs.getD i .du):=by
   have:∀ (ps:List Nat),(∀ i∈ps,i < bM.length)->bF X.K H (ps.map fun i=>vs.getD i .du) (ps.map fun i=>zs.getD i .du):=by
    intro ps
    induction ps with
    | nil=>intro _; exact .nil
    | cons i ps ih =>
     intro hh
     have hi:=hh i (by simp)
     refine .cons ?_ (ih fun j hj=>hh j (ao _ hj))
     have i2:i < vs.length:=by lia
     have i1:i < zs.length:=by lia
     obtain⟨v,hv,r⟩:=rs.get (ag i1)
     rw [ag i2] at hv
     cases hv
     show cX X.K H (vs.getD i .du) (zs.getD i .du)
     rw [getD_at _ _ i2,getD_at _ _ i1]; exact r
   exact this _ fun i hi=>by simpa using rB.mem_iff.mp hi
  have es:nW zs=p.toList.map fun i=>zs.getD i .du:=by
   refine mf sh hz ?_ ?_
   ·have h1:(p.toList.map fun i=>zs.getD i .du).Perm ((bq zs.length).map fun i=>zs.getD i .du):=by
     have:bM.length=zs.length:=by lia
     rw [← this]
     exact rB.map _
    rw [mM] at h1
    exact h1
   ·rw [iB,Li]
    intro i j hi hj I0
    have g1:gA p i=p.toList[i]:=by
     have:i < p.size:=by simpa using hi
     simp [gA,qI,this]
    have g2:gA p j=p.toList[j]:=by
     have:j < p.size:=by simpa using hj
     simp [gA,qI,this]
    have bi:p.toList[i] < bM.length:=by simpa using rB.mem_iff.mp (cq hi)
    have bj:p.toList[j] < bM.length:=by simpa using rB.mem_iff.mp (cq hj)
    have:=hup i j (by lia) (by have:j < p.toList.length:=hj; rw [bJ,XD] at this; exact this)
    rw [g1,g2,X4 _ _ (by lia) (by lia)] at this
    exact this
  rw [es] at q
  have ln:(p.toList.map fun i=>vs.getD i .du).length<=bG:=by rw [ah,bJ,XD]; lia
  refine⟨.ref Dd,upd H Dd (.lst (p.toList.map fun i=>vs.getD i .du)),.ref _,_,Inv.LZ (t':=tk) I k2 ns2 hD ?_,.BA ab hp rsp,rfl,.ref _,q _ (ab.free hp)⟩
  exact⟨ln,_,c,rvp,(N2 _ ay).1⟩
 have gen:∀ i j,i < bM.length->j < bM.length->∀ C:Bool->aA->Prop,C (nC (zs.getD i .du) (zs.getD j .du)) { s with heap:=h',toks:=tk }->wpAny (model X.prog X.w) X.A.in1.in1 (keyLt' OC (bM.getD i eD) (bM.getD j eD)) C (fun _ _=>False) { s with heap:=h',toks:=tk }:=by
  intro i j hi hj C hC
  obtain⟨as,r1⟩:=zH i hi
  obtain⟨bs,r2⟩:=zH j hj
  rw [keyLt'_oneType]
  exact qZ (s:={ s with heap:=h',toks:=tk }) (n:=7) (YZ i (by lia)) (xp i (by lia)) (xp j (by lia)) (Tv i (by lia)) (Tv j (by lia)) r1 r2 (by rw [YK]; lia) X.prog X.w _ C hC
 have lk:∀ v∈bM,Looks (model X.prog X.w) h' (typeOf v) (FA sh):=fun v hv=>by
  obtain⟨i,hi,rfl⟩:=da hv
  obtain⟨as,r⟩:=zH i hi
  rw [getD_at _ _ hi] at r
  exact sf (xp i (by lia)) r
 cases sh with
 | int=>exact kas_kind (s:={ s with heap:=h',toks:=tk }) (T:=.type "int") (by lia) lk rfl rfl (ask OC gen)
 | lst ss=>exact kas_kind (s:={ s with heap:=h',toks:=tk }) (T:=.type "list") (by lia) lk rfl rfl (ask OC gen)
 | tup ss =>
  cases ss with
  | nil=>exact absurd cT.2 (by simp)
  | cons s1 ss =>
   obtain⟨fs,t1,t2,t3⟩:=xm (h:=h') zs bM hz zH (by lia)
   refine kat_kind (s:={ s with heap:=h',toks:=tk }) (T:=FA s1) t1 (by lia) (fun f hf=>?_) (by cases s1 <;> rfl) (ask _ fun i j hi hj C hC=>?_)
   ·obtain⟨d,as,h1,h2⟩:=t3 f hf
    exact sf h1 h2
   ·obtain⟨as,r1⟩:=zH i hi
    obtain⟨bs,r2⟩:=zH j hj
    exact Cy (s:={ s with heap:=h',toks:=tk }) (n:=7) (by have:=YZ i (by lia); lia) (xp i (by lia)) (xp j (by lia)) (Tv i (by lia)) (Tv j (by lia)) r1 r2 (by rw [YK]; lia) hC
end
end K2
end
section
namespace K2
open PySem PySem.Spec PyProof.Rows L2 PySem.W
section
variable {X:Cx}
theorem xn:∀ (ns:List Int) (j:Nat),(∀ n∈ns,-1000<=n/\n<=1000)->-1000 * (ns.length:Int)<=(ns.take j).sum/\(ns.take j).sum<=1000 * (ns.length:Int)
 | [],j,_=>by simp
 | n :: ns,0,_=>by simp only [x8,List.sum_nil,ak]; lia
 | n :: ns,j+1,h=>by
  have h1:=h n (by simp)
  have:=xn ns j fun m hm=>h m (ao _ hm)
  rw [List.take_succ_cons,fM,ak]; lia
theorem Of (hc:X.calm=true):qf X (.builtin "sum") Wz:=by
 intro pins s σ H G xs ds us Q I ab rx rd q
 unfold Wz at q
 split at q
 ·rename_i x
  obtain⟨ns,ty,hi,⟨hn,hb⟩,q⟩:=q
  obtain⟨w1,rfl,DC⟩:=rd.one
  obtain⟨u,rfl,ru⟩:=rx.one
  obtain⟨l,vs,bM,rfl,rv,rs,hl,_⟩:=kJ I ab ru DC (Cu ty hi)
  have ev:=rs.ints
  subst ev
  have hlen:bM.length=ns.length:=by rw [← rv.length,ah]
  obtain⟨o,ho,Ks,n,hd⟩:=id hl
  have kD:l≠s.heap.objs.size:=bT (aQ ho)
  refine call_sum_walk (uA hl ?_)
  refine⟨s.heap.objs.size,_,_,_,_,_,fun i=>ns.getD i 0,rfl,Walks.list (A:=X.A.in1) (show X.A.in1.handled=none from I.ok.hd hc) _ l kD bM.toArray,⟨⟨_,bx _ rfl,rfl,rfl⟩,⟨o,aN _ ho,Ks,n,hd⟩⟩,fun b hb=>?_,fun i v hv=>?_,fun j hj=>?_,fun h' tk t' hk=>?_⟩
  ·rcases (by simpa using hb:b=s.heap.objs.size\/b=l) with rfl | rfl
   ·rw [yb]; exact ur _
   ·rw [yb]; exact C8 (aQ ho)
  ·have UI:bM[i]?=some v:=by simpa using hv
   have Az:i < bM.length:=(List.getElem?_eq_some_iff.mp UI).1
   have NV:i < ns.length:=by lia
   obtain⟨u,wV,ru⟩:=rv.get (i:=i) (x:=.int ns[i]) (by rw [bA,ag NV]; rfl)
   rw [UI] at wV
   cases wV
   obtain⟨t,rfl⟩:=ru
   refine⟨t,?_⟩
   have e9:ns.getD i 0=ns[i]:=by rw [az,ag NV]; rfl
   show Fn ns[i] t=Fn (ns.getD i 0) t
   rw [e9]
  ·have hj':j < ns.length:=by rw [← hlen]; simpa using hj
   have e1:ns.getD j 0=ns[j]:=by rw [az,ag hj']; rfl
   have b1:=hb ns[j] (cq hj')
   have b2:=xn ns (j+1) hb
   rw [Bp]
   dsimp only
   rw [e1]
   unfold InLong
   lia
  ·have e:preSum (fun i=>ns.getD i 0) bM.toArray.size=ns.sum:=by
    rw [Bp,aZ,hlen,List.take_length]
   rw [e]
   refine⟨.int _,H,.int _,G,I.kept (t':=tk) fun b o e=>hk b o (by simpa using bT (aQ e)) (aN _ e),.refl ab,⟨_,rfl⟩,.int _,q⟩
 ·exact q.elim
end
end K2
end
section
namespace K2
open PySem PySem.Spec PyProof.Rows L2 PySem.W
section
variable {X:Cx}
theorem Ab{pins:List (Addr×Obj)}{σ:L2.St}{H:Hp}{G:Gp}{s:aA}{Q:DK}{T:String}{r d:Addr}{n:Nat}{P:Nat->Value->Prop}{OK:Heap->Prop}(hc:X.calm=true)(I:Inv X pins σ H s)(ab:mw X.K H G)
  (K:v9 X.prog X.w T r d n P OK) (V7:OK s.heap) {vs:List V} {zs:List D} (hlen:vs.length=n) (hP:∀ i u (h:i < vs.length),P i u->RelV vs[i] u) (rs:bF X.K H vs zs) (hn:n<=1000)
  (q:jo G (.lst zs) Q):wpAny (model X.prog X.w) X.A (call (.type "list") [.ref r]) (sV X pins σ H G Q) X.xe s:=by
 have hsz:bG=16777216:=cN
 refine kdl_call K (I.ok.hd hc) V7 (by lia) fun h' tk acc c' hk hD YE=>?_
 have hp:H s.heap.objs.size=none:=I.cT.fresh (aM _)
 have rv:Vals vs acc.toList:=Di vs acc.toList (by have:=YE.1; have e:=bJ (xs:=acc); lia) fun i h1 h2=>hP i acc.toList[i] h1 (YE.2 i _ (by rw [bz (by simpa using h2)]; simp))
 exact⟨.ref _,upd H s.heap.objs.size (.lst vs),.ref _,_,I.laid (a:=s.heap.objs.size) (t':=tk) (fun b o e=>hk b o e) (aM _) ⟨by lia,acc.toList,c',rv,by simpa [uB,W.listOf] using hD⟩,.BA ab hp rs,rfl,.ref _,q _ (ab.free hp)⟩
theorem Ia (hc:X.calm=true):qf X (.type "list") EF:=by
 intro pins s σ H G xs ds us Q I ab rx rd q
 unfold EF at q
 split at q
 ·rename_i a
  split at q
  ·rename_i kvs hg
   obtain⟨hn,q⟩:=q
   obtain⟨w1,rfl,DC⟩:=rd.one
   obtain⟨u,rfl,ru⟩:=rx.one
   cases DC
   cases ru
   rcases ab a _ hg with ⟨kv,hq,rs⟩ | ⟨kv,hq,rs⟩
   ·obtain⟨z,hm,vs,rel,ob,es,ep,ho,ex,dd,hko,hp,nd⟩:=I.cT a _ hq
    have l1:es.size=vs.length:=by simpa using hp.length
    have l2:kv.length=vs.length:=gG rel
    have l3:=rs.length
    refine Ab hc I ab (FD hm ex dd) ho (vs:=kv.map fun p=>kV p.1) (zs:=kvs.map (·.1)) (by rw [ah]; lia) (fun i u hi hP=>?_) ?_ (by lia) q
    ·obtain⟨NX,rfl⟩:=hP
     have i2:i < vs.length:=by lia
     have i3:i < kv.length:=by lia
     have g1:=(hp.get? (e:=es[i]) (k:=vs[i].1) (v:=vs[i].2) (by rw [ag (by simpa using NX)]; simp) (by rw [ag i2])).1
     have e2:kv[i].1=vs[i].1:=(wI rel i i3 i2).1
     rw [dJ,e2]
     exact Hg g1
    ·rw [rs.keys]
     have:∀ (l:List (Key×V)),bF X.K H (l.map fun p=>kV p.1) (l.map fun p=>eE p.1):=by
      intro l
      induction l with
      | nil=>exact .nil
      | cons p l ih=>exact .cons (zG p.1) ih
     exact this kv
   ·obtain⟨z,hm,ys,rel,ob,es,ep,ho,ex,dd,hl,nd⟩:=I.cT a _ hq
    have l1:=congrArg dP hl
    rw [ah,bJ] at l1
    have l2:=gG rel
    have l3:=rs.length
    refine Ab hc I ab (FD hm ex dd) ho (vs:=ys.map fun q=>V.ref q.2.1) (zs:=kvs.map (·.1)) (by rw [ah]; lia) (fun i u hi hP=>?_) ?_ (by lia) q
    ·obtain⟨NX,rfl⟩:=hP
     have i2:i < ys.length:=by lia
     have:es[i]=Bf (d8 (cy X.prog X.w)) ys[i]:=by
      have:=congrArg (fun l=>l[i]?) hl
      simp only [bA,ag i2] at this
      simpa [NX] using this
     rw [this,dJ]
     rfl
    ·rw [rs.keys]
     have:∀ (kv:List (List Key×V)) (xs:List (List Key×Addr×Value)),KT H kv xs->bF X.K H (xs.map fun q=>V.ref q.2.1) (kv.map fun p=>D.tup (p.1.map eE)):=by
      intro kv xs r
      induction r with
      | nil=>exact .nil
      | cons h _ ih=>exact .cons (.tup h.2.1 (rZ _)) ih
     exact this kv ys rel
  ·exact q.elim
 ·exact q.elim
theorem xf:qf X (.type "int") cInt:=by
 intro pins s σ H G xs ds us Q I ab rx rd q
 unfold cInt at q
 split at q
 ·rename_i b
  obtain⟨w1,rfl,DC⟩:=rd.one
  obtain⟨u,rfl,ru⟩:=rx.one
  cases DC
  cases ru
  refine call_int_bool ?_
  exact⟨.int _,H,.int _,G,I.tok _,.refl ab,⟨_,rfl⟩,.int _,q⟩
 ·exact q.elim
variable {a:Expr} {ta:gI} {pos p DM p2:Pos}
end
end K2
end
section
namespace K2
open PySem PySem.Spec PyProof.Rows L2
section
variable {X:Cx}
noncomputable def Nd(neg:Bool):BU:=fun x y G Q=>match y with
 | .du=>vj neg x G Q
 | _=>False
theorem UD{H:Hp}{x:V}{dx:D}{v:Value}(r:RelV x v)(rd:cX X.K H x dx)(h:dx≠.du):v≠.none:=by
 intro z
 subst z
 cases rd with
 | du=>exact h rfl
 | bl b=>cases r
 | int i=>obtain⟨t,e⟩:=r; cases e
 | str x=>obtain⟨t,e⟩:=r; cases e
 | _=>cases r
theorem LH{neg:Bool}{x:D}{G:Gp}{Q:DK}(h:x≠.du)(q:vj neg x G Q):Q (.bl neg) G:=by
 cases x with
 | du=>exact absurd rfl h
 | _=>exact q
theorem Tq:oX X (ff .Is) (Nd false):=by
 intro pins s σ H G x y dx dy v u Q I ab rx ry dX dY q
 unfold Nd at q
 split at q
 ·cases dY
  cases ry
  by_cases h:dx=.du
  ·subst h
   cases dX
   cases rx
   exact is_none_none ⟨.bl true,H,.bl true,G,I,.refl ab,rfl,.bl _,q⟩
  ·exact is_none_ne (UD rx dX h) ⟨.bl false,H,.bl false,G,I,.refl ab,rfl,.bl _,LH h q⟩
 ·exact q.elim
theorem Nt:oX X (ff .IsNot) (Nd true):=by
 intro pins s σ H G x y dx dy v u Q I ab rx ry dX dY q
 unfold Nd at q
 split at q
 ·cases dY
  cases ry
  by_cases h:dx=.du
  ·subst h
   cases dX
   cases rx
   exact isnot_none_none ⟨.bl false,H,.bl false,G,I,.refl ab,rfl,.bl _,q⟩
  ·exact isnot_none_ne (UD rx dX h) ⟨.bl true,H,.bl true,G,I,.refl ab,rfl,.bl _,LH h q⟩
 ·exact q.elim
variable {a:Expr} {ta:gI} {pos p:Pos}
end
end K2
end
section
namespace K2
open PySem PySem.Spec PyProof.Rows L2
section
variable {K:aj} {h:Heap} {C:Addr} {Zt:List Value} {newId:String}
inductive WL (h:Heap) (C:Addr) (Zt:List Value) (newId:String):Prop
 | mk (bm N nm qn bs aeX sn sub ab col dd k0 k1 k2 k3 k5 mN) (o:h.get? C=some (excClassObj nm qn C N bs bm aeX sn sub ab col dd k0 k1 k2 k3 k5 newId)) (n:h.Ns N mN) (i:mN "__init__" = none) (t:OwnTail h Zt bm):WL h C Zt newId
end
end K2
end
section
namespace K2
open PySem PySem.Spec PyProof.Rows L2
noncomputable def kp1:HO->Bool
 | .tup _=>true
 | .lW _ (.lst _)=>true
 | .lW _ (.dK _)=>true
 | .lW _ (.dT _)=>true
 | .lW _ (.ext _)=>true
 | _=>false
noncomputable def hr(H:Hp):Hp:=fun b=>(H b).bind fun o=>if kp1 o=true then some o else none
end K2
end
section
namespace K2
open PySem PySem.Spec PyProof.Rows L2
noncomputable def subIn(K:aj)(C:Addr)(v:Value):Bool:=match K.lookup C with
 | some ⟨_,_,.cls cd,_⟩=>cd.mro.contains v
 | _=>false
section
variable {X:Cx} {x cn n:Str} {D f:Addr} {fd:bc} {ps:List Str} {k i:Nat} {sp:oe} {bmD:List Value} {newD:String} {cat:List Str} {e:Expr} {es:List Expr} {p np pos ep aex tp:Pos} {st0:Stmt} {ahF:List Stmt} {t:Iy} {th:iT}
structure ajq(X:Cx):Prop where
 st:X.stack=X.env :: X.outer
 fr:X.env.frame=some X.env.locals
 ex:X.ex=[]
structure Clause(X:Cx)(i:Nat)(n cn:Str)(D:Addr)(cat:List Str):Prop where
 nd:X.N.Nodup
 Sq:X.N[i]?=some n
 loc:X.env.scope.names.lookup n=some .local
 gl:Gl X cn
 mg:X.mg cn=some (.ref D)
 cls:∃ bmD newD,PySem.W.excIn X.K D bmD newD=true/\bmD.contains (.type "BaseException")=true
 cat:∀ c,cat.contains c=true->∃ C Zt newId,br X.K aY c=some (some (.ref C))/\PySem.W.excIn X.K C Zt newId=true/\subIn X.K C (.ref D)=true
end
end K2
end
section
namespace K2
open PySem PySem.Spec PyProof.Rows L2 PySem.W PySem.Calls PySem.Builtin PySem.Builtin.Getset_descriptor
section
variable {prog:ck} {w:World} {A:eF} {E:Value->aA->Prop} {s:aA} {K:aj} {a C:Addr} {ox:Obj}
structure ajn(K:aj)(C:Addr):Prop where
 ga:findIn K (.ref C) "__getattribute__" = some (some (.builtin "BaseException.__getattribute__"))
 gn:findIn K (.ref C) "__getattr__" = some none
 Sq:findIn K (.ref C) "__class__" = some (some (.builtin "object.__class__"))
 sp:specialIn K (.builtin "object.__class__") "__get__" = some (some (.builtin "getset_descriptor.__get__"))
 tk:takesIn K (.builtin "object.__class__")=some true
 mo:mroIn K C (.type "object")=some true
 mb:mroIn K C (.type "BaseException")=some true
 is:(clsIn K C).isSome=true
end
end K2
end
section
namespace K2
open PySem PySem.Spec PyProof.Rows L2
section
variable {X:Cx} {e:Expr} {te:gI} {pos:Pos}
theorem jO{i:Nat}{x:Str}{pos':Pos}(hN:X.N.Nodup)(hi:X.N[i]?=some x)(he:gW X e te)(hx:autoParam (Loc X.env.scope x) Ao._auto_1)(hs:autoParam (Fh e (some (.Name x pos')) pos.line X.env=pure false) Ar._auto_1)(hf:autoParam (X.fn x=true\/X.env.scope.names.lookup x=some .local) Ao._auto_1) :
  Jb X (.Assign [.Name x pos'] e pos) (bQ te (aI i)):=Tc hN hi hx he hs hf
theorem j8{i:Nat}{x:Str}(hN:X.N.Nodup)(hi:X.N[i]?=some x)(hx:autoParam (Loc X.env.scope x) Ao._auto_1)(hf:autoParam (X.fn x=true\/X.env.scope.names.lookup x=some .local) Ao._auto_1):OX X (.Name x pos) (aI i):=Qf hN hi hx hf
theorem sQ{P:ck}{w:World}{K:aj}{mg:Str->Option Value}{base:Heap}{x qual:Str}{st:Stmt}{f:Addr}{fd:bc}{Nn ps:List Str}{k:Nat}{sp:oe}{rd:iT}(F:o3 K x qual st f fd)(S:cV Nn ps (aC st))
  (hr:∀ ds G Q,sp ds G Q (fun _ _=>False)->rd (fun _ _=>False) (ends Q) (bU Nn.length ds) G)
  (hb:∀ (so:Value) (A:eF) (outer:List Env) (s:aA) (H:Hp) (E:XK),nc k (A.deeper (Fj qual (aC st) s.heap.objs.size f so))->A8 (HV gX P w K mg base Nn qual (aC st) f so A outer s H E).WW (bD st) rd)
  (len:autoParam (∀ ds G Q E,sp ds G Q E->ds.length=ps.length) Al._auto_1):dI P w K mg base gX (k+1) f fd ps (dN K sp):=TX F S len hr hb
theorem sG{N ps:List Str}{sc:Scope}(h1:autoParam (sc.kind=.function) Ar._auto_1)(h2:autoParam (sc.isCoroutine=false) Ar._auto_1)(h3:autoParam (sc.isGenerator=false) Ar._auto_1)(h4:autoParam N.Nodup Ak._auto_1)(h5:autoParam (N.take ps.length=ps) Ar._auto_1)
  (h6:autoParam (∀ x∈ps,sc.names.lookup x=some .local\/sc.names.lookup x=some .cell) Ak._auto_1) (h7:autoParam (∀ y∈sc.names,y.2≠.free) Ak._auto_1):cV N ps sc:=⟨h1,h2,h3,h4,h5,h6,h7⟩
end
end K2
end
section
namespace K2
open PySem PySem.Spec PyProof.Rows L2
section
variable {X:Cx} {a b c:Expr} {ta tb tc:gI} {pos:Pos}
theorem Nr{op op':CmpOp}{r r':BU}(ho:oX X (ff op) r)(NU:oX X (ff op') r')(ha:gW X a ta)(hb:gW X b tb)(hc:gW X c tc)
  (hm:autoParam (lastMarks [op,op'] [b,c]=false) Aw._auto_1):gW X (.Compare a [op,op'] [b,c] pos) (KN r r' ta tb tc):=by
 intro E pins s σ H τ G Q hE I h
 refine Compare_chain (kn ha hE I h fun x H1 dx G1 v s1 I1 m1 r1 jV q1=>chain_link (kn hb hE I1 q1 fun y H2 dy G2 u s2 nh m2 r2 yA q2=>?_)) hm
 refine gN (ho pins s2 σ H2 G2 x y dx dy v u _ nh.inv nh.ab r1 r2 (jV.mono (m2.kp I1.ab)) yA q2) fun d s3 z=>?_
 obtain⟨z,H3,dz,G3,I3,m3,r3,Vt,k,e,q3⟩:=z
 subst e
 cases Vt
 cases r3
 have X3:=(m1.trans m2).trans m3
 refine og ?_
 cases k with
 | false=>exact ite_ff ⟨.bl false,H3,.bl false,G3,I3,X3,rfl,.bl _,q3⟩
 | true =>
  have J3:I2 X pins σ H3 τ G3 s3:=nh.mv I3 m3
  refine ite_tt (chain_last (kn hc hE J3 q3 fun w' H4 dw G4 u4 s4 I4 m4 r4 rd4 q4=>?_))
  exact gN (NU pins s4 σ H4 G4 y w' dy dw u u4 Q I4.inv I4.ab r2 r4 ((yA.mono (m3.kp nh.ab)).mono (m4.kp J3.ab)) rd4 q4) fun _ _ z=>z.trans (X3.trans m4)
end
end K2
end
section
namespace K2
open PySem PySem.Spec PyProof.Rows L2
theorem tR{α:Type}{us:List α}(h:us.length=1):∃ a,us=[a]:=List.length_eq_one_iff.mp h
theorem VU{α:Type}{us:List α}{n:Nat}(h:us.length=n+1):∃ a t,us=a :: t/\t.length=n:=by
 cases us with
 | nil=>cases h
 | cons a t=>exact⟨a,t,rfl,Nat.succ.inj h⟩
theorem BF{α:Type}{us:List α}(h:us.length=2):∃ a b,us=[a,b]:=by
 obtain⟨a,t,rfl,h2⟩:=VU h; obtain⟨b,rfl⟩:=tR h2; exact⟨a,b,rfl⟩
theorem Ki{α:Type}{us:List α}(h:us.length=3):∃ a b c,us=[a,b,c]:=by
 obtain⟨a,t,rfl,h2⟩:=VU h; obtain⟨b,c,rfl⟩:=BF h2; exact⟨a,b,c,rfl⟩
theorem VV{α:Type}{us:List α}(h:us.length=4):∃ a b c d,us=[a,b,c,d]:=by
 obtain⟨a,t,rfl,h2⟩:=VU h; obtain⟨b,c,d,rfl⟩:=Ki h2; exact⟨a,b,c,d,rfl⟩
end K2
end
section
namespace K2.S
open PySem PySem.Spec PyProof.Rows L2 PySem.SetTable
section
variable {prog:ck} {w:World} {A:eF} {E:Value->aA->Prop} {s:aA}
noncomputable abbrev TK(prog:ck)(w:World):HeapKind prog w (List Key):=d8 (cy prog w)
theorem L7{h h':Heap}{k:List Key}{b:Addr}(x:(TK prog w).is h k b)(e:∀ o,h.get? b=some o->h'.get? b=some o):(TK prog w).is h' k b:=by
 obtain⟨o,items,n,ho,r⟩:=x
 exact⟨o,items,n,e o ho,r⟩
theorem Kl{h:Heap}{k k':List Key}{b:Addr}(x:(TK prog w).is h k b)(y:(TK prog w).is h k' b):k=k':=(TK prog w).inj x y
noncomputable def RX(B:Addr->Prop)(prog:ck)(w:World)(h:Heap)(es:En)(ks:List (List Key)):Prop :=
 ks.length=es.size/\∀ (i:Nat) (e:Int×Value),es[i]?=some e->∃ (k:List Key) (b:Addr),ks[i]?=some k/\e.2=.ref b/\(TK prog w).is h k b/\e.1=(TK prog w).hash k/\B b
theorem qK{a:Addr}{o:Obj}{es:En}{ep:Nat}{t:ik}{Q:(En×Nat×ik)->aA->Prop}(ho:s.heap.get? a=some o)(hd:o.data=.set es ep t)(O:Ul t es)(h:Q (es,ep,t) s) :
  wpAny (model prog w) A (setState a) Q E s :=
 oh ho hd (by unfold SetTable.fits II; rw [O.sz,O.dm]; have:=O.mU; have:=O.sz; simp; lia) h
theorem HZ(n:Nat){v:Value}(h:BZ v=true):uC n v=pure false:=by
 cases v <;> first | (unfold uC; rfl) | (exact bZ (show false=true from h))
theorem Pw{k:List Key}{b:Addr}(hx:(TK prog w).is s.heap k b){Q:Bool->aA->Prop}(h:Q false s):wpAny (model prog w) A (uC 8 (.ref b)) Q E s:=by
 have hT:s.TypeIs (.ref b) "tuple":=xk hx
 obtain⟨o,items,n,ho,_,hd,hi⟩:=hx
 unfold uC
 refine af (Lc hT ?_)
 dsimp only
 rw [if_pos (beq_self_eq_true _)]
 refine af (av ?_)
 rw [if_neg (by intro z; cases z)]
 refine af (wpAny_seqItems ho hd ?_)
 dsimp only
 refine af ?_
 show wpAny _ _ (forIn items _ _) _ _ s
 rw [← zc]
 refine jw _ (fun rest r s'=>r.1=none/\s'=s/\∀ v∈rest,BZ v=true) _ ?_ ?_ _ _ ⟨rfl,rfl,hi.byValue⟩
 ·rintro v rest r s' ⟨hr,rfl,rE⟩
  rw [HZ _ (rE v ay)]
  refine af (av ?_)
  rw [if_neg (by intro z; cases z)]
  exact av ⟨rfl,rfl,fun u wV=>rE u (ao _ wV)⟩
 ·rintro⟨r1,r2⟩ s' ⟨hr,rfl,_⟩
  simp only at hr
  subst hr
  exact av h
theorem MQ{x:Value}{k:List Key}{b:Addr}(ex:x=.ref b)(hx:(TK prog w).is s.heap k b){l:List Value}(hl:∀ y∈l,∃ k' b',y=.ref b'/\(TK prog w).is s.heap k' b'){Q:Bool->aA->Prop}(h:Q false s) :
  wpAny (model prog w) A (Je x l) Q E s:=by
 subst ex
 unfold Je
 refine af ?_
 refine jw _ (fun rest r s'=>r.1=none/\s'=s/\∀ y∈rest,∃ k' b',y=.ref b'/\(TK prog w).is s.heap k' b') _ ?_ ?_ _ _ ⟨rfl,rfl,hl⟩
 ·rintro v rest r s' ⟨hr,rfl,rE⟩
  obtain⟨k',b',rfl,hv⟩:=rE v ay
  have go:∀ y∈rest,∃ k' b',y=.ref b'/\(TK prog w).is s'.heap k' b':=fun u wV=>rE u (ao _ wV)
  dsimp only
  by_cases c:(b == b'||BZ (.ref b)&&BZ (.ref b'))=true
  ·rw [if_pos c]; exact av ⟨rfl,rfl,go⟩
  ·rw [if_neg c]
   refine af (wpAny_eqIsQuiet_tuple hx ?_)
   rw [if_neg (by intro z; cases z)]
   refine af (wpAny_eqIsQuiet_tuple hv ?_)
   rw [if_neg (by intro z; cases z)]
   refine af (Pw hx ?_)
   rw [if_neg (by intro z; cases z)]
   refine af (Pw hv ?_)
   rw [if_neg (by intro z; cases z)]
   exact av ⟨rfl,rfl,go⟩
 ·rintro⟨r1,r2⟩ s' ⟨hr,rfl,_⟩
  simp only at hr
  subst hr
  exact av h
theorem B2{a:Addr}{o:Obj}{es:En}{ep:Nat}{t:ik}{ks:List (List Key)}{k:List Key}{b:Addr}(hu:(TK prog w).room A)(ho:s.heap.get? a=some o)(hd:o.data=.set es ep t)(O:Ul t es){B:Addr->Prop}(M:RX B prog w s.heap es ks)(hx:(TK prog w).is s.heap k b)
  {N:Nat} (h1:¬ Full t.place (eV t.mask N (probeStart t ((TK prog w).hash k))).j) (h2:∀ n,n < N->Full t.place (eV t.mask n (probeStart t ((TK prog w).hash k))).j) {Q:SetFound->aA->Prop}
  (yes:k∈ks->Q (.there none) s) (no:k∉ks->Q (.free (eV t.mask N (probeStart t ((TK prog w).hash k))).j false) s) :
  ∀ (fuel n:Nat) (st:Option Probe),N - n < fuel->n<=N->st.getD (probeStart t ((TK prog w).hash k))=eV t.mask n (probeStart t ((TK prog w).hash k)) ->
   (∀ n',n' < n->∀ i,i < t.place.size->t.place.getD i 0=(eV t.mask n' (probeStart t ((TK prog w).hash k))).j->ks[i]?≠some k) ->
   wpAny (model prog w) A (setSearchFrom a (.ref b) ((TK prog w).hash k) true fuel st) Q E s
 | 0,n,st,hf,_,_,_=>absurd hf (cE _)
 | fuel+1,n,st,hf,hn,NR,past=>by
  generalize hh:(TK prog w).hash k=h at *
  show wpAny _ _ (setState a >>= _) _ _ s
  refine af (qK ho hd O ?_)
  dsimp only
  have gw:t.gaveWay=false:=by
   unfold SetTable.gaveWay
   rcases O.ms with e | e | e <;> rw [e] <;> rfl
  rw [gw,if_neg (by intro z; cases z),NR]
  have pb:Pb t.mask (eV t.mask n (probeStart t h)):=Pb.eV n (Pb.start t h)
  obtain⟨N',hN',hf',_⟩:=AF O _ pb
  obtain⟨n1,met,g,ba,fin⟩:=Gd O.up O.dm (S.hk es) h (10 * turns t.mask) _ pb ⟨N',hN',hf'⟩
  rw [show eV t.mask n1 (eV t.mask n (probeStart t h))=eV t.mask (n+n1) (probeStart t h) from(jy _ _ _ _).symm,show eV t.mask (n1+1) (eV t.mask n (probeStart t h))=eV t.mask (n+n1+1) (probeStart t h) from(jy _ n (n1+1) _).symm] at fin
  generalize hP:t.probe _ h (eV t.mask n (probeStart t h))=P
  have eP:P=some met:=hP.symm.trans g
  subst eP
  dsimp only
  have le:n+n1<=N:=by
   apply cj
   intro z
   obtain⟨i,hi,e,_⟩:=ba (N - n) (by lia)
   rw [← jy,show n+(N - n)=N by lia] at e
   exact h1 ⟨i,hi,e⟩
  have TM:∀ i,i < t.place.size->ks[i]?=some k->S.hk es i=h:=by
   intro i hi e
   have Az:i < es.size:=by rw [← O.sz]; exact hi
   obtain⟨k',b',q1,_,_,q4⟩:=M.2 i _ (bz Az)
   rw [e] at q1; cases q1
   unfold S.hk
   rw [bz Az,← hh]; exact q4.1
  have UA:∀ n',n' < n+n1->∀ i,i < t.place.size->t.place.getD i 0=(eV t.mask n' (probeStart t h)).j->ks[i]?≠some k:=by
   intro n' Hm i hi e ek
   by_cases c:n' < n
   ·exact past n' c i hi e ek
   ·obtain⟨i',Az,e',ne⟩:=ba (n' - n) (by lia)
    rw [← jy,show n+(n' - n)=n' by lia] at e'
    have:=O.up.inj hi Az (e.trans e'.symm)
    subst this
    exact ne (TM i hi ek)
  rcases fin with ⟨nf,rfl⟩ | ⟨i,hi,pi,aio,rfl⟩
  ·have eN:n+n1=N:=by
    by_cases c:n+n1 < N
    ·exact absurd (h2 _ c) nf
    ·lia
   rw [eN]
   dsimp only
   refine av (no fun hk=>?_)
   obtain⟨i,hi,e⟩:=da hk
   have ek:ks[i]?=some k:=by rw [ag hi,e]
   have Az:i < t.place.size:=by rw [O.sz,← M.1]; exact hi
   obtain⟨n0,w1,w2⟩:=O.way i Az
   rw [TM i Az ek] at w1 w2
   have lt:n0 < N:=by
    apply cj
    intro z
    by_cases c:n0=N
    ·subst c; exact h1 ⟨i,Az,w1.symm⟩
    ·exact h1 (w2 N (by lia))
   exact UA n0 (by lia) i Az w1.symm ek
  ·have Az:i < es.size:=by rw [← O.sz]; exact hi
   obtain⟨k',b',q1,q2,q3,q4⟩:=M.2 i _ (bz Az)
   have nN:n+n1≠N:=fun z=>h1 ⟨i,hi,by rw [← z]; exact pi⟩
   have red:∀ (l:List Value) (m:Sem SetFound),(∀ y∈l,∃ k' b',y=.ref b'/\(TK prog w).is s.heap k' b')->wpAny (model prog w) A m Q E s ->
     wpAny (model prog w) A (if (!t.led)=true then (Je (.ref b) l >>= fun r=>if r=true then ((O3 "set:the-search-would-show-the-table" : Sem PUnit) >>= fun _=>m) else m) else m) Q E s:=by
    intro l m hl hm
    cases t.led with
    | true=>rw [if_neg (by intro z; cases z)]; exact hm
    | false =>
     rw [if_pos (show (!false)=true from rfl)]
     refine af (MQ rfl hx hl ?_)
     rw [if_neg (by intro z; cases z)]; exact hm
   refine red _ _ (fun y hy=>?_) ?_
   ·obtain⟨e,he,rfl⟩:=List.mem_map.mp hy
    rw [SG] at he
    have he:=(List.mem_filter.mp he).1
    obtain⟨m,hm,em⟩:=da he
    obtain⟨k2,b2,_,z2,z3,_⟩:=M.2 m e (by rw [← cP,ag hm,em])
    exact⟨k2,b2,z2,z3⟩
   ·rw [bz Az]
    generalize he0:es[i]=e0 at q2 q4 ⊢
    obtain⟨h0,y⟩:=e0
    have q2:y=.ref b':=q2
    subst q2
    dsimp only
    refine af (fF ((TK prog w).eqBool hu q3 hx ?_))
    refine af (qK ho hd O ?_)
    dsimp only
    by_cases c:k'=k
    ·rw [decide_eq_true c,if_pos (show (true&&true)=true from rfl)]
     subst c
     exact av (yes (di q1))
    ·rw [decide_eq_false c,if_neg (by intro z; cases z)]
     have sm:t.sameMemory t.moves t.mask=some true:=by unfold SetTable.sameMemory; rw [if_pos (beq_self_eq_true _)]
     rw [sm]
     dsimp only
     rw [if_pos (show true=true from rfl),show t.slot (eV t.mask (n+n1) (probeStart t h)).j=.live i from pi ▸ Cb O.up hi]
     dsimp only
     rw [bz Az,he0]
     dsimp only
     refine af ?_
     unfold isSame
     dsimp only
     rw [if_pos (beq_self_eq_true b')]
     refine av (af (av ?_))
     rw [if_pos (show true=true from rfl)]
     dsimp only
     rw [if_neg (by intro z; cases z)]
     have Xw:=B2 hu ho hd O M hx (N:=N) (Q:=Q) (by rw [hh]; exact h1) (by rw [hh]; exact h2) yes (by rw [hh]; exact no) fuel (n+n1+1) (some (eV t.mask (n+n1+1) (probeStart t h)))
     rw [hh] at Xw
     refine Xw (by lia) (by lia) rfl fun n' Hm i2 NX e2 ek=>?_
     by_cases c2:n' < n+n1
     ·exact UA n' c2 i2 NX e2 ek
     ·have:n'=n+n1:=by lia
      subst this
      have:=O.up.inj NX hi (e2.trans pi.symm)
      subst this
      rw [q1] at ek; cases ek; exact c rfl
end
end K2.S
end
section
namespace K2.S
open PySem PySem.Spec PyProof.Rows L2 PySem.SetTable
section
variable {B:Addr->Prop} {prog:ck} {w:World} {A:eF} {E:Value->aA->Prop} {s:aA}
theorem RX.keep{h h':Heap}{es:En}{ks:List (List Key)}(M:RX B prog w h es ks)(e:∀ b o,B b->h.get? b=some o->(∃ items n,o.data=.seq items n)->h'.get? b=some o):RX B prog w h' es ks:=by
 refine⟨M.1,fun i x hx=>?_⟩
 obtain⟨k,b,q1,q2,q3,q4⟩:=M.2 i x hx
 refine⟨k,b,q1,q2,?_,q4⟩
 obtain⟨o,items,n,ho,hc,hd,r⟩:=q3
 exact⟨o,items,n,e b o q4.2 ho ⟨items,n,hd⟩,hc,hd,r⟩
theorem RX.perm{h:Heap}{es es':En}{ks:List (List Key)}(M:RX B prog w h es ks)(p:List.Perm es'.toList es.toList):∃ OQ,RX B prog w h es' OQ/\OQ.Perm ks:=by
 classical
 let Kf:Int×Value->List Key:=fun e=>if z:∃ k,∃ b,e.2=.ref b/\(TK prog w).is h k b then R4 z else []
 have at_:∀ e∈es.toList,∃ b,e.2=.ref b/\(TK prog w).is h (Kf e) b/\e.1=(TK prog w).hash (Kf e)/\B b:=by
  intro e he
  obtain⟨i,hi,ei⟩:=da he
  obtain⟨k,b,q1,q2,q3,q4⟩:=M.2 i e (by rw [← cP,ag hi,ei])
  have z:∃ k,∃ b,e.2=.ref b/\(TK prog w).is h k b:=⟨k,b,q2,q3⟩
  have ek:Kf e=R4 z:=dif_pos z
  obtain⟨b2,e2,i2⟩:=Classical.choose_spec z
  rw [q2] at e2
  cases e2
  have:=Kl q3 i2
  rw [ek,← this]
  exact⟨b,q2,q3,q4⟩
 have eks:ks=es.toList.map Kf:=by
  refine List.ext_getElem? fun i=>?_
  rw [bA]
  by_cases hi:i < es.size
  ·obtain⟨k,b,q1,q2,q3,q4⟩:=M.2 i _ (bz hi)
   rw [q1,cP,bz hi]
   obtain⟨b2,z1,z2,_⟩:=at_ es[i] (Array.getElem_mem_toList hi)
   rw [q2] at z1; cases z1
   rw [Kl q3 z2]; rfl
  ·rw [gm (by rw [M.1]; lia),cP,gR (by lia)]; rfl
 refine⟨es'.toList.map Kf,⟨by rw [ah,bJ],fun i e he=>?_⟩,by rw [eks]; exact p.map _⟩
 have hm:e∈es'.toList:=di (by rw [cP]; exact he)
 obtain⟨b,z1,z2,z3⟩:=at_ e (p.mem_iff.mp hm)
 exact⟨Kf e,b,by rw [bA,cP,he]; rfl,z1,z2,z3⟩
theorem RX.ins{h:Heap}{es:En}{ks:List (List Key)}(M:RX B prog w h es ks){k:List Key}{b:Addr}(hx:(TK prog w).is h k b)(hB:B b){p:Nat}(hp:p<=es.size) :
  RX B prog w h (insertAt es p ((TK prog w).hash k,.ref b)) (ks.take p++k :: ks.drop p):=by
 have lk:(ks.take p).length=p:=by rw [dW,M.1]; lia
 refine⟨by rw [aq,ak,lk,cM,iz _ _ _ hp,M.1]; lia,fun i e he=>?_⟩
 rw [vF _ _ _ hp] at he
 by_cases c:i < p
 ·rw [if_pos c] at he
  obtain⟨k',b',q⟩:=M.2 i e he
  exact⟨k',b',by rw [dG (by lia),kr c]; exact q.1,q.2⟩
 ·rw [if_neg c] at he
  by_cases d:i=p
  ·rw [if_pos d] at he
   cases he
   exact⟨k,b,by rw [cC (by lia),lk,d,E3]; rfl,rfl,hx,rfl,hB⟩
  ·rw [if_neg d] at he
   obtain⟨k',b',q⟩:=M.2 (i - 1) e he
   exact⟨k',b',by rw [cC (by lia),lk,show i - p=(i - p - 1)+1 by lia,ae,Bj,show p+(i - p - 1)=i - 1 by lia]; exact q.1,q.2⟩
noncomputable def K9(k:List Key):Prop:=∀ x∈k,∃ i,x=C6 i
noncomputable def RR(B:Addr->Prop)(prog:ck)(w:World)(h:Heap)(a:Addr)(led:Bool)(ks:List (List Key)):Prop :=
 ∃ o es ep t,h.get? a=some o/\o.ExactSet/\o.data=.set es ep t/\Ul t es/\t.tooFull=false/\t.led=led/\((∀ k∈ks,K9 k)->t.plain=true)/\RX B prog w h es ks
theorem int_at{k:List Key}{vs:List Value}(hi:ItemsAre (cy prog w) k vs)(c:K9 k){v:Value}(hv:v∈vs):∃ t:Int×Tok,v=.int t.1 t.2:=by
 induction hi with
 | nil=>cases hv
 | cons h _ ih =>
  rcases List.mem_cons.mp hv with e | hv
  ·subst e
   obtain⟨i,rfl⟩:=c _ ay
   rcases fj (k:=.inl i) h with ⟨j,t,e,rfl⟩ | ⟨_,_,e,_⟩
   ·exact⟨(j,t),rfl⟩
   ·cases e
  ·exact ih (fun x hx=>c x (ao _ hx)) hv
theorem UZ{k:List Key}{b:Addr}(hx:(TK prog w).is s.heap k b){Q:Bool->aA->Prop}(h:∀ r,(K9 k->r=true)->Q r s):wpAny (model prog w) A (O9 8 (.ref b)) Q E s:=by
 have hT:s.TypeIs (.ref b) "tuple":=xk hx
 obtain⟨o,items,n,ho,_,hd,hi⟩:=hx
 unfold O9
 refine af (yV hT F.slot_tuple_hash.lookup ?_)
 show wpAny _ _ (seqItems? (.ref b) >>= _) _ _ s
 refine af (wpAny_seqItems ho hd ?_)
 refine af ?_
 show wpAny _ _ (forIn items _ _) _ _ s
 rw [← zc]
 have hb:∀ v∈items.toList,∃ r,O9 7 v=pure r/\(K9 k->r=true):=by
  intro v hv0
  by_cases c:K9 k
  ·obtain⟨t,e⟩:=int_at hi c hv0
   subst e
   exact⟨true,rfl,fun _=>rfl⟩
  ·have hv:=hi.byValue v hv0
   cases v <;> first | exact⟨_,rfl,fun z=>absurd z c⟩ | (exact bZ (show false=true from hv))
 refine jw _ (fun rest r s'=>r.1=none/\s'=s/\∀ v∈rest,∃ r,O9 7 v=pure r/\(K9 k->r=true)) _ ?_ ?_ _ _ ⟨rfl,rfl,hb⟩
 ·rintro v rest r s' ⟨hr,rfl,rE⟩
  obtain⟨x,hv,hx1⟩:=rE v ay
  rw [hv]
  refine af (av ?_)
  cases x with
  | true =>
   rw [if_neg (by intro z; cases z)]
   exact av ⟨rfl,rfl,fun u wV=>rE u (ao _ wV)⟩
  | false =>
   rw [if_pos (show (!false)=true from rfl)]
   exact av (av (h _ hx1))
 ·rintro⟨r1,r2⟩ s' ⟨hr,rfl,_⟩
  simp only at hr
  subst hr
  exact av (h _ fun _=>rfl)
theorem PG{m n:Nat}(hm:Mk m)(h1:¬ n * 5>=m * 3)(h2:(n+1) * 5>=m * 3)(h3:n < 76):Mk (sizeAbove (grown (n+1)) - 1)/\n+1<=sizeAbove (grown (n+1)) - 1/\¬ (n+1) * 5>=(sizeAbove (grown (n+1)) - 1) * 3/\sizeAbove (grown (n+1))<=128:=by
 rcases hm with rfl | rfl | rfl
 ·have:n=4:=by lia
  subst this
  exact⟨.inr (.inl (by decide)),by decide,by decide,by decide⟩
 ·have:n=18:=by lia
  subst this
  exact⟨.inr (.inr (by decide)),by decide,by decide,by decide⟩
 ·lia
end
end K2.S
end
section
namespace K2.S
open PySem PySem.Spec PyProof.Rows L2 PySem.SetTable
section
variable {B:Addr->Prop} {prog:ck} {w:World} {A:eF} {E:Value->aA->Prop} {s:aA}
theorem PW{m i:Nat}(h:i < m+1):i+(runEnd m i - i)<=m:=by
 unfold runEnd; split <;> lia
theorem Xm{m:Nat}{p:Probe}(h:p.j+p.more<=m):(lF m p).j+(lF m p).more<=m:=by
 unfold lF
 by_cases c:p.more > 0
 ·rw [if_pos c]; dsimp only; lia
 ·rw [if_neg c]; exact PW (jX _ (kL m))
theorem PH{m:Nat}:∀ (n:Nat) {p:Probe},p.j+p.more<=m->(eV m n p).j+(eV m n p).more<=m
 | 0,_,h=>h
 | n+1,_,h=>PH n (Xm h)
theorem LN{h:Heap}{a:Addr}{o:Obj}{es:En}{ep:Nat}{t:ik}(ho:h.get? a=some o)(hd:o.data=.set es ep t)(es':En)(t':ik) :
  (h.update a (sx es' t')).get? a=some { o with data:=.set es' (ep+1) t' }:=by
 have:=fD (sx es' t') ho (by rw [putSet_of es' t' hd]; rfl)
 rw [putSet_of es' t' hd] at this; exact this
theorem FZ{h:Heap}{a:Addr}{o:Obj}{es:En}{ep:Nat}{t:ik}(ho:h.get? a=some o)(hd:o.data=.set es ep t)(f:Obj->Obj):∀ b o',h.get? b=some o'->(∃ items n,o'.data=.seq items n)->(h.update a f).get? b=some o':=by
 rintro b o' e ⟨items,n,q⟩
 have nb:a≠b:=fun z=>by subst z; rw [ho] at e; cases e; rw [hd] at q; cases q
 exact(ux _ _ nb).trans e
theorem Ei(t:ik)(dm:t.dummies=#[]):t.tooFull=decide (t.place.size * 5>=t.mask * 3):=by
 unfold SetTable.tooFull II; rw [dm]; rfl
theorem U0{a:Addr}{led:Bool}{ks:List (List Key)}{k:List Key}{b:Addr}(hu:(TK prog w).room A)(hS:RR B prog w s.heap a led ks)(hx:(TK prog w).is s.heap k b)(hB:B b)(mU:ks.length < 76){Q:Bool->aA->Prop}
  (h:∀ h' OQ r,(k∈ks->OQ=ks)->(k∉ks->OQ.Perm (k :: ks))->gM a s.heap h'->RR B prog w h' a led OQ->Q r { s with heap:=h' }) :
  wpAny (model prog w) A (setAddHashed a (.ref b) ((TK prog w).hash k)) Q E s:=by
 obtain⟨o,es,ep,t,ho,hex,hd,O,nf,hl,QX,M⟩:=hS
 have hsz:es.size < 76:=by rw [← M.1]; exact mU
 obtain⟨N,hN,h1,h2⟩:=AF O _ (Pb.start t ((TK prog w).hash k))
 have hN':N < 100000:=by
  have:t.mask<=127:=by rcases O.ms with e | e | e <;> lia
  unfold turns at hN; lia
 unfold setAddHashed setAddHashedIn
 refine fF (af (qK ho hd O ?_))
 dsimp only
 rw [show byScan (.ref b) es=false from rfl,if_neg (by intro z; cases z)]
 unfold setSearch
 refine af (B2 hu ho hd O M hx h1 h2 (fun hk=>?_) (fun hk=>?_) 100000 0 none (by lia) (cJ _) rfl (fun n' z=>absurd z (cE _)))
 ·dsimp only
  refine av ?_
  have e:s={ s with heap:=s.heap }:=by cases s; rfl
  rw [e]
  exact h s.heap ks false (fun _=>rfl) (fun z=>absurd hk z) (wm a s.heap) ⟨o,es,ep,t,ho,hex,hd,O,nf,hl,QX,M⟩
 ·dsimp only
  refine af (qK ho hd O ?_)
  dsimp only
  rw [Nh t O.dm]
  dsimp only
  obtain⟨j,ej⟩:∃ j,(eV t.mask N (probeStart t ((TK prog w).hash k))).j=j:=⟨_,rfl⟩
  rw [ej]
  have hj:j<=t.mask:=by
   rw [← ej]
   exact cG (gC _ _) (PH N (PW (jX _ (kL t.mask))))
  have nf':¬ t.place.size * 5>=t.mask * 3:=by rw [Ei t O.dm] at nf; exact of_decide_eq_false nf
  have room:t.place.size+1<=t.mask:=by rcases O.ms with e | e | e <;> lia
  have RM:below t.place j<=es.size:=by rw [← O.sz]; exact(p9 O.up j).1
  have rest:∀ t':ik,t'.mask=t.mask->t'.dummies=t.dummies->t'.place=insertAt t.place (below t.place j) j->t'.led=t.led->((∀ x∈k :: ks,K9 x)->t'.plain=true) ->
    wpAny (model prog w) A (do
     storeSet a (insertAt es (below t.place j) ((TK prog w).hash k,.ref b)) t'
     if (!false&&t'.tooFull)=true then do
      setRelay a (grown (es.size+1))
      pure true
     else pure true) Q E s:=by
   intro t' e1 e2 e3 e4 e5
   have O':Ul t' (insertAt es (below t.place j) ((TK prog w).hash k,.ref b)):=by
    have:=O.add (x:=.ref b) h1 h2 (by rw [ej]; exact hj) room e1 e2 (by rw [ej]; exact e3)
    rw [ej] at this; exact this
   have M':=M.ins hx hB RM
   have Va:t'.place.size=es.size+1:=by rw [O'.sz,iz _ _ _ RM]
   have pk:(ks.take (below t.place j)++k :: ks.drop (below t.place j)).Perm (k :: ks):=by
    refine List.perm_middle.trans ?_
    rw [gk]
   refine af (wpAny_storeSet_of ho hd ?_ (by rw [iz _ _ _ RM,cN]; lia))
   have g1:=LN ho hd (insertAt es (below t.place j) ((TK prog w).hash k,.ref b)) t'
   have M1:=M'.keep (h':=s.heap.update a (sx (insertAt es (below t.place j) ((TK prog w).hash k,.ref b)) t')) (fun c o _=>FZ ho hd _ c o)
   have sb1:=cR s.heap a (sx (insertAt es (below t.place j) ((TK prog w).hash k,.ref b)) t')
   cases tf:t'.tooFull with
   | false =>
    rw [if_neg (by intro z; cases z)]
    exact av (h _ _ true (fun z=>absurd z hk) (fun _=>pk) sb1 ⟨_,_,_,_,g1,hex,rfl,O',tf,e4.trans hl,fun z=>e5 fun x hx=>z x (pk.mem_iff.mpr hx),M1⟩)
   | true =>
    rw [if_pos (show (!false&&true)=true from rfl)]
    rw [Ei t' O'.dm,Va,e1] at tf
    obtain⟨m1,m2,m3,m4⟩:=PG O.ms (n:=es.size) (by rw [← O.sz]; exact nf') (of_decide_eq_true tf) hsz
    refine af ?_
    unfold setRelay
    refine af (qK (s:={ s with heap:=s.heap.update a (sx (insertAt es (below t.place j) ((TK prog w).hash k,.ref b)) t') }) g1 rfl O' ?_)
    dsimp only
    rw [if_neg (by rw [cN]; lia)]
    obtain⟨t2,order,el,l1,l2,l3,l4,l5,O2⟩:=Tz m1 (insertAt es (below t.place j) ((TK prog w).hash k,.ref b)) (by rw [iz _ _ _ RM]; exact m2) t'.finger (t'.movedTo (sizeAbove (grown (es.size+1)) - 1)) t'.led t'.plain
    have er:t'.relaid ((insertAt es (below t.place j) ((TK prog w).hash k,fx b)).map (·.1)) (grown (es.size+1))=some (t2,order):=el
    rw [er]
    refine af (C5 (a:=(order.filterMap ((insertAt es (below t.place j) ((TK prog w).hash k,fx b))[·]?),t2)) ?_ ?_)
    ·show (if (_ != _)=true then _ else _)=_
     rw [if_neg (by rw [l4,bne_self_eq_false]; intro z; cases z)]
    obtain⟨X5,M2,pm⟩:=M1.perm l5
    refine wpAny_storeSet_of g1 rfl ?_ (by rw [l4,iz _ _ _ RM,cN]; lia)
    have g2:=LN g1 rfl (order.filterMap ((insertAt es (below t.place j) ((TK prog w).hash k,fx b))[·]?)) t2
    have M3:=M2.keep (h':=(s.heap.update a (sx (insertAt es (below t.place j) ((TK prog w).hash k,.ref b)) t')).update a (sx (order.filterMap ((insertAt es (below t.place j) ((TK prog w).hash k,fx b))[·]?)) t2)) (fun c o _=>FZ g1 rfl _ c o)
    refine av (h _ X5 true (fun z=>absurd z hk) (fun _=>pm.trans pk) (sb1.trans (cR _ a _)) ⟨_,_,_,_,g2,hex,rfl,O2,?_,by rw [l2,e4]; exact hl,fun z=>l3.trans (e5 fun x hx=>z x ((pm.trans pk).mem_iff.mpr hx)),M3⟩)
    rw [Ei t2 O2.dm,O2.sz,l4,iz _ _ _ RM,l1]
    exact decide_eq_false m3
  cases hp:t.plain with
  | true =>
   rw [if_pos (show true=true from rfl)]
   refine af (UZ hx fun r hr=>?_)
   cases r with
   | true=>exact rest _ rfl rfl rfl rfl fun _=>rfl
   | false=>exact rest _ rfl rfl rfl rfl fun z=>hr (z k ay)
  | false =>
   rw [if_neg (by intro z; cases z)]
   exact af (av (rest _ rfl rfl rfl rfl fun z=>by have:=QX fun x hx=>z x (ao _ hx); rw [hp] at this; exact this))
end
end K2.S
end
section
namespace K2.S
open PySem PySem.Spec PyProof.Rows L2 PySem.SetTable
section
variable {B:Addr->Prop} {prog:ck} {w:World} {A:eF} {E:Value->aA->Prop} {s:aA}
noncomputable def Ja (w:World):Bool:=w.params.followText "set-order"
noncomputable def zw (w:World):Obj:={ cls:=.type "set",dict:=none,data:=.set #[] 0 (.fresh 0 0 (!Ja w)) }
theorem SW{h:Heap}{a:Addr}(e:h.get? a=some (zw w)):RR B prog w h a (!Ja w) []:=by
 refine⟨_,#[],0,.fresh 0 0 (!Ja w),e,⟨rfl,rfl,rfl⟩,rfl,⟨.inl rfl,rfl,rfl,fun a b _ z=>absurd z (cE _),fun k z=>absurd z (cE _),cJ _,fun k z=>absurd z (cE _)⟩,rfl,rfl,(fun _=>rfl),rfl,fun i e he=>?_⟩
 cases he
theorem Xn (x:Value) {Q:Value->aA->Prop} (h:Q (.ref s.heap.objs.size) { s with heap:=s.heap.push (zw w) }):y8 (model prog w) A (.call (.builtin "set.__new__") ⟨[.type "set",x],[]⟩) (wants Q E) s:=by
 refine codeAny_of_tree (show wpAny _ A.in1 (do checkBuiltinCall "set.__new__" ⟨[.type "set",x],[]⟩; again (.builtin "set.__new__" ⟨[.type "set",x],[]⟩)) _ _ s from ?_)
 refine af (C5 (F.newCall_set_1 x) (av ⟨Fi F.plain_set_new _,mF F.entry_set_new ?_⟩))
 rw [jT F.plain_set_new _]
 unfold Builtin.«set.__new__» Builtin.Frozenset.newClass
 have NQ:=sub_set_self
 obtain⟨hp,g,d,tk,os⟩:=s
 dsimp only at h ⊢
 wp_walk
 refine MM (av ?_)
 dsimp only
 simp only [newObj]
 refine af (wpAny_alloc (av (av h)))
variable {R:Result->aA->Prop} {I:Addr} {fp wr:List Addr} {G:Array GenState->Array GenState->Prop} {n:Nat} {P:Nat->Value->Prop} {St:Nat->aA->Prop}
noncomputable def Q7(acc:List (List Key))(k:List Key):Bool:=acc.any fun x=>decide (x=k)
theorem vI{acc:List (List Key)}{k:List Key}:Q7 acc k=true↔k∈acc:=by
 unfold Q7
 rw [List.any_eq_true]
 exact⟨fun ⟨x,hx,e⟩=>of_decide_eq_true e ▸ hx,fun h=>⟨k,h,decide_eq_true rfl⟩⟩
noncomputable def oF(acc:List (List Key))(k:List Key):List (List Key):=if Q7 acc k=true then acc else acc++[k]
noncomputable def ded(l:List (List Key)):List (List Key):=l.foldl oF []
theorem M6(acc:List (List Key))(k:List Key):(oF acc k).length<=acc.length+1:=by
 unfold oF; split
 ·lia
 ·rw [aq,bp]; exact aM _
theorem RR.keeps{h h':Heap}{a:Addr}{b:Bool}{ks:List (List Key)}(x:RR B prog w h a b ks)(k:∀ c o,(c=a\/B c)->h.get? c=some o->h'.get? c=some o):RR B prog w h' a b ks:=by
 obtain⟨o,es,ep,t,e,r1,r2,r3,r4,r5,r6,M⟩:=x
 exact⟨o,es,ep,t,k a o (.inl rfl) e,r1,r2,r3,r4,r5,r6,M.keep fun c o z e _=>k c o (.inr z) e⟩
theorem Vb{b:Bool}(W:WalksS prog w A.in1 I fp wr G n P St)(S:Addr)(hSf:S∉fp)(T:Heap->Prop)(key:Nat->List Key)(mU:n<=76)(hu:(TK prog w).room A.in1)
  (hT:∀ h,T h->∀ i v,P i v->∃ c,v=.ref c/\(TK prog w).is h (key i) c/\B c) (hTk:∀ h h',T h->(∀ c o,c∉S :: wr->h.get? c=some o->h'.get? c=some o)->T h')
  (hW:∀ c,B c->c∉wr) :
  ∀ (k i:Nat) (s:aA) (acc ks:List (List Key)),n - i=k->i<=n->acc.length<=i->ks.Perm acc->St i s->T s.heap->RR B prog w s.heap S b ks ->
   (∀ s' OQ,Moved (S :: wr) G s s'->OQ.Perm (((List.range' i k).map key).foldl oF acc)->T s'.heap->RR B prog w s'.heap S b OQ->R (.ok (.ret .none)) s') ->
   y8 (model prog w) A (.builtin "set.update.loop" ⟨[.ref S,.ref I],[]⟩) R s:=by
 have hSw:S∉wr:=fun h=>hSf (W.sub _ h)
 have NQ:∀ c∈wr,c∈S :: wr:=fun c hc=>ao _ hc
 intro k
 induction k with
 | zero =>
  intro i s acc ks hk hi ha hp NR ht hS hR
  have NV:i=n:=by lia
  subst NV
  refine mF SF ?_
  rw [jT uH _]
  show wpAny _ A.in1 (qC (.ref I) >>= _) _ _ s
  refine af (W.done s _ _ NR fun s' hm=>(show wpAny _ A.in1 (ret eD) _ _ s' from av (hR s' ks (hm.mono NQ) hp (hTk _ _ ht fun c o hc e=>hm.heap c o (fun z=>hc (NQ c z)) e) (hS.keeps fun c o z e=>hm.heap c o (fun q=>?_) e))))
  rcases z with rfl | z
  ·exact hSw q
  ·exact hW c z q
 | succ k ih =>
  intro i s acc ks hk hi ha hp NR ht hS hR
  have lG:i < n:=by lia
  refine mF SF ?_
  rw [jT uH _]
  show wpAny _ A.in1 (qC (.ref I) >>= _) _ _ s
  refine af (W.item i s _ _ lG NR fun v s' hP aev hm=>?_)
  have Yg:T s'.heap:=hTk _ _ ht fun c o hc e=>hm.heap c o (fun z=>hc (NQ c z)) e
  obtain⟨c,rfl,hx,hB⟩:=hT _ Yg i v hP
  have YI:RR B prog w s'.heap S b ks:=hS.keeps fun c o z e=>hm.heap c o (fun q=>by
   rcases z with rfl | z
   ·exact hSw q
   ·exact hW c z q) e
  show wpAny _ A.in1 (O8 [fx c] (setAdd S (.ref c)) >>= _) _ _ s'
  refine af (fF ?_)
  unfold setAdd
  refine fF (af ((TK prog w).pyHash hu hx ?_))
  refine U0 (s:={ s' with toks:=s'.toks+(TK prog w).draws (key i) }) hu YI hx hB (by rw [hp.length_eq]; lia) fun h' OQ r NV TL Yj hS2=>?_
  have Xj:T h':=hTk _ _ Yg fun c o hc e=>by rw [Yj.2 c (fun z:c=S=>hc (by rw [z]; exact ay))]; exact e
  have UJ:OQ.Perm (oF acc (key i)):=by
   unfold oF
   by_cases z:Q7 acc (key i)=true
   ·rw [if_pos z,NV (hp.mem_iff.mpr (vI.mp z))]; exact hp
   ·rw [if_neg z]
    exact(TL fun q=>z (vI.mpr (hp.mem_iff.mp q))).trans ((hp.cons _).trans (List.perm_append_singleton _ _).symm)
  refine av ⟨Fi uH _,ih (i+1) _ (oF acc (key i)) OQ (by lia) lG (cG (M6 _ _) (by lia)) UJ (W.frame _ s' _ _ aev (gC _ _) fun c hc o e=>?_) Xj hS2 fun s2 X5 Ys Sg ht2 hS3=>?_⟩
  ·rw [Yj.2 c (fun z:c=S=>hSf (by rw [← z]; exact hc))]; exact e
  ·refine hR s2 X5 (Moved.trans W.gtrans ((hm.mono NQ).then_heap (gC _ _) fun c o hc e=>?_) Ys) Sg ht2 hS3
   rw [Yj.2 c (fun z:c=S=>hc (by rw [z]; exact ay))]; exact e
end
end K2.S
end
section
namespace K2.S
open PySem PySem.Spec PyProof.Rows L2 PySem.SetTable
section
variable {prog:ck} {w:World} {A:eF} {E:Value->aA->Prop} {s:aA}
set_option maxRecDepth 100000 in
theorem Vc{l:Addr}{items:Array Value}{Q:Value->aA->Prop}(hh:A.handled=none)(hu:A.units+64 < cLine)(hl:s.heap.IsList l items)(key:Nat->List Key)(mU:items.size<=76)(aes:∀ (i:Nat) (v:Value),items[i]?=some v->∃ c,v=.ref c/\(TK prog w).is s.heap (key i) c)
  (h:∀ (h':Heap) (tk:Nat) (ks:List (List Key)),RR (fun c=>c < s.heap.objs.size/\fx c∈items.toList) prog w h' s.heap.objs.size (!Ja w) ks->ks.Perm (ded ((bq items.size).map key))->(∀ c o,c < s.heap.objs.size->s.heap.get? c=some o->h'.get? c=some o)->Q (.ref s.heap.objs.size) { s with heap:=h',toks:=tk }) :
  wpAny (model prog w) A (call (.type "set") [.ref l]) Q E s:=by
 obtain⟨c,tl,alz⟩:=F.called_set.mro
 have aii:=F.called_set.made
 have NQ:=F.called_set.sub
 refine wpAny_call (codeAny_of_tree (show wpAny _ _ (callAny (.type "set") _) _ _ _ from ?_))
 refine av ⟨Code.quiet_builtin _ (by decide +kernel),mF F.entry_type_call ?_⟩
 rw [Around.under_plain (weight_type_call_type "set" [.ref l] []) rfl]
 have h1:=F.called_set.notType
 have h2:=F.called_set.canCreate
 have hct:=F.typeCall_set_1 (.ref l)
 repeat (any_goals (first | assumption | wp_step))
 refine yZ (Xn (.ref l) (E:=E) (Q:=fun obj gr=>obj=.ref s.heap.objs.size/\gr={ s with heap:=s.heap.push (zw w) }) ⟨rfl,rfl⟩) fun r s1 hr=>?_
 cases r with
 | error e=>exact hr
 | ok fl =>
  cases fl with
  | ret obj =>
   obtain⟨rfl,rfl⟩:=hr
   have hS:(s.heap.push (zw w)).get? s.heap.objs.size=some (zw w):=bx _ rfl
   have hT:Shared.TypeIs { s with heap:=s.heap.push (zw w) } (.ref s.heap.objs.size) "set":=⟨_,hS,rfl⟩
   have hli:=F.called_set.init.lookup
   have hbi:=F.called_set.init.bind (.ref s.heap.objs.size)
   repeat (any_goals (first | assumption | wp_step))
   refine yZ (codeAny_call_builtin (R:=wants (fun r zm=>r=.none/\∃ h' tk ks,zm={ s with heap:=h',toks:=tk }/\RR (fun c=>c < s.heap.objs.size/\fx c∈items.toList) prog w h' s.heap.objs.size (!Ja w) ks/\ks.Perm (ded ((bq items.size).map key)) /\
     (∀ c o,c < s.heap.objs.size->s.heap.get? c=some o->h'.get? c=some o)) E) F.called_set.init.plain F.entry_set_init (check_set_init_1 hT ?_)) fun abi zm QU=>?_
   ·obtain⟨⟨aku,XT,ahV,VC⟩,hol,Ks,nl,hdl⟩:=hl
    simp only at Ks hdl
    subst Ks hdl
    have aeB:(s.heap.push (zw w)).get? l=some { cls:=.type "list",dict:=XT,data:=.seq items nl,slots:=VC }:=aN _ hol
    have alj:=F.sub_list_set
    have alk:=F.sub_list_frozenset
    have kD:(Value.type "list" == Value.type "dict")=false:=by decide
    have UL:(s.heap.push (zw w)).IsList l items:=⟨_,aeB,rfl,nl,rfl⟩
    unfold zw at *
    unfold Builtin.«set.__init__» noKeywords Builtin.Frozenset.updateFrom
    generalize hPI:BX=PI
    wp_walk
    subst hPI
    refine uA UL (af (wpAny_runValue ?_))
    have hlS:l < s.heap.objs.size:=aQ hol
    have hh3:A.in1.in1.in1.handled=none:=by simp [hh]
    have hsz:(s.heap.push (zw w)).objs.size=s.heap.objs.size+1:=yb _ _
    unfold zw at hsz
    have hIn:∀ c,c < s.heap.objs.size->c∉[(s.heap.push { cls:=.type "set",dict:=none,data:=.set #[] 0 (.fresh 0 0 (!Ja w)) }).objs.size]:=fun c hc=>by
     rw [hsz]; simp only [lC]; lia
    refine Vb (B:=(fun c=>c < s.heap.objs.size/\fx c∈items.toList)) (b:=!Ja w) ((Walks.list hh3 _ l (by rw [hsz]; exact bT (C8 hlS)) items).toS) s.heap.objs.size (by rw [hsz]; simp only [gh,gy,or_false,not_or]; exact⟨bT (ur _),Nat.ne_of_gt hlS⟩)
     (fun h=>∀ c o,c < s.heap.objs.size->s.heap.get? c=some o->h.get? c=some o) key mU (by show A.in1.in1.in1.units < cLine; show A.units+1+1+1 < cLine; lia) (fun h ht i v hP=>?h1) (fun h h' ht k c o hc e=>k c o ?h2 (ht c o hc e)) (fun c hc=>hIn c hc.1) (items.size - 0) 0 _ [] [] (by lia) (cJ _) (aM _) (List.Perm.refl _) ⟨⟨_,bx _ rfl,rfl,rfl⟩,UL.push _⟩
     (fun c o hc e=>aN _ (aN _ e)) ?hS0 ?hR
    case h1 =>
     obtain⟨c,e1,e2⟩:=aes i v hP
     obtain⟨o,_,_,eo,_⟩:=id e2
     exact⟨c,e1,L7 e2 fun o e=>ht c o (aQ e) e,aQ eo,by rw [← e1]; exact Array.mem_toList_iff.mpr (Array.mem_of_getElem? hP)⟩
    case h2 =>
     intro z
     rcases List.mem_cons.mp z with z | z
     ·exact absurd z (bT hc)
     ·exact hIn c hc z
    case hS0=>exact SW (aN _ hS)
    case hR =>
     intro s' ks hm hq ht YI
     obtain⟨h',g',d',Xj,os'⟩:=s'
     cases (show g'=s.gens from hm.gens)
     cases (show d'=s.drawn from hm.drawn)
     cases (show os'=s.os from hm.os)
     refine av (show wpAny _ _ (ret eD) _ _ _ from av ⟨rfl,h',Xj,ks,rfl,YI,?_,ht⟩)
     rw [Sx,← List.range_eq_range'] at hq; exact hq
   ·cases abi with
    | error e=>exact QU
    | ok YS =>
     cases YS with
     | ret r =>
      obtain⟨rfl,h',tk,ks,rfl,YI,hq,Sk⟩:=QU
      repeat (any_goals (first | assumption | wp_step))
      exact h _ _ ks YI hq Sk
     | _=>exact QU.elim
  | _=>exact hr.elim
end
end K2.S
end
section
namespace K2
open PySem PySem.Spec PyProof.Rows L2 PySem.W
section
variable {X:Cx} {a:Expr} {ta:Iy} {pos p DM p2:Pos}
theorem Ub:eR "set" = some (.type "set"):=by first | rfl | decide +kernel
noncomputable def tk(k:List Key):D:=.tup (k.map eE)
end
end K2
end
section
namespace K2
open PySem PySem.Spec PyProof.Rows L2
section
variable {X:Cx} {elts:List Expr} {kk:Nat} {JA apos jR:Pos} {o:Expr} {to:gI}
theorem lQ.item{K:aj}{H:Hp}{kv:List (List Key×V)}{kvs:List (D×D)}(h:lQ K H kv kvs):∀ {i:Nat} {q:D×D},kvs[i]?=some q->∃ p,kv[i]?=some p/\q.1=.tup (p.1.map eE)/\cX K H p.2 q.2:=by
 induction h using lQ.ind with
 | nil=>intro i q e; simp at e
 | @cons k v d r t rd rs ih =>
  intro i q e
  cases i with
  | zero=>simp at e; subst e; exact⟨_,rfl,rfl,rd⟩
  | succ i =>
   obtain⟨p,h1,h2⟩:=ih (i:=i) (q:=q) (by simpa using e)
   exact⟨p,by simpa using h1,h2⟩
theorem lQ.len{K:aj}{H:Hp}{kv:List (List Key×V)}{kvs:List (D×D)}(h:lQ K H kv kvs):kv.length=kvs.length:=by
 have:=congrArg dP h.keys
 simpa using this.symm
end
end K2
end
section
namespace K2.S
open PySem PySem.Spec PyProof.Rows L2 PySem.SetTable
namespace F5
theorem slot_next:Slot "set_iterator" "__next__" "set_iterator.__next__" :=
 .of (owner:="set_iterator") (n:="__next__") (by rw [typeLookup_type,builtinLookup_eq_fast]; kernel_rfl) (by decide +kernel) (by decide +kernel) (by decide +kernel) (by first | exact .inl (by decide +kernel) | exact .inr (by decide +kernel)) (by rw [Sr]; kernel_rfl)
theorem entry_next:entryFor table "set_iterator.__next__" = some Builtin.«set_iterator.__next__»:=entryFor_of_tree (by kernel_rfl)
theorem Cc:Slot "set_iterator" "__iter__" "set_iterator.__iter__" :=
 .of (owner:="set_iterator") (n:="__iter__") (by rw [typeLookup_type,builtinLookup_eq_fast]; kernel_rfl) (by decide +kernel) (by decide +kernel) (by decide +kernel) (by first | exact .inl (by decide +kernel) | exact .inr (by decide +kernel)) (by rw [Sr]; kernel_rfl)
theorem KH:entryFor table "set_iterator.__iter__" = some Builtin.«dict_keyiterator.__iter__»:=BY (id':="dict_keyiterator.__iter__") (by kernel_rfl) rfl (by decide +kernel) (by kernel_rfl)
theorem HK:entryFor table "set.__iter__" = some Builtin.«frozenset.__iter__»:=BY (id':="frozenset.__iter__") (by kernel_rfl) rfl (by decide +kernel) (by kernel_rfl)
theorem own:Manifest.owners.lookup (String.ofList ['r','o','t','a','r','e','t','i','_','t','e','s'].reverse)=some Manifest.sig_set_iterator:=by kernel_rfl
theorem args_next (a:Value):argsOk "set_iterator.__next__" ⟨[a],[]⟩:=by
 unfold argsOk; rw [signature?_of (id:="set_iterator.__next__") (n:=['_','_','t','x','e','n','_','_']) (o:=['r','o','t','a','r','e','t','i','_','t','e','s']) (by kernel_rfl) own]; kernel_rfl
theorem Oo (a:Value):argsOk "set_iterator.__iter__" ⟨[a],[]⟩:=by
 unfold argsOk; rw [signature?_of (id:="set_iterator.__iter__") (n:=['_','_','r','e','t','i','_','_']) (o:=['r','o','t','a','r','e','t','i','_','t','e','s']) (by kernel_rfl) own]; kernel_rfl
end F5
noncomputable def JG(pl:Array Nat)(i:Nat):Nat:=if i=0 then 0 else pl.getD (i - 1) 0+1
theorem RN{xs:Array Nat}(up:Up xs){i:Nat}(h:i<=xs.size):below xs (JG xs i)=i:=by
 obtain⟨h1,h2,h3⟩:=p9 up (JG xs i)
 unfold JG at h1 h2 h3 ⊢
 by_cases c:i=0
 ·rw [if_pos c] at h1 h2 h3 ⊢
  apply cj
  intro z
  have:=h2 0 (by lia)
  lia
 ·rw [if_neg c] at h1 h2 h3 ⊢
  apply cj
  intro z
  by_cases q:below xs (xs.getD (i - 1) 0+1) < i
  ·have:=h3 (i - 1) (by lia) (by lia); lia
  ·have a1:=h2 i (by lia)
   have a2:=up (i - 1) i (by lia) (by lia)
   lia
section
variable {prog:ck} {w:World} {A:eF} {E:Value->aA->Prop} {s:aA}
noncomputable abbrev tb(w:World)(mk:Nat)(pl dm:Array Nat)(fg mv:Nat):ik:={ mask:=mk,place:=pl,dummies:=dm,finger:=fg,led:=!Ja w,moves:=mv,plain:=true }
structure Wk(w:World)(o:Obj)(es:En)(ep:Nat)(mk:Nat)(pl dm:Array Nat)(fg mv:Nat):Prop where
 ex:o.ExactSet
 dd:o.data=.set es ep (tb w mk pl dm fg mv)
 fit:(tb w mk pl dm fg mv).fits es.size=true
 sz:pl.size=es.size
 up:Up pl
noncomputable def ord(w:World)(a:Addr)(ep:Nat)(es:En):En:=if Ja w=true then pickOrder (w.params.setOrder a ep) es else es
noncomputable def slt(w:World)(pl:Array Nat)(i:Nat):Nat:=if Ja w=true then 0 else JG pl i
noncomputable abbrev abh (a:Addr) (sl i n ep:Nat):Obj:={ cls:=.type "set_iterator",data:=.fields #[.int sl 0,.int i 0,.ref a,.int n 0,.int ep 0] }
noncomputable def Xd (h:Heap) (it a:Addr) (sl i n ep:Nat):Prop:=∃ o,h.get? it=some o/\o.cls=.type "set_iterator"/\o.data=.fields #[.int sl 0,.int i 0,.ref a,.int n 0,.int ep 0]
theorem Xd.ty {it a:Addr} {sl i n ep:Nat} (x:Xd s.heap it a sl i n ep):s.TypeIs (.ref it) "set_iterator":=by
 obtain⟨o,h,c,_⟩:=x
 exact⟨o,h,c⟩
theorem EG{Q:Bool->aA->Prop}(h:Q (Ja w) s):wpAny (model prog w) A setsByText Q E s:=by
 unfold setsByText
 exact af (MM (av h))
variable {es:En} {mk fg mv:Nat} {pl dm:Array Nat} {a it:Addr} {o:Obj} {ep:Nat}
theorem PN{Q:Value->aA->Prop}(ho:s.heap.get? a=some o)(W:Wk w o es ep mk pl dm fg mv)
  (hQ:Q (.ref s.heap.objs.size) { s with heap:=s.heap.push (abh a 0 0 es.size ep) }):wpAny (model prog w) A (BX (.ref a)) Q E s:=by
 have ty:s.TypeIs (.ref a) "set":=⟨o,ho,W.ex.1⟩
 refine iU ty MN (dg MN ty F5.HK ?_ (PySem.F.args_set_iter_1 _))
 unfold Builtin.«frozenset.__iter__» Builtin.Frozenset.slot0 slotArgs
 simp only [tF,bP,aF,↓reduceIte,bind_assoc,aG,bne_self_eq_false]
 unfold Builtin.Frozenset.addrOf Builtin.Frozenset.sizeOf
 refine af (av ?_)
 try dsimp only
 refine af (av (af (af (C4 ho W.dd W.fit (av ?_)))))
 refine af ?_
 unfold setDrawn
 refine af (oh ho W.dd W.fit ?_)
 dsimp only
 refine af (EG (av ?_))
 split
 ·rename_i z
  exact absurd z (by cases Ja w <;> exact e7)
 ·refine af (av ?_)
  unfold setEpoch
  refine af (af (oh ho W.dd W.fit (av ?_)))
  unfold newFields
  refine af (df (av ⟨_,rfl,"set_iterator",_,⟨_,bx _ rfl,rfl⟩,F5.slot_next.lookup,?_⟩) (by size_fits))
  exact hQ
theorem SS(hb:Ja w=true)(ho:s.heap.get? a=some o)(W:Wk w o es ep mk pl dm fg mv):wpAny (model prog w) A (setWalk a) (fun r s'=>r=pickOrder (w.params.setOrder a ep) es/\s'=s) (fun _ _=>False) s:=by
 unfold setWalk
 refine af (oh ho W.dd W.fit ?_)
 dsimp only
 refine af (EG ?_)
 rw [hb,if_pos rfl]
 exact af (MM (av ⟨rfl,rfl⟩))
theorem Lv{i:Nat}(hi:i<=es.size)(ho:s.heap.get? a=some o)(W:Wk w o es ep mk pl dm fg mv):wpAny (model prog w) A (setNext a (slt w pl i) i ep) (fun r s'=>r=((ord w a ep es)[i]?).map (fun e=>(e.2,slt w pl (i+1)))/\s'=s) (fun _ _=>False) s:=by
 unfold setNext
 refine af (oh ho W.dd W.fit ?_)
 dsimp only
 refine af (EG ?_)
 cases hb:Ja w with
 | true =>
  rw [if_pos rfl,if_neg (by simp)]
  refine af (oj (SS hb ho W) (fun r s' z=>?_) fun _ _ z=>z)
  obtain⟨rfl,rfl⟩:=z
  refine av ⟨?_,rfl⟩
  unfold ord slt
  rw [hb]; rfl
 | false =>
  rw [if_neg (by simp)]
  have sl:slt w pl i=JG pl i:=by unfold slt; rw [hb]; rfl
  have sl1:slt w pl (i+1)=pl.getD i 0+1:=by unfold slt; rw [hb]; rfl
  have bl:EZ pl (JG pl i)=i:=RN W.up (by rw [W.sz]; exact hi)
  split
  ·rename_i z
   exact absurd z e7
  ·refine af (show wpAny (model prog w) A (if (!(!Ja w)&&!es.isEmpty)=true then O3 "set:maker-not-led" else pure ()) _ _ s from ?_)
   rw [if_neg (by rw [hb]; simp)]
   refine av (av ⟨?_,rfl⟩)
   show (match es[EZ pl (slt w pl i)]?,pl[EZ pl (slt w pl i)]? with
    | some (_,x),some j=>some (x,j+1)
    | _,_=>none)=_
   rw [sl,bl,sl1]
   unfold ord
   rw [hb,if_neg (by simp)]
   by_cases c:i < es.size
   ·have hp:i < pl.size:=by rw [W.sz]; exact c
    rw [bz c,bz hp]
    simp [qI,hp]
   ·rw [gR (by lia)]; rfl
theorem SU{i:Nat}{Q:Option Value->aA->Prop}(ki:Xd s.heap it a (slt w pl i) i es.size ep)(ho:s.heap.get? a=some o)(W:Wk w o es ep mk pl dm fg mv)(hi:i<=es.size){e:Int×Value}(he:(ord w a ep es)[i]?=some e)
  (hQ:∀ h',Xd h' it a (slt w pl (i+1)) (i+1) es.size ep->gM it s.heap h'->Q (some e.2) { s with heap:=h' }):wpAny (model prog w) A (qC (.ref it)) Q E s:=by
 obtain⟨oi,W4,hci,TQ⟩:=id ki
 unfold qC
 refine af (qu (fU (name:=nj "__next__") ki.ty F5.slot_next (dg F5.slot_next ki.ty F5.entry_next ?_ (F5.args_next _))))
 unfold Builtin.«set_iterator.__next__» slotArgs
 refine af (av ?_)
 refine af (jE W4 TQ ?_)
 show wpAny _ _ (setEntries a >>= _) _ _ s
 refine af (C4 ho W.dd W.fit ?_)
 rw [if_neg (by simp)]
 show wpAny _ _ (setNext a (Bq (slt w pl i:Int)) (Bq (i:Int)) (Bq (ep:Int)) >>= _) _ _ s
 rw [aX,aX,aX]
 refine af (oj (Lv hi ho W) (fun r s' z=>?_) fun _ _ z=>z.elim)
 obtain⟨rfl,rfl⟩:=z
 rw [he]
 show wpAny _ _ (OB (.ref it) 0 (qg (slt w pl (i+1):Int)) >>= _) _ _ _
 refine af (kR W4 TQ (by simp) ?_)
 have g1:=fD (lH (·.setIfInBounds 0 (qg (slt w pl (i+1):Int)))) W4 (nu (fc TQ _))
 refine af (kR g1 (fc TQ _) (by simp) ?_)
 have g2:=fD (lH (·.setIfInBounds 1 (qg ((i:Int)+1)))) g1 (nu (fc (fc TQ _) _))
 refine av ⟨_,rfl,av (hQ _ ⟨_,g2,?_,?_⟩ ((cR ..).trans (cR ..)))⟩
 ·rw [sA,sA]; exact hci
 ·rw [fc (fc TQ _)]; simp [qg]
theorem Ve{Q:Option Value->aA->Prop}(calm:A.handled=none)(ki:Xd s.heap it a (slt w pl es.size) es.size es.size ep)(ho:s.heap.get? a=some o)(W:Wk w o es ep mk pl dm fg mv)(hl:(ord w a ep es).size=es.size)
  (hQ:∀ h',Heap.ExtBut it s.heap h'->Q none { s with heap:=h' }):wpAny (model prog w) A (qC (.ref it)) Q E s:=by
 obtain⟨oi,W4,hci,TQ⟩:=id ki
 unfold qC
 refine af (qu (fU (name:=nj "__next__") ki.ty F5.slot_next (dg F5.slot_next ki.ty F5.entry_next ?_ (F5.args_next _))))
 unfold Builtin.«set_iterator.__next__» slotArgs
 refine af (av (af (jE W4 TQ ?_)))
 show wpAny _ _ (setEntries a >>= _) _ _ s
 refine af (C4 ho W.dd W.fit ?_)
 rw [if_neg (by simp)]
 show wpAny _ _ (setNext a (Bq (slt w pl es.size:Int)) (Bq (es.size:Int)) (Bq (ep:Int)) >>= _) _ _ s
 rw [aX,aX,aX]
 refine af (oj (Lv (aM _) ho W) (fun r s' z=>?_) fun _ _ z=>z.elim)
 obtain⟨rfl,rfl⟩:=z
 rw [gR (by lia)]
 show wpAny _ _ (OB (.ref it) 2 .none >>= _) _ _ _
 refine af (kR W4 TQ (by simp) ?_)
 show wpAny _ _ (newExc (.type "StopIteration") [] >>= _) _ _ _
 refine af ?_
 simp only [newExc,newTuple]
 refine af (df (af (m:=oB _ _) (C5 (a:=eD) (by first | rfl | (simp only [oB]; rfl)) (df ?_ (by size_fits)))) (by size_fits))
 unfold raiseNew
 refine af (wpAny_handled ?_)
 rw [show A.in1.handled=none from calm]
 refine af (av (wpAny_throw ?_))
 refine af (o4 (T:="StopIteration") (b:=true) ⟨_,bx _ rfl,rfl⟩ Ss (?_))
 exact av (hQ _ (((cR ..).extBut.push _).push _))
theorem Ra{α:Type}:∀ (l:List α) (i:Nat) (h:i < l.length),(l[i] :: l.eraseIdx i).Perm l
 | x :: r,0,_=>.refl _
 | x :: r,i+1,h=>by
  rw [Pe,List.eraseIdx_cons_succ]
  exact(List.Perm.swap _ _ _).trans (.cons _ (Ra r i (by simpa using h)))
theorem Co{α:Type}(next:Nat->Nat):∀ (f k:Nat) (l:List α) (out:Array α),l.length<=f->(pickOrder.go next f k l out).toList.Perm (out.toList++l)
 | 0,k,l,out,h=>by
  have:l=[]:=List.length_eq_zero_iff.mp (by lia)
  subst this
  rw [cc]; exact .refl _
 | f+1,k,l,out,h=>by
  unfold pickOrder.go
  cases l with
  | nil=>simp
  | cons x r =>
   have hi:next k % (x :: r).length < (x :: r).length:=jX _ (by simp)
   rw [ag hi]
   dsimp only
   refine(Co next f (k+1) _ _ (by rw [List.length_eraseIdx_of_lt hi]; simp at h ⊢; lia)).trans ?_
   rw [Array.toList_push,cH]
   exact .append_left _ (Ra _ _ hi)
theorem Ge(w:World)(a:Addr)(ep:Nat)(es:En):(ord w a ep es).toList.Perm es.toList:=by
 unfold ord
 split
 ·unfold pickOrder
  have:=Co (w.params.setOrder a ep) es.size 0 es.toList #[] (by simp)
  simpa using this
 ·exact .refl _
theorem oN(w:World)(a:Addr)(ep:Nat)(es:En):(ord w a ep es).size=es.size:=by have:=(Ge w a ep es).length_eq; simpa using this
theorem PM(hh:A.handled=none)(kD:a≠it)(W:Wk w o es ep mk pl dm fg mv) :
  Sv prog w A it [it,a] [it] es.size (fun i v=>∃ e,(ord w a ep es)[i]?=some e/\v=e.2) (fun i h=>Xd h it a (slt w pl i) i es.size ep/\h.get? a=some o) where
 sub:=fun c hc=>by simp at hc; simp [hc]
 frame:=fun i h h' st hk=>⟨let ⟨o,e,r⟩:=st.1; ⟨o,hk it (by simp) o e,r⟩,hk a (by simp) o st.2⟩
 item:=fun i s Q E hi st hQ=>by
  have Az:i < (ord w a ep es).size:=by rw [oN]; exact hi
  have he:(ord w a ep es)[i]?=some (ord w a ep es)[i]:=bz Az
  exact SU st.1 st.2 W (E6 hi) he fun h' B8 sb=>hQ _ h' s.toks ⟨_,he,rfl⟩ ⟨B8,(sb.2 a kD).trans st.2⟩ fun c o hc e=>(sb.2 c (by simpa using hc)).trans e
 done:=fun s Q E st hQ=>Ve hh st.1 st.2 W (oN ..) fun h' eb=>hQ h' s.toks fun c o hc e=>eb c o (by simpa using hc) e
 self:=fun i s Q E st hQ=>by
  refine iU st.1.ty F5.Cc (dg F5.Cc st.1.ty F5.KH ?_ (F5.Oo _))
  show wpAny _ _ (ret (.ref it)) _ _ s
  exact av ⟨_,rfl,"set_iterator",_,st.1.ty,F5.slot_next.lookup,hQ⟩
theorem SV {r:Addr} {Q:Bool->aA->Prop} (hT:s.TypeIs (.ref r) "set") (h:Q false s):wpAny (model prog w) A (yz (.ref r)) Q E s:=by
 unfold yz
 refine af (yV hT PySem.F.slot_set_len.lookup ?_)
 generalize OR:("set.__len__" : String)=id0
 wp_delta
 rw [show splitId id0=some ("set","__len__") from by subst OR; decide +kernel]
 subst OR
 refine af (o4 (T:="set") (b:=true) hT (by rw [Sr]; kernel_rfl) (wpAny_ite_split (fun YF=>absurd YF (by decide)) fun _=>?_))
 exact wpAny_ite_split (fun _=>af (Lc hT (av h))) fun YF=>absurd (by decide +kernel) YF
theorem Vd(W:Wk w o es ep mk pl dm fg mv) :
  v9 prog w "set" a a es.size (fun i v=>∃ e,(ord w a ep es)[i]?=some e/\v=e.2) (fun h=>h.get? a=some o) where
 type:=fun s cT=>⟨o,cT,W.ex.1⟩
 there:=fun h cT=>⟨aQ cT,aQ cT⟩
 keep:=fun h h' cT hk=>hk a (.inl rfl) o cT
 notList:=by decide
 notTuple:=by decide
 hint:=fun A E s Q cT hq=>SV ⟨o,cT,W.ex.1⟩ hq
 iter:=fun A s hh cT=>⟨_,_,(fun E Q hq=>PN cT W hq),PM hh (bT (aQ cT)) W,⟨⟨_,bx _ rfl,rfl,by unfold slt JG; simp⟩,aN _ cT⟩⟩
end
end K2.S
end
section
namespace K2
open PySem PySem.Spec PyProof.Rows L2 PySem.W
section
variable {X:Cx} {a:Expr} {ta:Iy} {pos p DM p2:Pos}
noncomputable def Du(t:T2):List Key:=[.inl t.a,.inl t.b]
theorem Dt{x y:T2}(h:Du x=Du y):x=y:=by
 cases x; cases y
 unfold Du at h
 injection h with h1 h2
 injection h2 with h2 _
 cases h1; cases h2; rfl
theorem VO(l:List T2):l.map (Enc.enc:T2->D)=(l.map Du).map tk:=by rw [bV]; rfl
theorem Rx:∀ (l acc:List (List Key)),acc.Nodup->(l.foldl S.oF acc).Nodup/\∀ k,k∈l.foldl S.oF acc↔k∈acc\/k∈l
 | [],acc,h=>⟨h,fun k=>⟨.inl,fun z=>z.elim id fun q=>by cases q⟩⟩
 | x :: l,acc,h=>by
  rw [dQ]
  have hs:(S.oF acc x).Nodup/\∀ k,k∈S.oF acc x↔k∈acc\/k=x:=by
   unfold S.oF
   by_cases c:S.Q7 acc x=true
   ·rw [if_pos c]
    exact⟨h,fun k=>⟨.inl,fun z=>z.elim id fun e=>e ▸ S.vI.mp c⟩⟩
   ·rw [if_neg c]
    refine⟨?_,fun k=>by rw [IQ,lC]⟩
    rw [cm]
    refine⟨h,by simp,fun u hu v hv e=>?_⟩
    rw [List.mem_singleton.mp hv] at e
    subst e
    exact c (S.vI.mpr hu)
  obtain⟨h1,h2⟩:=Rx l _ hs.1
  refine⟨h1,fun k=>(h2 k).trans ?_⟩
  rw [hs.2,gh,or_assoc]
theorem UH:∀ (ks:List (List Key)),(∀ k∈ks,∃ t,k=Du t)->∃ m:List T2,ks=m.map Du
 | [],_=>⟨[],rfl⟩
 | k :: ks,h=>by
  obtain⟨t,rfl⟩:=h k ay
  obtain⟨m,rfl⟩:=UH ks fun x hx=>h x (ao _ hx)
  exact⟨t :: m,rfl⟩
theorem DF{K:aj}{H:Hp}:∀ (vs:List V) (zs:List D),vs.length=zs.length->(∀ (i:Nat) (v:V) (z:D),vs[i]?=some v->zs[i]?=some z->cX K H v z)->bF K H vs zs
 | [],[],_,_=>.nil
 | [],_ :: _,h,_=>by cases h
 | _ :: _,[],h,_=>by cases h
 | v :: vs,z :: zs,h,hr=>.cons (hr 0 v z rfl rfl) (DF vs zs (by simpa using h) fun i u y h1 h2=>hr (i+1) u y h1 h2)
noncomputable def vOf(v:Value):V:=match v with
 | .ref b=>.ref b
 | _=>.du
theorem qY (hc:X.calm=true) (hu:X.A.units+64 < cLine) (hg:Gl X "sorted") (hm:X.mg "sorted" = none) (hg2:Gl X "set") (Ys:X.mg "set" = none) (ha:K3 X [a] ta) (hs:autoParam (cB [a] X.env=(false,eval a X.env) :: cB [] X.env) Ar._auto_1)
  (BJ:autoParam (cB [.Call (.Name "set" p2) [a] [] DM] X.env=(false,eval (.Call (.Name "set" p2) [a] [] DM) X.env) :: cB [] X.env) Ar._auto_1) (Kr:autoParam ((kS pos (cB [] X.env)).any (·.1)=false) Ar._auto_1) (aey:autoParam ((kS DM (cB [] X.env)).any (·.1)=false) Ar._auto_1) :
  gW X (.Call (.Name "sorted" p) [.Call (.Name "set" p2) [a] [] DM] [] pos) (mD su ta):=by
 intro E pins s σ H τ G Q hE I h
 refine ij (om I.inv hg hm CW (kK ?_ BJ Kr))
 rw [BJ]
 show wpAny _ _ (O4 ((false,eval (.Call (.Name "set" p2) [a] [] DM) X.env) :: kS pos (cB [] X.env))) _ _ s
 refine kT (ij (om I.inv hg2 Ys Ub (fu (Ds ha DM hE I h fun vs H1 ds G1 us s1 I1 m1 r1 jV q1=>?_) hs aey)))
 unfold su at q1
 split at q1
 ·rename_i x
  obtain⟨tl,hlo,⟨aex,hlen⟩,q⟩:=q1
  obtain⟨w1,rfl,DC⟩:=jV.one
  obtain⟨u,rfl,ru⟩:=r1.one
  obtain⟨l,vs,bM,rfl,rv,rs,hL,hz⟩:=kJ I1.inv I1.ab ru DC hlo
  rw [VO] at rs
  have kll:(tl.map Du).length=tl.length:=ah _
  have klt:∀ k∈tl.map Du,∃ t∈tl,k=Du t:=fun k hk=>by obtain⟨t,ht,e⟩:=List.mem_map.mp hk; exact⟨t,ht,e.symm⟩
  have V0:∀ t,Du t∈tl.map Du↔t∈tl:=fun t=>⟨fun h=>by obtain⟨t',h1,e⟩:=List.mem_map.mp h; rw [← Dt e]; exact h1,aW⟩
  generalize tl.map Du=kl at rs kll klt V0
  have li:bM.length=kl.length:=by rw [← rv.length,rs.length,ah]
  have at_:∀ (i:Nat) (v:Value),bM.toArray[i]?=some v->∃ c,v=.ref c/\(S.TK X.prog X.w).is s1.heap (kl.getD i []) c:=fun i v hv=>by
   have hv:bM[i]?=some v:=by rw [RY] at hv; exact hv
   have hi:i < kl.length:=by have:=(List.getElem?_eq_some_iff.mp hv).1; lia
   have hd:(kl.map tk)[i]?=some (tk (kl.getD i [])):=by rw [bA,az,ag hi]; rfl
   obtain⟨vv,h1,h2⟩:=rs.get hd
   obtain⟨uu,h3,h4⟩:=rv.get h1
   rw [hv] at h3
   cases h3
   obtain⟨c,rfl,hb⟩:=uZ h2
   cases h4
   exact⟨c,rfl,tT I1.inv.cT hb⟩
  refine S.Vc (I1.inv.ok.hd hc) hu hL (fun i=>kl.getD i []) (by rw [aZ,li]; lia) at_ fun h' Xj ks S' hp kp=>?_
  rw [(show kS pos (cB [] X.env)=[] from rfl)]
  refine av ?_
  obtain⟨o,es,ep,t,ho,hex,hd,O,tf,hld,QX,M⟩:=S'
  have hp:ks.Perm (kl.foldl S.oF []):=by
   rw [aZ,li,mM] at hp; exact hp
  obtain⟨dn,dm⟩:=Rx kl [] dh
  have VZ:∀ k,k∈ks↔k∈kl:=fun k=>(hp.mem_iff.trans (dm k)).trans ⟨fun z=>z.elim (fun q=>by cases q) id,.inr⟩
  have pn:t.plain=true:=QX fun k hk=>by
   obtain⟨y,_,rfl⟩:=klt k ((VZ k).mp hk)
   intro x hx
   rcases List.mem_cons.mp hx with e | hx
   ·exact⟨_,e⟩
   ·exact⟨_,List.mem_singleton.mp hx⟩
  have Yy:t.fits es.size=true:=by unfold SetTable.fits II; rw [O.sz,O.dm]; have:=O.mU; have:=O.sz; simp; lia
  obtain⟨mk,pl,dmm,fg,ld,mv,pln⟩:=t
  have e1:ld=!S.Ja X.w:=hld
  have e2:pln=true:=pn
  subst e1 e2
  have W:S.Wk X.w o es ep mk pl dmm fg mv:=⟨hex,hd,Yy,O.sz,O.up⟩
  obtain⟨X5,M2,pk2⟩:=M.perm (es':=S.ord X.w s1.heap.objs.size ep es) (S.Ge ..)
  obtain⟨m,rfl⟩:=UH X5 fun k hk=>by
   obtain⟨y,_,e⟩:=klt k ((VZ k).mp (pk2.mem_iff.mp hk))
   exact⟨y,e⟩
  have nd2:(m.map Du).Nodup:=pk2.nodup_iff.mpr (hp.nodup_iff.mpr dn)
  have nd:m.Nodup:=by
   rw [jY,iB] at nd2
   exact List.nodup_iff_pairwise_ne.mpr (nd2.imp fun {x y} h e=>h (by rw [e]))
  have mm:∀ y,y∈m↔y∈tl:=fun y=>by
   rw [← V0 y,← VZ,← pk2.mem_iff]
   exact⟨aW,fun h=>by obtain⟨z,hz,e⟩:=List.mem_map.mp h; rw [← Dt e]; exact hz⟩
  have X6:∀ b u,s1.heap.get? b=some u->h'.get? b=some u:=fun b u e=>kp b u (aQ e) e
  have I3:=I1.inv.kept (t':=Xj) X6
  have I4:=I1.mv I3 (.refl I1.ab)
  have ml:m.length=es.size:=by have:=M2.1; rw [ah,S.oN] at this; exact this
  have at2:∀ (i:Nat) (e:Int×Value) (y:T2),(S.ord X.w s1.heap.objs.size ep es)[i]?=some e->m[i]?=some y->∃ b,e.2=.ref b/\cX X.K H1 (.ref b) (Enc.enc y):=fun i e y he hy=>by
   obtain⟨k,b,q1,q2,q3,_,_,q5⟩:=M2.2 i e he
   have ek:k=Du y:=by
    rw [bA,hy] at q1
    exact(bR q1).symm
   subst ek
   refine⟨b,q2,?_⟩
   obtain⟨j,hj,ej⟩:=da q5
   have hj:j < bM.length:=hj
   have hj1:bM[j]?=some (.ref b):=by rw [ag hj]; exact congrArg some ej
   have Wa:j < kl.length:=by lia
   have hdj:(kl.map tk)[j]?=some (tk (kl.getD j [])):=by rw [bA,az,ag Wa]; rfl
   obtain⟨vv,h1,h2⟩:=rs.get hdj
   obtain⟨uu,h3,h4⟩:=rv.get h1
   rw [hj1] at h3
   cases h3
   obtain⟨c,rfl,hb⟩:=uZ h2
   cases h4
   have i1:=S.L7 (tT I1.inv.cT hb) fun o e=>X6 _ o e
   rw [S.Kl i1 q3] at h2
   exact h2
  refine oj (JJ hc hu I4.inv I4.ab (S.Vd W) ho (vs:=(S.ord X.w s1.heap.objs.size ep es).toList.map fun e=>vOf e.2) (zs:=m.map Enc.enc) (by rw [ah,bJ,S.oN]) (fun i u hi hP=>?_) (DF _ _ ?_ fun i v z hv W2=>?_) (cA.xp T2) (fun z W2=>?_) (by decide) ?_ ?_) (fun r s' ⟨v,H2,d,G2,I2,m2,r2,yA,q2⟩=>⟨v,H2,d,G2,I2,m1.trans m2,r2,yA,q2⟩) fun _ _ z=>z
  ·obtain⟨e,he,rfl⟩:=hP
   have NX:i < m.length:=by rw [ah,bJ,S.oN] at hi; lia
   obtain⟨b,e1,_⟩:=at2 i e m[i] he (ag NX)
   have:(S.ord X.w s1.heap.objs.size ep es).toList[i]'(by rw [ah] at hi; exact hi)=e:=by
    rw [← cP] at he
    exact(List.getElem?_eq_some_iff.mp he).2
   rw [dJ,this,e1]
   rfl
  ·rw [ah,ah,bJ,S.oN,ml]
  ·rw [bA] at hv W2
   obtain⟨e,he,rfl⟩:=Option.map_eq_some_iff.mp hv
   obtain⟨y,hy,rfl⟩:=Option.map_eq_some_iff.mp W2
   rw [cP] at he
   obtain⟨b,e1,e2⟩:=at2 i e y he hy
   rw [e1]
   exact e2
  ·obtain⟨y,_,rfl⟩:=List.mem_map.mp W2
   exact cA.Ku y
  ·rw [ah]
   exact qx (List.Nodup.length_le_of_subset nd fun y hy=>(mm y).mp hy) hlen
  ·rw [Ca]
   exact q m nd mm
 ·exact q1.elim
end
end K2
end
section
namespace L2
open PySem PySem.Spec PyProof.Rows
section
variable {prog:ck} {w:World} {A:eF} {E:Value->aA->Prop} {s:aA}
theorem BD (d:Addr) (ns:(d == e6)=false):MeetsIn prog w (Builtin.«dict.values» ⟨[.ref d],[]⟩) (fun _ R s=>s.TypeIs (.ref d) "dict"/\R (.ok (.ret (.ref s.heap.objs.size))) { s with heap:=s.heap.push { cls:=.type "dict_values",data:=.fields #[.ref d] } }):=by
 refine .of_wp ?_
 rintro A R s ⟨ty,h⟩
 refine af (m:=IY _ _) ?_
 unfold IY
 refine af (yW ty (show wpAny _ _ (pure d) _ _ s from av ?_))
 show wpAny _ _ (iS d >>= _) _ _ s
 unfold iS
 rw [if_neg (fun z=>by rw [ns] at z; cases z)]
 exact af (av (af (df (av ⟨_,rfl,h⟩))))
variable {v d it:Addr} {od:Obj} {es:Array ip} {ep i:Nat}
theorem Jw{Q:Value->aA->Prop}(hv:s.heap.IsValuesView v d)(xM:s.heap.get? d=some od)(dd:od.data=.dict es ep)
  (hQ:Q (.ref s.heap.objs.size) { s with heap:=s.heap.push { cls:=.type "dict_valueiterator",data:=.fields #[.ref d,.int 0 0,.int es.size 0,.int ep 0] } }):wpAny (model prog w) A (BX (.ref v)) Q E s:=by
 obtain⟨ov,hov,hcv,hdv⟩:=id hv
 refine iU hv.typeIs SE (dg SE hv.typeIs F.entry_dict_values_iter ?_ (F.args_dict_values_iter_1 _))
 unfold Builtin.«dict_values.__iter__» Builtin.Dict_items.dictOf
 refine af (av (af (af (O0 hov hdv (x:=.ref d) rfl (av (af ?_))))))
 unfold Builtin.Dict_items.newIterator
 refine af (eZ xM dd (af (iV xM dd ?_)))
 have Qk:fX "dict_valueiterator" = false:=by decide
 simp only [Qk,aF,if_false]
 exact df (av ⟨_,rfl,"dict_valueiterator",_,⟨_,bx _ rfl,rfl⟩,F.slot_dict_valueiterator_next.lookup,by simpa [qg] using hQ⟩)
theorem MR{Q:Option Value->aA->Prop}(hit:s.heap.IsValIter it d i es.size ep)(xM:s.heap.get? d=some od)(dd:od.data=.dict es ep)(hi:i < es.size)
  (hQ:∀ h',h'.IsValIter it d (i+1) es.size ep->gM it s.heap h'->Q (some es[i].val) { s with heap:=h' }):wpAny (model prog w) A (qC (.ref it)) Q E s:=by
 obtain⟨o,ho,hc,hd⟩:=id hit
 have ty:=hit.typeIs
 unfold qC
 refine af (qu (fU (name:=nj "__next__") ty i8 (dg i8 ty Fo ?_ (Fd _))))
 refine af (av (af (af ?_)))
 first | refine af (ju ty (av (af (jE ho hd ?_)))) | refine af (lR ty (av (af (jE ho hd ?_))))
 have Qk:fX "dict_valueiterator" = false:=by decide
 rw [Qk]
 show wpAny _ _ (if (fx d == eD)=true then _ else _) _ _ s
 rw [if_neg (fun z=>by cases z)]
 refine af (av (af (eZ xM dd ?_)))
 rw [if_neg (by simp)]
 refine af (av (af (iV xM dd ?_)))
 rw [if_neg (by simp)]
 refine av ?_
 dsimp only
 rw [if_neg (show ¬ ((i:Int) < 0) from Int.not_lt.mpr (jr i)),aX,bz hi]
 dsimp only
 refine af ?_
 first | refine af (ju ty (av (af (oE ty ?_)))) | refine af (lR ty (av (af (oE ty ?_))))
 show wpAny _ _ (OB (.ref it) 1 (qg ((i:Int)+1)) >>= _) _ _ s
 refine af (kR ho hd (by simp) ?_)
 have st:(s.heap.update it (lH (·.setIfInBounds 1 (qg ((i:Int)+1))))).IsValIter it d (i+1) es.size ep:=⟨_,fD _ ho (nu (fc hd _)),(sA ..).trans hc,by rw [fc hd]; simp [qg]⟩
 have sb:gM it s.heap (s.heap.update it (lH (·.setIfInBounds 1 (qg ((i:Int)+1))))):=cR ..
 generalize s.heap.update it (lH (·.setIfInBounds 1 (qg ((i:Int)+1))))=h1 at st sb
 have ty1:Shared.TypeIs { s with heap:=h1 } (.ref it) "dict_valueiterator":=st.typeIs (s:={ s with heap:=h1 })
 refine af (fF (af (oE ty1 (af (oE ty1 ?_)))))
 show wpAny _ _ (pure es[i].val) _ _ _
 exact av (av ⟨_,rfl,av (hQ _ st sb)⟩)
theorem Px{Q:Option Value->aA->Prop}(calm:A.handled=none)(hit:s.heap.IsValIter it d i es.size ep)(xM:s.heap.get? d=some od)(dd:od.data=.dict es ep)(hi:es.size<=i)
  (hQ:∀ h',Heap.ExtBut it s.heap h'->Q none { s with heap:=h' }):wpAny (model prog w) A (qC (.ref it)) Q E s:=by
 obtain⟨o,ho,hc,hd⟩:=id hit
 have ty:=hit.typeIs
 unfold qC
 refine af (qu (fU (name:=nj "__next__") ty i8 (dg i8 ty Fo ?_ (Fd _))))
 refine af (av (af (af ?_)))
 first | refine af (ju ty (av (af (jE ho hd ?_)))) | refine af (lR ty (av (af (jE ho hd ?_))))
 have Qk:fX "dict_valueiterator" = false:=by decide
 rw [Qk]
 show wpAny _ _ (if (fx d == eD)=true then _ else _) _ _ s
 rw [if_neg (fun z=>by cases z)]
 refine af (av (af (eZ xM dd ?_)))
 rw [if_neg (by simp)]
 refine af (av (af (iV xM dd ?_)))
 rw [if_neg (by simp)]
 refine av ?_
 dsimp only
 rw [if_neg (show ¬ ((i:Int) < 0) from Int.not_lt.mpr (jr i)),aX,gR hi]
 dsimp only
 refine af ?_
 first | refine af (ju ty (av (?_))) | refine af (lR ty (av (?_)))
 show wpAny _ _ (OB (.ref it) 0 .none >>= _) _ _ s
 refine af (kR ho hd (by simp) (show wpAny _ _ (newExc (.type "StopIteration") [] >>= _) _ _ _ from af ?_))
 simp only [newExc,newTuple]
 refine af (df (af (m:=oB _ _) (C5 (a:=eD) (by first | rfl | (simp only [oB]; rfl)) (df ?_ (by size_fits)))) (by size_fits))
 simp only [raiseNew]
 refine af (wpAny_handled ?_)
 rw [show A.in1.handled=none from calm]
 refine af (av (wpAny_throw ?_))
 refine af (o4 (T:="StopIteration") (b:=true) ⟨_,bx _ rfl,rfl⟩ Ss (?_))
 exact av (hQ _ (((cR ..).extBut.push _).push _))
theorem Oc:entryFor table "dict_valueiterator.__iter__" = some Builtin.«dict_keyiterator.__iter__»:=BY (id':="dict_keyiterator.__iter__") (by kernel_rfl) rfl (by decide +kernel) (by kernel_rfl)
theorem Js(hh:A.handled=none)(kD:d≠it)(dd:od.data=.dict es ep) :
  Sv prog w A it [it,d] [it] es.size (fun i v=>∃ h:i < es.size,v=es[i].val) (fun i h=>h.IsValIter it d i es.size ep/\h.get? d=some od) where
 sub:=fun b hb=>by simp at hb; simp [hb]
 frame:=fun i h h' st hk=>⟨let ⟨o,e,r⟩:=st.1; ⟨o,hk it (by simp) o e,r⟩,hk d (by simp) od st.2⟩
 item:=fun i s Q E hi st hQ=>MR st.1 st.2 dd hi fun h' B8 sb=>hQ _ h' s.toks ⟨hi,rfl⟩ ⟨B8,(sb.2 d kD).trans st.2⟩ fun b o hb e=>(sb.2 b (by simpa using hb)).trans e
 done:=fun s Q E st hQ=>Px hh st.1 st.2 dd (aM _) fun h' eb=>hQ h' s.toks fun b o hb e=>eb b o (by simpa using hb) e
 self:=fun i s Q E st hQ=>by
  refine iU st.1.typeIs IV (dg IV st.1.typeIs Oc ?_ (F.args_dict_valueiterator_iter_1 _))
  show wpAny _ _ (ret (.ref it)) _ _ s
  exact av ⟨_,rfl,"dict_valueiterator",_,st.1.typeIs,F.slot_dict_valueiterator_next.lookup,hQ⟩
theorem PO (dd:od.data=.dict es ep):v9 prog w "dict_values" v d es.size (fun i v=>∃ h:i < es.size,v=es[i].val) (fun h=>h.IsValuesView v d/\h.get? d=some od) where
 type:=fun s cT=>cT.1.typeIs
 there:=fun h cT=>⟨let ⟨_,ho,_⟩:=cT.1; aQ ho,aQ cT.2⟩
 keep:=fun h h' cT hk=>⟨let ⟨o,ho,x⟩:=cT.1; ⟨o,hk v (.inl rfl) o ho,x⟩,hk d (.inr rfl) od cT.2⟩
 notList:=by decide
 notTuple:=by decide
 hint:=fun A E s Q cT hq=>PySem.W.kdl_hint_values cT.1.typeIs hq
 iter:=fun A s hh cT=>⟨_,_,(fun E Q hq=>Jw cT.1 cT.2 dd hq),Js hh (bT (aQ cT.2)) dd,⟨⟨_,bx _ rfl,rfl,rfl⟩,aN _ cT.2⟩⟩
end
end L2
namespace K2
open PySem PySem.Spec PyProof.Rows L2 PySem.W
section
variable {X:Cx} {o:Expr} {to:gI} {apos jR pos p:Pos}
theorem Xv{pins:List (Addr×Obj)}{σ:L2.St}{H:Hp}{s:aA}{x:V}{l:List (T2×T2)}(I:Inv X pins σ H s)(r:cX X.K H x (.kg (bO l))) :
  ∃ (a:Addr) (od:Obj) (es:Array ip) (ep:Nat) (ks vs:List V),x=.ref a/\(a == e6)=false/\s.heap.get? a=some od/\od.ExactDict/\od.data=.dict es ep/\l.length=es.size /\
   bF X.K H ks (l.map fun q=>Enc.enc q.1)/\bF X.K H vs (l.map fun q=>Enc.enc q.2)/\∀ i (h:i < es.size),∃ k v,ks[i]?=some k/\vs[i]?=some v/\RelV k es[i].key/\RelV v es[i].val:=by
 have k1:(bO l).map (·.1)=l.map fun q=>Enc.enc q.1:=by unfold bO; rw [bV]; rfl
 have k2:(bO l).map (·.2)=l.map fun q=>Enc.enc q.2:=by unfold bO; rw [bV]; rfl
 have k3:(bO l).length=l.length:=by unfold bO; rw [ah]
 have k4:∀ q∈bO l,lJ q.1=true:=fun q hq=>by unfold bO at hq; obtain⟨y,_,rfl⟩:=List.mem_map.mp hq; rfl
 rw [← k1,← k2,← k3]
 generalize bO l=kvs at r k4
 cases r with
 | oK hq rs =>
  rename_i a o kv
  cases rs with
  | nil =>
   obtain⟨z,ns,vs,rel,ob,es,ep,ho,ex,dd,hko,hp,nd⟩:=(I.cT a _ hq).2
   have l1:es.size=vs.length:=by simpa using hp.length
   have l2:([]:List (Key×V)).length=vs.length:=gG rel
   have l3:es.size=0:=by rw [l1,← l2]; rfl
   exact⟨a,ob,es,ep,[],[],rfl,ns,ho,ex,dd,by rw [l3]; rfl,.nil,.nil,fun i h=>by lia⟩
  | @cons j _ _ _ _ _ _ =>
   have:=k4 _ ay
   cases j <;> simp [eE,lJ] at this
 | oJ hq rs =>
  rename_i a o kv
  obtain⟨z,ns,xs,rel,ob,es,ep,ho,ex,dd,hl,nd⟩:=(I.cT a _ hq).2
  have l1:=congrArg dP hl
  rw [ah,bJ] at l1
  have l2:kv.length=xs.length:=gG rel
  have l3:=rs.len
  refine⟨a,ob,es,ep,xs.map fun q=>V.ref q.2.1,kv.map (·.2),rfl,ns,ho,ex,dd,by lia,?_,?_,fun i hi=>?_⟩
  ·rw [rs.keys]
   have:∀ (kv:List (List Key×V)) (xs:List (List Key×Addr×Value)),KT H kv xs->bF X.K H (xs.map fun q=>V.ref q.2.1) (kv.map fun p=>D.tup (p.1.map eE)):=by
    intro kv xs r
    induction r with
    | nil=>exact .nil
    | cons h _ ih=>exact .cons (.tup h.2.1 (rZ _)) ih
   exact this kv xs rel
  ·refine DF _ _ (by rw [ah,ah,l3]) fun i v z hv hz=>?_
   rw [bA] at hv hz
   obtain⟨q,Sh,rfl⟩:=Option.map_eq_some_iff.mp hz
   obtain⟨p,hp1,_,rp⟩:=rs.item Sh
   rw [hp1] at hv
   cases hv
   exact rp
  ·have i2:i < xs.length:=by lia
   have i3:i < kv.length:=by lia
   have ee:es[i]=Bf (d8 (cy X.prog X.w)) xs[i]:=by
    have:=congrArg (fun l=>l[i]?) hl
    simp only [bA,ag i2] at this
    simpa [hi] using this
   refine⟨_,_,by rw [bA,ag i2]; rfl,by rw [bA,ag i3]; rfl,?_⟩
   rw [ee]
   exact⟨rfl,(wI rel i i3 i2).2.2⟩
theorem RJ:eR "list" = some (.type "list"):=by first | rfl | decide +kernel
theorem Np (hc:X.calm=true) (hg:Gl X "list") (hm:X.mg "list" = none) (ho:gW X o to) (Hr:autoParam (wx o "values" X.env (eval o X.env)=eval o X.env) Ar._auto_1) (Hn:autoParam ((apos.endLine == jR.line)=true) Ar._auto_1)
  (hs:autoParam (cB [.Call (.Attribute o "values" apos) [] [] jR] X.env=(false,eval (.Call (.Attribute o "values" apos) [] [] jR) X.env) :: cB [] X.env) Ar._auto_1) (Kr:autoParam ((kS pos (cB [] X.env)).any (·.1)=false) Ar._auto_1) :
  gW X (.Call (.Name "list" p) [.Call (.Attribute o "values" apos) [] [] jR] [] pos) (KL to):=by
 intro E pins s σ H τ G Q hE I h
 refine ij (om I.inv hg hm RJ (fu ?_ hs Kr))
 rw [hs]
 show wpAny _ _ (O4 ((false,eval (.Call (.Attribute o "values" apos) [] [] jR) X.env) :: kS pos (cB [] X.env))) _ _ s
 refine kT ?_
 refine wpAny_Call_method0_late Hr Hn (kn ho hE I h fun x H1 d G1 v s1 I1 m1 r1 jV q1=>?_)
 obtain⟨l,rfl,hn,q⟩:=q1
 obtain⟨t1,t2⟩:=zi pins s1 σ H1 G1 x _ v I1.inv I1.ab r1 jV trivial
 obtain⟨a,od,es,ep,ks,vs,rfl,ns,xM,ex,dd,hl,rk,rv,TU⟩:=Xv I1.inv jV
 cases r1
 refine⟨"dict","dict.values",qF,IJ,PySem.F.type_dict_values,t1,t2,tH rfl (Su ?_)⟩
 refine call_meetsIn IJ t1 PySem.F.entry_dict_values (PySem.F.args_dict_values_1 _) (BD a ns) ⟨t1,?_⟩
 have I2:Inv X pins σ H1 { s1 with heap:=s1.heap.push { cls:=.type "dict_values",data:=.fields #[.ref a] } }:=I1.inv.kept (t':=s1.toks) fun b o e=>aN _ e
 rw [(show kS pos (cB [] X.env)=[] from rfl)]
 refine av ?_
 have vl:=rv.length
 rw [ah] at vl
 refine oj (Ab (T:="dict_values") hc I2 I1.ab (PO dd) ⟨⟨_,bx _ rfl,rfl,rfl⟩,aN _ xM⟩ (vs:=vs) (zs:=l.map fun q=>Enc.enc q.2) (by lia) (fun i u hi hP=>?_) rv (by lia) q) (fun r s' ⟨v,H2,d,G2,I2,m2,r2,yA,q2⟩=>⟨v,H2,d,G2,I2,m1.trans m2,r2,yA,q2⟩) fun _ _ z=>z
 obtain⟨NX,rfl⟩:=hP
 obtain⟨k,v,_,h2,_,h4⟩:=TU i NX
 rw [ag hi] at h2
 cases h2
 exact h4
end
end K2
end
section
namespace L2
open PySem PySem.Spec PyProof.Rows
section
variable {prog:ck} {w:World} {A:eF} {E:Value->aA->Prop} {s:aA}
noncomputable abbrev TN(prog:ck)(w:World)(k:List Key):Int:=(d8 (cy prog w)).hash k
theorem PT{d a:Addr}{xs:List (List Key×Addr×Value)}{k:List Key}{v:Value}{Q:Unit->aA->Prop}(hu:A.units < cLine)(Yt:(d8 (cy prog w)).is s.heap k a)(hm:s.heap.DictOfH (d8 (cy prog w)) d xs)(new:k∉xs.map (·.1))(hz:xs.length<=bG)
  (hQ:∀ h',h'.DictOfH (d8 (cy prog w)) d (xs++[(k,a,v)])->gM d s.heap h'->Q () { s with heap:=h' }):wpAny (model prog w) A (Fl d (.ref a) (TN prog w k) v) Q E s:=by
 obtain⟨o,es,ep,ho,hc,hd,he,his,hn⟩:=hm
 have e0:=O5 he
 unfold Fl
 try with_reducible refine fF ?_
 refine af (wpAny_dictFind_heap hu Yt ho hd he his hn (fun TL=>?_) fun j p hj=>absurd (aW (di hj)) new)
 refine af (wpAny_rule (wpAny_updateDictKeys (hz:=by lia) ho hd (hQ _ ⟨_,_,ep+1,fD _ ho (Obj.isFreed_of_dict (oC hd _)),hc.mapDictKeys _,oC hd _,by simp [he,Bf,TN],fun x hx=>?_,?_⟩ (cR ..))))
 ·rcases List.mem_append.mp hx with hx | hx
  ·exact(d8 (cy prog w)).keeps (his x hx) ho hd (cR ..)
  ·rw [List.mem_singleton.mp hx]
   exact(d8 (cy prog w)).keeps Yt ho hd (cR ..)
 ·rw [aE,cm]
  refine⟨hn,by simp,fun x hx y hy e=>?_⟩
  rw [au,bb,lC] at hy
  have hy:y=k:=hy
  exact new (by rw [← hy,← e]; exact hx)
theorem Ng {a:Addr} {Q:Bool->aA->Prop} (ty:s.TypeIs (.ref a) "tuple") (h:Q false s):wpAny (model prog w) A (Fp (.ref a)) Q E s:=by
 unfold Fp
 refine af (yV ty F.slot_tuple_eq.lookup (av ?_))
 exact h
theorem Rk{es:List ip}(nd:(es.map (·.hash)).Nodup)(e:ip):(es.filter fun x=>x.hash == e.hash).length<=1:=by
 induction es with
 | nil=>exact cJ _
 | cons x es ih =>
  rw [au,cD] at nd
  by_cases c:x.hash=e.hash
  ·rw [fN (by simp [c])]
   have:es.filter (fun y=>y.hash == e.hash)=[]:=by
    rw [Pf]
    intro y hy z
    have z:y.hash=e.hash:=by simpa using z
    exact nd.1 (by rw [c,← z]; exact aW hy)
   rw [this]; exact aM _
  ·rw [gL (by simp [c])]; exact ih nd.2
theorem BM {id:String} {o:Addr} {oo:Obj} {es:Array ip} {ep:Nat} {Q:Array ip->aA->Prop} (ho:s.heap.get? o=some oo) (hd:oo.data=.dict es ep) (ht:∀ e∈es.toList,∃ a,e.key=.ref a/\s.TypeIs (.ref a) "tuple") (nd:(es.toList.map (·.hash)).Nodup) (h:Q es s) :
  wpAny (model prog w) A (yc id o) Q E s:=by
 unfold yc
 refine af (eZ ho hd ?_)
 refine af ?_
 rw [← zc]
 refine jw _ (fun rest _ s'=>s'=s/\∀ e∈rest,∃ a,e.key=.ref a/\s.TypeIs (.ref a) "tuple") _ ?_ ?_ _ _ ⟨rfl,ht⟩
 ·rintro e rest r s' ⟨rfl,rE⟩
  obtain⟨a,ek,ty⟩:=rE e ay
  have one:¬ (es.filter fun x=>x.hash == e.hash).size > 1:=by
   have:=Rk nd e
   rw [← bJ,SG]; lia
  rw [ek]
  refine af (Ng ty ?_)
  rw [if_pos (show (!false)=true from rfl),if_neg one]
  exact av ⟨rfl,fun x hx=>rE x (ao _ hx)⟩
 ·rintro r s' ⟨rfl,_⟩
  exact av h
theorem Tw{nm:String}{d o:Addr}{xs ys:List (List Key×Addr×Value)}{Q:Unit->aA->Prop}(hu:A.units < cLine)(YA:d≠o)(ns:(o == e6)=false)(hd:s.heap.DictOfH (d8 (cy prog w)) d xs)(ho:s.heap.DictOfH (d8 (cy prog w)) o ys)
  (nd:((xs++ys).map (·.1)).Nodup) (hh:xs=[]->(ys.map fun y=>TN prog w y.1).Nodup) (hz:xs.length+ys.length<=1000)
  (hQ:∀ h',h'.DictOfH (d8 (cy prog w)) d (xs++ys)->gM d s.heap h'->Q () { s with heap:=h' }):wpAny (model prog w) A (De nm d o) Q E s:=by
 obtain⟨od,esd,epd,xM,Kt,W6,hed,OR,hnd⟩:=id hd
 obtain⟨oo,OU,epo,Yp,hco,NZ,OS,hio,TL⟩:=id ho
 have zd:=O5 hed
 have zo:=O5 OS
 have zq:=cN
 unfold De iS
 rw [if_neg (by simpa using YA),if_neg (by rw [ns]; exact e7)]
 refine af (av (af (eZ Yp NZ ?_)))
 have loop:wpAny (model prog w) A (do
   let YV ← dictEpoch o
   for i in [0:(← dictEntries o).size] do
    let some e:=(← dictEntries o)[i]? | O3 "internal:dict-merge"
    O8 [e.key,e.val] (Fl d e.key e.hash e.val)
    if (← dictEpoch o) != YV then O3 s!"{nm}:source-changed-during-callback") Q E s:=by
  refine af (iV Yp NZ (af (eZ Yp NZ ?_)))
  rw [Std.Legacy.Range.forIn_eq_forIn_range']
  simp only [Std.Legacy.Range.size,Sx,qy,Nat.div_one]
  refine af (jw _ (fun rest _ s'=>∃ h' i,s'={ s with heap:=h' }/\rest=List.range' i (OU.size - i)/\i<=OU.size/\h'.DictOfH (d8 (cy prog w)) d (xs++ys.take i)/\gM d s.heap h') _ ?_ ?_ _ _ ⟨s.heap,0,rfl,by simp,cJ _,by rw [x8,cc]; exact hd,wm _ _⟩)
  ·rintro x rest b s' ⟨h',i,rfl,hr,hi,yO,Mg⟩
   have lt:i < OU.size:=by
    apply cj
    intro z
    rw [Nat.sub_eq_zero_of_le (by lia)] at hr
    cases hr
   rw [show OU.size - i=(OU.size - (i+1))+1 by lia,List.range'_succ] at hr
   injection hr with h1 hr2
   subst h1
   have lx:x < ys.length:=by lia
   have Yo:h'.get? o=some oo:=(Mg.2 o (eC YA)).trans Yp
   have ex:OU[x]?=some (Bf (d8 (cy prog w)) ys[x]):=by rw [entry_at OS x,ag lx]; rfl
   refine af (eZ (s:={ s with heap:=h' }) Yo NZ ?_)
   rw [ex]
   show wpAny _ _ (O8 [fx ys[x].2.1,ys[x].2.2] (Fl d (.ref ys[x].2.1) (TN prog w ys[x].1) ys[x].2.2) >>= _) _ _ _
   have adQ:(d8 (cy prog w)).is h' ys[x].1 ys[x].2.1:=(d8 (cy prog w)).keeps (hio _ (cq lx)) xM W6 Mg
   have new:ys[x].1∉(xs++ys.take x).map (·.1):=fun z=>by
    have e:xs++ys=(xs++ys.take x)++ys[x] :: ys.drop (x+1):=by rw [cH,List.getElem_cons_drop,gk]
    rw [e,aE,cm] at nd
    exact nd.2.2 _ z _ ay rfl
   refine af (fF (PT (s:={ s with heap:=h' }) hu adQ yO new (by rw [aq,dW]; lia) fun h2 hd2 BJ=>?_))
   have aeA:h2.get? o=some oo:=(BJ.2 o (eC YA)).trans Yo
   refine af (iV (s:={ s with heap:=h2 }) aeA NZ ?_)
   rw [if_neg (by simp)]
   refine av ⟨h2,x+1,rfl,?_,lt,?_,Mg.trans BJ⟩
   ·exact hr2
   ·rw [List.take_add_one,ag lx,← cH]; exact hd2
  ·rintro b s' ⟨h',i,rfl,hr,hi,yO,Mg⟩
   have NV:i=OU.size:=by
    apply cj
    intro z
    rw [show OU.size - i=(OU.size - (i+1))+1 by lia,List.range'_succ] at hr
    cases hr
   refine av (hQ h' ?_ Mg)
   rw [NV,zo,List.take_length] at yO; exact yO
 dsimp only
 split
 ·refine af (eZ xM W6 ?_)
  split
  ·rename_i aeT
   have xe:xs=[]:=by
    have h0:esd=#[]:=Array.isEmpty_iff.mp aeT
    rw [h0] at zd
    exact List.length_eq_zero_iff.mp zd.symm
   have hth:∀ e∈OU.toList,∃ a,e.key=.ref a/\s.TypeIs (.ref a) "tuple":=fun e he=>by
    rw [OS] at he
    obtain⟨y,hy,rfl⟩:=List.mem_map.mp he
    exact⟨_,rfl,xk (hio y hy)⟩
   have hhs:(OU.toList.map (·.hash)).Nodup:=by
    rw [OS,bV]; exact hh xe
   refine af (BM Yp NZ hth hhs ?_)
   split
   ·refine af (wpAny_updateDictKeysTo xM W6 (av (hQ _ ⟨_,_,epd+1,fD _ xM (Obj.isFreed_of_dict (oC W6 _)),Kt.mapDictKeys _,oC W6 _,?_,fun y hy=>?_,nd⟩ (cR ..))) (by lia))
    ·rw [xe,bh]; exact OS
    ·rw [xe,bh] at hy
     exact(d8 (cy prog w)).keeps (hio y hy) xM W6 (cR ..)
   ·rename_i kD
    have h0:OU=#[]:=Array.isEmpty_iff.mp (by simpa using kD)
    have y0:ys=[]:=by
     rw [h0] at zo
     exact List.length_eq_zero_iff.mp zo.symm
    refine av (hQ s.heap ?_ (wm _ _))
    rw [y0,cc]; exact hd
  ·exact loop
 ·exact loop
theorem J8(d o:Addr)(YA:d≠o)(ns:(o == e6)=false):MeetsIn prog w (Builtin.«dict.update» ⟨[.ref d,.ref o],[]⟩) (fun A R s=>∃ xs ys,A.in1.units < cLine/\s.heap.DictOfH (d8 (cy prog w)) d xs/\s.heap.DictOfH (d8 (cy prog w)) o ys /\
  (((xs++ys).map (·.1)).Nodup/\(xs=[]->(ys.map fun y=>TN prog w y.1).Nodup)/\xs.length+ys.length<=1000)/\∀ h',h'.DictOfH (d8 (cy prog w)) d (xs++ys)->gM d s.heap h'->R (.ok (.ret .none)) { s with heap:=h' }):=by
 refine .of_wp ?_
 rintro A R s ⟨xs,ys,hu,hd,ho,⟨h1,h2,h3⟩,h⟩
 unfold Builtin.«dict.update» Builtin.Dict.selfAndRest
 refine af (af (yW hd.typeIs (show wpAny _ _ (pure (d,[fx o])) _ _ s from av ?_)))
 show wpAny _ _ (B1 "dict.update" d (.ref o) [] .none) _ _ s
 unfold B1
 refine af (Lc ho.typeIs ?_)
 rw [if_neg (by decide)]
 refine af ?_
 unfold Builtin.Dict.merge Builtin.Dict.readDirectly
 refine af (af (o4 ho.typeIs PySem.F.sub_dict_dict ?_))
 simp only [bP,aF,if_false]
 refine af (yV ho.typeIs F.slot_dict_iter.lookup (av ?_))
 simp only [beq_self_eq_true,if_true]
 refine af (av (Tw hu YA ns hd ho h1 h2 h3 fun h' yO Mg=>?_))
 show wpAny _ _ (Builtin.Dict.addKeywords d [] >>= _) _ _ _
 exact af (av (av ⟨.none,rfl,h h' yO Mg⟩))
end
end L2
namespace K2
open PySem PySem.Spec PyProof.Rows L2 PySem.W
section
variable {X:Cx} {pins:List (Addr×Obj)} {σ:L2.St} {H:Hp} {s:aA} {G:Gp}
theorem U7{x y:List Key}(h:tk x=tk y):x=y:=by
 have e:=oT x y
 have e2:=oT y y
 rw [show D.tup (x.map eE)=D.tup (y.map eE) from h,e2] at e
 exact of_decide_eq_true (e.symm.trans (decide_eq_true rfl))
theorem z0:∀ {a b:List (List Key)},a.map tk=b.map tk->a=b
 | [],[],_=>rfl
 | [],_ :: _,h=>by cases h
 | _ :: _,[],h=>by cases h
 | x :: a,y :: b,h=>by
  rw [au,au] at h
  injection h with h1 h2
  rw [U7 h1,z0 h2]
theorem He{K:aj}{l:List (T2×T2)}{kv:List (List Key×V)}(rs:lQ K H kv (bO l)):kv.map (·.1)=l.map fun p=>Du p.1:=by
 have h:=rs.keys
 have e1:(bO l).map (·.1)=(l.map fun p=>Du p.1).map tk:=by unfold bO; rw [bV,bV]; rfl
 have e2:(kv.map fun p=>D.tup (p.1.map eE))=(kv.map (·.1)).map tk:=by rw [bV]; rfl
 rw [e1,e2] at h
 exact(z0 h).symm
theorem vD{kv:List (List Key×V)}{xs:List (List Key×Addr×Value)}(r:KT H kv xs):xs.map (·.1)=kv.map (·.1):=by
 induction r with
 | nil=>rfl
 | cons h _ ih=>rw [au,au,ih,h.1]
theorem VW{kv kw:List (List Key×V)}{xs ys:List (List Key×Addr×Value)}(r:KT H kv xs)(q:KT H kw ys):KT H (kv++kw) (xs++ys):=by
 induction r with
 | nil=>exact q
 | cons h _ ih=>exact .cons h ih
theorem Wo{K:aj}{kv kw:List (List Key×V)}{k1 k2:List (D×D)}(r:lQ K H kv k1)(q:lQ K H kw k2):lQ K H (kv++kw) (k1++k2):=by
 induction r using lQ.ind with
 | nil=>exact q
 | cons h _ ih=>exact .cons h ih
theorem LR(l:List (T2×T2)):∀ q∈bO l,lJ q.1=true:=fun q hq=>by unfold bO at hq; obtain⟨y,_,rfl⟩:=List.mem_map.mp hq; rfl
theorem Wr{a:Addr}{l:List (T2×T2)}(I:Inv X pins σ H s)(ab:mw X.K H G)(hg:G a=some (.iO (bO l))) :
  ∃ H' kv,Inv X pins σ H' s/\Mv X.K H G H' G/\H' a=some (.dT kv)/\lQ X.K H' kv (bO l):=by
 have ok:=LR l
 generalize bO l=kvs at hg ok
 rcases ab a _ hg with ⟨kv,hv,rs⟩ | ⟨kv,hv,rs⟩
 ·cases rs with
  | nil=>exact⟨_,[],toT I hv,DZ ab hg (.putD hv (.inl ⟨_,rfl⟩)) (.inr ⟨[],dj,.nil⟩),dj,.nil⟩
  | @cons j _ _ _ _ _ _ =>
   have:=ok _ ay
   cases j <;> simp [eE,lJ] at this
 ·exact⟨H,kv,I,.refl ab,hv,rs⟩
theorem Xp{x:V}{m:List (T2×T2)}(I:Inv X pins σ H s)(r:cX X.K H x (.kg (bO m))) :
  ∃ b kw ys,x=.ref b/\(b == e6)=false/\(∃ o u,H b=some (.lW o u))/\lQ X.K H kw (bO m)/\KT H kw ys/\s.heap.DictOfH (d8 (cy X.prog X.w)) b ys:=by
 have ok:=LR m
 generalize bO m=kvs at r ok
 cases r with
 | oK hq rs =>
  rename_i b o kv
  cases rs with
  | nil =>
   obtain⟨z,ns,vs,rel,ob,es,ep,ho,ex,dd,hko,hp,nd⟩:=(I.cT b _ hq).2
   cases rel
   have he:es.toList=[]:=List.length_eq_zero_iff.mp hp.length
   exact⟨b,[],[],rfl,ns,⟨_,_,hq⟩,.nil,.nil,ob,es,ep,ho,ex,dd,he,(fun _ z=>by cases z),dh⟩
  | @cons j _ _ _ _ _ _ =>
   have:=ok _ ay
   cases j <;> simp [eE,lJ] at this
 | oJ hq rs =>
  rename_i b o kv
  obtain⟨z,ns,ys,rel,dd⟩:=xQ I.cT (.inr ⟨_,hq⟩)
  exact⟨b,kv,ys,rfl,ns,⟨_,_,hq⟩,rs,rel,dd⟩
theorem Qu (hu:X.A.units+64 < cLine):Ox X "dict.update" Qv:=by
 intro pins s σ H G x d xs ds v us Q I ab rx rd SY zH q
 unfold Qv at q
 split at q
 ·rename_i a y
  obtain⟨l,m,hg,rfl,⟨hz,nd,hh⟩,q⟩:=q
  cases rd
  obtain⟨w1,rfl,DC⟩:=zH.one
  obtain⟨u,rfl,ru⟩:=SY.one
  cases rx
  obtain⟨H',kv,I',mv,hv,rs⟩:=Wr I ab hg
  obtain⟨b,kw,ys,rfl,nb,⟨ob,ub,hb⟩,ZN,P1,ddb⟩:=Xp I' (DC.mono (mv.kp ab))
  cases ru
  obtain⟨z,na,zs,rel,dda⟩:=Rp I'.cT hv
  have ne:a≠b:=fun e=>by rw [← e,hv] at hb; cases hb
  have k1:(zs++ys).map (·.1)=(l++m).map fun p=>Du p.1:=by rw [aE,aE,vD rel,vD P1,He rs,He ZN]
  have nd':((zs++ys).map (·.1)).Nodup:=by
   rw [k1]
   have:((l++m).map fun p=>Du p.1)=((l++m).map (·.1)).map Du:=by rw [bV]; rfl
   rw [this,jY,iB]
   exact(List.nodup_iff_pairwise_ne.mp nd).imp fun h e=>h (Dt e)
  have l1:zs.length=l.length:=by have:=congrArg dP ((vD rel).trans (He rs)); simpa using this
  have l2:ys.length=m.length:=by have:=congrArg dP ((vD P1).trans (He ZN)); simpa using this
  have hh':zs=[]->(ys.map fun y=>TN X.prog X.w y.1).Nodup:=fun e=>by
   have le:l=[]:=List.length_eq_zero_iff.mp (by rw [← l1,e]; rfl)
   have:(ys.map fun y=>TN X.prog X.w y.1)=m.map fun p=>h2 p.1:=by
    have e1:(ys.map fun y=>TN X.prog X.w y.1)=(ys.map (·.1)).map (TN X.prog X.w):=by rw [bV]; rfl
    rw [e1,vD P1,He ZN,bV]; rfl
   rw [this]; exact hh le
  have sz:bG=16777216:=cN
  refine call_meetsIn IK dda.typeIs PySem.F.entry_dict_update (PySem.F.args_dict_update_2 _ _) (J8 a b ne nb) ⟨zs,ys,(by show X.A.units+1 < cLine; lia),dda,ddb,⟨nd',hh',by lia⟩,fun h' yO hs=>?_⟩
  have kp:Kp H' (upd H' a (.dT (kv++kw))):=.putD hv (.inr ⟨_,rfl⟩)
  obtain⟨o',es',YW,p1,p2,p3,p4,_,p6⟩:=yO
  have kl:(kv++kw).length<=bG:=by
   have e1:=gG rel
   have e2:=gG P1
   rw [aq,sz]; lia
  have e5:bO (l++m)=bO l++bO m:=by unfold bO; rw [aE]
  refine⟨.du,_,.du,_,Ey (t':=s.toks) I' (by rw [hv]; exact i9) hs ⟨_,p1⟩ (ob:=.dT (kv++kw)) ⟨kl,na,zs++ys,(VW rel P1).keeps kp.tup,o',es',YW,p1,p2,p3,p4,p6⟩,mv.trans (.put mv.ab hg kp (.dt dj ?_)),rfl,.du,q⟩
  rw [e5]
  exact(Wo rs ZN).mono kp
 ·exact q.elim
end
end K2
end
section
namespace K2
open PySem PySem.Spec PyProof.Rows L2
noncomputable def TG:List Value->List Int->Bool
 | [],[]=>true
 | v :: vs,n :: ns=>Fm n v&&TG vs ns
 | _,_=>false
noncomputable def B4(K:aj)(a:Addr)(ns:List Int):Bool:=match K.lookup a with
 | some o=>o.cls == .type "tuple" && (match o.data with | .seq bM _=>TG bM.toList ns | _=>false)
 | none=>false
theorem CB:∀ (vs:List Value) (ns:List Int),TG vs ns=true->Vals (ns.map V.int) vs
 | [],[],_=>.nil
 | [],_ :: _,h=>bZ (show false=true from h)
 | _ :: _,[],h=>bZ (show false=true from h)
 | v :: vs,n :: ns,h=>by
  have h:(Fm n v&&TG vs ns)=true:=h
  rw [aP] at h
  rcases fj (k:=.inl n) h.1 with ⟨j,t,e,rfl⟩ | ⟨_,_,e,_⟩
  ·cases e
   exact .cons ⟨t,rfl⟩ (CB vs ns h.2)
  ·cases e
theorem U5{K:aj}{a:Addr}{ns:List Int}{h:Heap}(Y:K.In h)(e:B4 K a ns=true):∃ bM,Vals (ns.map V.int) bM/\h.IsTuple a bM.toArray:=by
 unfold B4 at e
 cases hl:K.lookup a with
 | none=>rw [hl] at e; exact bZ (show false=true from e)
 | some o =>
  rw [hl] at e
  dsimp only at e
  rw [aP] at e
  obtain⟨e1,e2⟩:=e
  obtain⟨c,dd,dt,sl⟩:=o
  have f1:c=.type "tuple":=beq_iff_eq.mp e1
  subst f1
  cases dt with
  | seq bM m=>exact⟨bM.toList,CB _ _ e2,_,Y _ _ hl,rfl,m,by simp⟩
  | _=>exact bZ (show false=true from e2)
theorem any_ints(i:Int):∀ ns:List Int,(ns.map D.int).any (i7 · (.int i))=ns.contains i
 | []=>rfl
 | n :: ns=>by
  rw [au,lE,any_ints i ns,List.contains_cons]
  congr 1
  show decide (n=i)=(i == n)
  rw [show (i == n)=decide (i=n) from rfl]
  by_cases z:n=i
  ·rw [z]
  ·rw [decide_eq_false z,decide_eq_false fun y=>z y.symm]
section
variable {X:Cx} {x:Str} {a:Addr} {ns:List Int} {e:Expr} {te:gI} {px pos:Pos}
theorem P9 (neg:Bool) (hu:X.A.units+64 < cLine) (hg:Gl X x) (hm:X.mg x=some (.ref a)) (hT:B4 X.K a ns=true) (ha:gW X e te) (Yq:wu (if neg then .NotIn else .In) (.Name x px)=false) (N0:(x == ("__debug__" : Str))=false):C3 X (.Compare e [if neg then .NotIn else .In] [.Name x px] pos) (gJ (T7 neg ns te)):=by
 intro E pins s σ H τ G Q hE I h
 refine wpAny_isTrue_Compare1 (kn ha hE I h fun z H1 dx G1 v s1 I1 m1 r1 jV q1=>LX I1.inv hg hm ?_ N0) Yq
 obtain⟨i,rfl,q1⟩:=q1
 obtain⟨bM,rv,hl⟩:=U5 I1.inv.L4 hT
 refine gN (yM (y:=z) hu neg (ds:=ns.map D.int) (ss:=ns.map D.int) (t:=.int i) (Q:=fun w G2=>w=.bl (if neg then !ns.contains i else ns.contains i)/\G2=G1) I1.inv I1.ab r1 jV ⟨a,_,bM,rfl,rv,bF.DW ns,.inr hl⟩ (.int _) (zu (α:=Int) _ 7 (by decide) ns) ⟨by rw [any_ints],rfl⟩) ?_
 rintro c s3 ⟨w,H3,dz,G3,I3,m3,r3,Vt,q3⟩
 obtain⟨rfl,rfl⟩:=q3
 exact MY pins s3 σ H3 G3 w _ c _ _ I3 m3.ab r3 Vt rfl fun s' I'=>⟨H3,G3,I',m1.trans m3,q1⟩
theorem P8 (hu:X.A.units+64 < cLine) (hg:Gl X x) (hm:X.mg x=some (.ref a)) (hT:B4 X.K a ns=true) (ha:gW X e te) (Yq:autoParam (wu .NotIn (.Name x px)=false) Aw._auto_1) (N0:autoParam ((x == ("__debug__" : Str))=false) Ad._auto_1):C3 X (.Compare e [.NotIn] [.Name x px] pos) (gJ (T7 true ns te)):=P9 true hu hg hm hT ha Yq N0
end
end K2
end
section
namespace K2
open PySem PySem.Spec PyProof.Rows L2
section
variable {X:Cx} {pins:List (Addr×Obj)} {σ:L2.St} {H1 H':Hp} {s1 s':aA} {p:Addr} {u0:HO} {ob:Obj}
theorem Inv.Xk{WN : L2.St}(I1 : Inv X pins WN H1 s1)(I' : Inv X pins σ H' s')(e1 : H1 p = some u0)(hu : KR u0 = true)(e' : H' p = some (.lW ob u0)) : Inv X pins σ (upd H' p u0) s' where
  ok := I'.ok
  os := I'.os
  bare := I'.bare
  base := { keep := I'.base.keep, slot := I'.base.slot, there := I'.base.there
            free := fun b o q n hx => by
              have hb : b ≠ p := fun z => by have := I1.base.free b o q n hx; rw [z, e1] at this; cases this
              rw [cu hb]; exact I'.base.free b o q n hx
            wB := fun b xs q => by
              have hb : b ≠ p := fun z => by have := I1.base.wB b xs q; rw [z, e1] at this; cases this; cases hu
              rw [cu hb]; exact I'.base.wB b xs q
            vL := fun b o u q => by
              have hb : b ≠ p := fun z => by have := I1.base.vL b o u q; rw [z, e1] at this; cases this; cases hu
              rw [cu hb]; exact I'.base.vL b o u q
            wC := fun b ps q => by
              have hb : b ≠ p := fun z => by obtain⟨more, e⟩ := I1.base.wC b ps q; rw [z, e1] at e; cases e; cases hu
              obtain⟨more, e⟩ := I'.base.wC b ps q
              exact⟨more, by rw [cu hb]; exact e⟩ }
  loc := I'.loc
  cell := I'.cell
  free := by
    have hb : X.env.locals ≠ p := fun z => by have := I'.free; rw [z, e'] at this; cases this
    rw [cu hb]; exact I'.free
  mT := fun x c e => by
    have hb : c ≠ p := fun z => by have := I'.mT x c e; rw [z, e'] at this; cases this
    rw [cu hb]; exact I'.mT x c e
  pin := fun q hq => by
    obtain⟨h1, h2, h3⟩ := I'.pin q hq
    have hb : q.1 ≠ p := fun z => by rw [z, e'] at h2; cases h2
    exact⟨h1, by rw [cu hb]; exact h2, h3⟩
  cT := fun a o q => by
    have st : ∀ u, hX X.prog X.w H' s'.heap a u → hX X.prog X.w (upd H' p u0) s'.heap a u := fun u x =>
      x.nA (fun b v _ r => r) (fun b r => by
        have hb : b ≠ p := fun z => by rw [z, e'] at r; cases r
        rw [cu hb]; exact r) (fun b xs r => by
        have hb : b ≠ p := fun z => by rw [z, e'] at r; cases r
        rw [cu hb]; exact r)
    by_cases ha : a = p
    · subst ha
      rw [dj] at q
      cases q
      exact st _ (I'.cT a _ e').2
    · rw [cu ha] at q
      exact st _ (I'.cT a _ q)
  len := I'.len
end
theorem Nb{K:aj}{H H2:Hp}{v:V}{d:D}(r:cX K H v d)(h:tM d=true):cX K H2 v d:=by
 cases r with
 | du=>exact .du
 | bl b=>exact .bl _
 | int i=>exact .int _
 | _=>exact absurd h (by simp [tM])
theorem zE{K:aj}{H H2:Hp}:∀ {vs:List V} {ds:List D},bF K H vs ds->(ds.all tM)=true->bF K H2 vs ds
 | _,_,.nil,_=>.nil
 | _,_,.cons r rs,h=>by
  rw [oD,aP] at h
  exact .cons (Nb r h.1) (zE rs h.2)
theorem P0{K:aj}{H:Hp}{p:Addr}{o:Obj}{u u0:HO}{v:V}{d:D}(ep:H p=some (.lW o u))(nl:∀ xs,u≠.lst xs)(r:cX K H v d)(h:HI d=true):cX K (upd H p u0) v d:=by
 cases r with
 | fG sq rs =>
  refine .fG ?_ (zE rs h)
  rcases sq with ⟨o2,e⟩ | e
  ·refine .inl ⟨o2,?_⟩
   rename_i a vs ds
   have:a≠p:=fun z=>by rw [z,ep] at e; cases e; exact nl _ rfl
   rw [cu this]; exact e
  ·exact .inr e
 | du=>exact .du
 | bl b=>exact .bl _
 | int i=>exact .int _
 | _=>exact absurd h (by simp [HI,tM])
section
variable {X:Cx} {e:Expr} {te:gI} {pos p0 p1 p2 p3:Pos} {x z y:Str} {i j k:Nat}
theorem Qa(hp:PassesOwn (model X.prog X.w) X.A X.env X.xe)(hc:X.calm=true)(hN:X.N.Nodup)(hx:gW X (.Name x p0) (aw i))(hz:X.N[j]?=some z)(hy:X.N[k]?=some y)(he:gW X e te)
  (I0:autoParam (i≠j/\i≠k/\j≠k) Ad._auto_1)
  (lz:autoParam (Loc X.env.scope z) Ao._auto_1) (ly:autoParam (Loc X.env.scope y) Ao._auto_1)
  (Yh:autoParam (Fh e (some (.Name y p2)) p3.line X.env=pure false) Ar._auto_1)
  (fz:autoParam (X.fn z=true\/X.env.scope.names.lookup z=some .local) Ao._auto_1) (fy:autoParam (X.fn y=true\/X.env.scope.names.lookup y=some .local) Ao._auto_1)
  (hs:autoParam (∀ v,kh (.Name x p0) X.env v=pure v) Ai._auto_1) :
  Jb X (.For (.Name z p1) (.Name x p0) [.Assign [.Name y p2] e p3] [] pos) (UU i j k te):=by
 intro E pins s σ H τ G Dn hE I h
 obtain⟨p,kvs,hi,hg1,h⟩:=h
 generalize hks:kvs.map (·.1)=ks at h
 obtain⟨ni,nk,njk⟩:=I0
 have iv:i < τ.length:=(List.getElem?_eq_some_iff.mp hi).1
 obtain⟨vi,W3,rvi⟩:=I.st.at' i _ hi
 have evi:vi=.ref p:=by cases rvi; rfl
 subst evi
 have rep:cX X.K (lN s.heap (jj (fun a=>a == p) G) H) (.ref p) (.kg kvs):=Kv I.inv I.ab (Fz.iO hg1 (by simp) (.same _)) (.ref p)
 have I1':=Inv.freeze I.inv (jj (fun a=>a == p) G)
 have kp0:Kp H (lN s.heap (jj (fun a=>a == p) G) H):=sg
 have hS:∀ a,a≠p->jj (fun a=>a == p) G a=false:=fun a h=>by simp [jj,h]
 have out:∀ a,a≠p->lN s.heap (jj (fun a=>a == p) G) H a=H a:=fun a h=>vM (hS a h)
 obtain⟨u0,ob,e0,hc0,ef,nl⟩:∃ u0 ob,H p=some u0/\KR u0=true/\lN s.heap (jj (fun a=>a == p) G) H p=some (.lW ob u0)/\∀ xs,u0≠.lst xs:=by
  rcases I.ab p _ hg1 with ⟨kv,hv,rs⟩ | ⟨kv,hv,rs⟩
  ·obtain⟨ob,ho⟩:=K2.kB (I.inv.cT p _ hv)
   exact⟨_,ob,hv,rfl,si (by simp [jj,hg1]) hv rfl ho,fun xs=>by nofun⟩
  ·obtain⟨ob,ho⟩:=K2.kB (I.inv.cT p _ hv)
   exact⟨_,ob,hv,rfl,si (by simp [jj,hg1]) hv rfl ho,fun xs=>by nofun⟩
 generalize lN s.heap (jj (fun a=>a == p) G) H=H2 at rep I1' ef out kp0
 have OP:OZ X.K H2 σ (τ.set i (some (.kg kvs))):=by
  have:=(I.st.mono kp0).set i rep
  have es:σ.set i (some (V.ref p))=σ:=by
   apply List.ext_getElem?
   intro m
   rw [List.getElem?_set]
   split
   ·rename_i h; subst h
    split
    ·exact W3.symm
    ·rename_i h2; exact absurd (List.getElem?_eq_some_iff.mp W3).1 h2
   ·rfl
  rw [es] at this; exact this
 have J2:I2 X pins σ H2 (τ.set i (some (.kg kvs))) (fun _=>none) s:=⟨I1',OP,fun a g e=>by cases e⟩
 have hI:=zN (tg:=.Name z p1) hx E pins s σ H2 (τ.set i (some (.kg kvs))) (fun _=>none) (fun ds ok G1=>ds=ks/\(∀ g,ok g)/\G1=fun _=>none) hE J2 (by
  show aw i E _ _ _
  unfold aw
  rw [fh iv]
  exact⟨hks,fun _=>i9,rfl⟩)
 refine wpAny_For (gN hI fun v s1 h1=>gN h1 fun TB s2 h2=>?_) hs
 obtain⟨it,fp,tn,J,H3,G3,ds,ok,eit,Iv,m2,T,t0,f2,wk,eds,okk,eG⟩:=h2
 subst eit; subst eG; subst eds
 have JF:∀ {H':Hp},(∀ b∈fp,H' b=none)->∀ b∈fp,nI X pins H' b:=fun hn b hb=>⟨hn b hb,(f2 b hb).2⟩
 refine codeAny_forLoop_any (fun n s'=>∃ c jx H' nK G',I2 X pins jx H' nK G' s'/\Mv X.K H2 (fun _=>none) H' G'/\Kp H3 H'/\tn c s'.heap/\(∀ b∈fp,H' b=none)/\n=ds.length - c/\c<=ds.length/\(∀ m,m≠j->m≠k->jx[m]?=σ[m]?) /\
   YN j k te (ds.drop c) E nK G' fun nK=>∃ d,nK[k]?=some (some d)/\HI d=true/\Dn.nx ((τ.set j none).set k (some d)) G) ?_ ds.length
  ⟨0,σ,H3,_,_,J2.mv Iv m2,m2,.refl _,t0,fun b hb=>(f2 b hb).1,rfl,cJ _,fun _ _ _=>rfl,h⟩
 rintro n s3 ⟨c,Fq,H4,Pk,G4,I3,m3,k3,t3,YQ,rfl,hle,sm,w3⟩
 by_cases lG:c < ds.length
 ·rw [fk lG] at w3
  obtain⟨go,yl⟩:=(wk c H4 G4 k3 I3.ab (okk _)).1 ds[c] (by simp [lG])
  refine fw hp (gN (T.item X rfl rfl rfl hc c pins s3 Fq H4 X.xe I3.inv (JF YQ) t3 go) ?_)
  rintro r s4 ⟨u,hr,h4⟩
  subst hr
  refine fw hp (gN h4 ?_)
  rintro _ s5 ⟨xv,H5,I5,r5,y5,Vf,fr5⟩
  obtain⟨rd5,m5⟩:=yl xv H5 y5
  have I5':=I5.pinned (JF fr5) (T.obj _ _ Vf)
  have J5:I2 X (pins++mJ fp s5.heap) Fq H5 Pk G4 s5:=⟨I5',I3.st.mono (m5.kp I3.ab),m5.ab⟩
  refine fw hp (Jd (uM J5.inv hN hz lz r5 (fun s6 I6'=>?_) fz))
  have I6:I2 X (pins++mJ fp s5.heap) (Fq.set j (some xv)) H5 (Pk.set j (some ds[c])) G4 s6:=⟨I6',J5.st.set j rd5,J5.ab⟩
  refine fw hp (ML (wpAny_Assign_Name (kn he hE I6 w3 fun v7 H7 d7 G7 u7 s7 I7 m7 r7 rd7 q7=>?_) Yh))
  refine uM I7.inv hN hy ly r7 (fun s8 I8'=>?_) fy
  refine mE ?_
  have I8:I2 X (pins++mJ fp s5.heap) ((Fq.set j (some xv)).set k (some v7)) H7 ((Pk.set j (some ds[c])).set k (some d7)) G7 s8:=⟨I8',I7.st.set k rd7,I7.ab⟩
  have mm:=m5.trans m7
  refine⟨ds.length - (c+1),by lia,c+1,_,H7,_,G7,⟨I8.inv.qO,I8.st,I8.ab⟩,m3.trans mm,k3.trans (mm.kp I3.ab),T.keep _ _ _ Vf fun b hb o e=>(I8.inv.pin (b,o) (bH _ (bH _ (kC hb e)))).1,fun b hb=>?_,rfl,lG,fun m h1 h2=>?_,q7⟩
  ·obtain⟨o,e,d⟩:=T.obj _ _ Vf b hb
   exact(I8.inv.pin (b,o) (bH _ (bH _ (kC hb e)))).2.1
  ·rw [eX (eC h2),eX (eC h1)]; exact sm m h1 h2
 ·have hn:ds.length<=c:=by lia
  rw [ji hn] at w3
  obtain⟨d,hd,hfl,q⟩:=w3
  have stop:=(wk c H4 G4 k3 I3.ab (okk _)).2 hn
  refine fw hp (gN (T.done X rfl rfl rfl hc c pins s3 Fq H4 X.xe I3.inv (JF YQ) t3 stop) ?_)
  rintro r s4 ⟨hr,I4⟩
  subst hr
  have X6:∀ a o,H2 a=some o->H4 a=some o/\G4 a=none:=fun a o e=>m3.keep a o e rfl
  have ep:=(X6 p _ ef).1
  have I9:=Inv.Xk I.inv I4 e0 hc0 ep
  have same:∀ a o,H a=some o->upd H4 p u0 a=some o:=fun a o e=>by
   by_cases h:a=p
   ·subst h; rw [dj,← e0,e]
   ·rw [cu h]; exact(X6 a o (by rw [out a h]; exact e)).1
  have kp:Kp H (upd H4 p u0):=⟨fun a xs e=>same a _ e,fun a o u e=>same a _ e⟩
  have OW:mw X.K (upd H4 p u0) G:=fun a g eg=>by
   have ab1:=I.ab a g eg
   cases eh:H a with
   | none=>exact absurd eh ab1.tracked
   | some o=>exact ab1.mono kp (by rw [same a o eh,eh])
  have mv:Mv X.K H G (upd H4 p u0) G:=⟨fun a o e n=>⟨same a o e,n⟩,fun a n=>by
   cases eg:G a with
   | none=>exact absurd eg n
   | some g=>exact(OW a g eg).tracked,OW⟩
  have st9:OZ X.K (upd H4 p u0) Fq ((τ.set j none).set k (some d)):=by
   refine⟨by rw [cb,cb,← I.st.len,I4.len,← I.inv.len],fun m d' hm=>?_⟩
   by_cases h1:m=k
   ·subst h1
    obtain⟨v,hv,rv⟩:=I3.st.at' m d hd
    have lk:m < τ.length:=by
     have:=(List.getElem?_eq_some_iff.mp hm).1
     rw [cb,cb] at this; exact this
    rw [fh (by rw [cb]; exact lk)] at hm
    cases hm
    exact⟨v,hv,P0 ep nl rv hfl⟩
   ·rw [eX (eC h1)] at hm
    by_cases h2:m=j
    ·subst h2
     have lk:m < τ.length:=by
      have:=(List.getElem?_eq_some_iff.mp hm).1
      rw [cb] at this; exact this
     rw [fh lk] at hm
     cases hm
    ·rw [eX (eC h2)] at hm
     obtain⟨v,hv,rv⟩:=I.st.at' m d' hm
     exact⟨v,(sm m h2 h1).trans hv,rv.mono kp⟩
  exact mE ⟨Fq,_,_,G,⟨I9,st9,OW⟩,mv,q⟩
end
end K2
end
section
namespace K2
open PySem PySem.Spec PyProof.Rows L2
section
variable {X:Cx}
theorem KI{pins:List (Addr×Obj)}{s:aA}{σ:L2.St}{H:Hp}{y:V}(I:Inv X pins σ H s)(r:cX X.K H y (.kg [])):∃ a,y=.ref a/\s.heap.DictOf (cy X.prog X.w) a []/\(a == e6)=false:=by
 cases r with
 | oK hq rs =>
  rename_i a o kv
  cases rs
  obtain⟨z,ns,vs,rel,dd⟩:=(I.cT a _ hq).2
  cases rel
  exact⟨a,rfl,dd,ns⟩
 | oJ hq rs =>
  rename_i a o kv
  cases rs
  obtain⟨z,ns,xs,rel,ob,es,ep,ho,ex,dd,he,nd⟩:=(I.cT a _ hq).2
  cases rel
  refine⟨a,rfl,⟨ob,es,ep,ho,ex,dd,?_,?_,?_⟩,ns⟩
  all_goals first | exact dh | (rw [he]; first | exact .nil | (intro e h; cases h)) | (intro e h; rw [Array.mem_def,he] at h; cases h) | skip
theorem Ts(hu:X.A.units+64 < cLine)(neg:Bool):oX X (ff (if neg then .NotIn else .In)) (Nf neg):=by
 intro pins s σ H G x y dx dy v u Q I ab rx ry dX dY q
 by_cases h:dy=.kg []
 ·subst h
  obtain⟨⟨n,rfl⟩,q⟩:=q
  obtain⟨a,rfl,dd,ns⟩:=KI I dY
  cases ry
  cases dX
  cases neg with
  | false=>exact wpAny_in_of (Av (k:=.inl n) rx) ns dd.mapOf ⟨.bl _,H,.bl _,G,I.tok _,.refl ab,rfl,.bl _,q⟩
  | true=>exact wpAny_notIn_of (Av (k:=.inl n) rx) ns dd.mapOf ⟨.bl _,H,.bl _,G,I.tok _,.refl ab,rfl,.bl _,q⟩
 ·rw [LJ h] at q
  exact LQ hu neg pins s σ H G x y dx dy v u Q I ab rx ry dX dY q
theorem Tb{a:Expr}{ta:gI}{p pos:Pos}{j}(ha:gW X a ta):C3 X (.Compare a [.Is] [.Constant .none j p] pos) (gJ (yn (vj false) ta)) :=
 show C3 X _ (gJ (bg (Nd false) ta (dC .du))) from fm Tq ha yE (fV _)
theorem Cm{a:Expr}{ta:gI}{p pos:Pos}{j}(ha:gW X a ta):C3 X (.Compare a [.IsNot] [.Constant .none j p] pos) (gJ (yn (vj true) ta)) :=
 show C3 X _ (gJ (bg (Nd true) ta (dC .du))) from fm Nt ha yE (fV _)
theorem JS(hu:X.A.units+64 < cLine):oX X (ff .NotIn) (Nf true):=Ts hu true
end
end K2
end
section
namespace K2
open PySem PySem.W PySem.Spec PyProof.Rows PySem.Calls
theorem NF{p q:ck}{Xt:aA->Bool}{α:Type}{Yf:aA->α}{Ya:World->α}{N:Nat}(e:opening p=plainProg p.main.scope.names)(hN:Nat.ble 600 N=true)(f:∀ s,fenceModules? p s=some s)
  (h:∀ (w:World) (os:OsState),(topFrom treeTable p w N ⟨boot_heap w.params,Array.mk [],boot_drawn,boot_toks,os⟩).map (fun s=>(openSeen q [] (O7 p.main.body) Xt true s,Yf s))=some (openGood q [],Ya w)):LeftO p q [] Xt Yf Ya N:=fun w=>by
 obtain⟨⟨h',gs,d,k,os⟩,e1,e2⟩:=Option.map_eq_some_iff.mp (boot_open e hN f w)
 obtain⟨rfl,rfl,rfl,rfl⟩:h'=boot_heap w.params/\gs=Array.mk []/\d=boot_drawn/\k=boot_toks:=by simpa using e2
 unfold openEnds
 rw [e1]
 exact h w os
noncomputable abbrev Lq(l:OpenLaw)(q:ck):Bool:=chainsOk q&&opensWell l.row.prog&&(frees l.row.toRowW&&l.row.within.isEmpty)
noncomputable abbrev Xg(l:OpenLaw)(q:ck)(s:aA):Bool:=xlAt q [] s&&recOk l.row.records s
theorem NY{l:OpenLaw}{q:ck}{K:Params->Frag}{as:List Addr}{d:DefRec}{N:Nat}(ok:l.wellSaid=true)(e:opening l.row.prog=plainProg l.row.prog.main.scope.names)(hN:Nat.ble 600 N=true)(f:∀ s,fenceModules? l.row.prog s=some s)(hK:∀ P,as=(K P).map (·.1))
  (h:∀ (w:World) (os:OsState),(topFrom treeTable l.row.prog w N ⟨boot_heap w.params,Array.mk [],boot_drawn,boot_toks,os⟩).map (fun s=>(openSeen q [] (O7 l.row.prog.main.body) (Xg l q) true s,as.map s.heap.get?))=some (openGood q [],(K w.params).map fun p=>some p.2))
  (hd:defOf q l.row.name=some (d,[])) (hp:l.row.prog.theDef l.row.name=some (d.params,d.body,d.scope)) (hk:kwWritten? d.params.kwonlyargs d.params.kw_defaults=some []) (hr:(!l.row.writes||l.row.records.isEmpty)=true) (ht:Lq l q=true) (hb:l.row.prog.bare) (hw:l.row.toRowW.promised)
  (c:WalkO q [] (XL q []) (InK K) l.row.toRowW d [] fun f vs=>Le f vs):l.Holds :=
 holds_law ok fun k1=>holds_open (NF (Yf:=Hook.obs (kHook K as hK)) (Ya:=Hook.val (kHook K as hK)) e hN f h) (Hook.of (kHook K as hK)) (Hook.keeps (kHook K as hK)) (fun s x=>xl_of s (Bool.and_eq_true_iff.mp x).1) XL.keeps hd hp hk (fun s x=>recFacts_of (Bool.and_eq_true_iff.mp x).2) hr k1 ht hb hw c
end K2
end
section
namespace K2
open PySem (Str)
open Enc (enc)
theorem iJ{α:Type} [DecidableEq α] [Enc α]{G G1:Gp}{p:Nat}{xs:List α}{Q:DK}(l:ig G G1)(hp:G p=none)(h1:G1 p=some (.lst (xs.map enc)))(q:Q (enc xs) G):Uo G1 (.ref p) Q :=
 Rc l hp h1 (Oy.same _) q
theorem fZ{α:Type}{f:α->D}{g:BR}{body:iT}{ok:Gp->Prop}{xs:List α}{E:lP}{K:lX}{τ:iH}{G:Gp}(I:List α->iH->Gp->Prop)
  (h0:I [] τ G) (cT:∀ pre τ G,I pre τ G->ok G)
  (step:∀ (pre:List α) (x:α) (post:List α) τ G (N:iH->Gp->Prop),xs=pre++x :: post->I pre τ G->(∀ wA G2,I (pre++[x]) wA G2->N wA G2) ->
   g E (f x) τ G fun o8 G1=>body E { K with nx:=N,ct:=N,bk:=K.nx } o8 G1)
  (fin:∀ τ G,I xs τ G->K.nx τ G):tv g body ok (xs.map f) E K τ G:=by
 have main:∀ (post pre:List α) τ G,xs=pre++post->I pre τ G->tv g body ok (post.map f) E K τ G:=by
  intro post
  induction post with
  | nil =>
   intro pre τ G e h
   rw [cc] at e
   subst e
   exact⟨cT _ _ _ h,fin _ _ h⟩
  | cons d post ih =>
   intro pre τ G e h
   refine⟨cT _ _ _ h,?_⟩
   exact step pre d post τ G _ e h fun wA G2 h2=>ih (pre++[d]) wA G2 (by rw [e,cH]; rfl) h2
 exact main xs [] τ G rfl h0
theorem gF{α:Type}{f:α->D}{g:BR}{c:Option yr}{e:gI}{ok:Gp->Prop}{xs:List α}{E:lP}{τ:iH}{G:Gp}{Q:List D->Gp->Prop}(I:List α->List D->iH->Gp->Prop)
  (h0:I [] [] τ G) (cT:∀ pre acc τ G,I pre acc τ G->ok G)
  (step:∀ (pre:List α) (x:α) (post:List α) (acc:List D) τ G (N:iH->List D->Gp->Prop),xs=pre++x :: post->I pre acc τ G->(∀ wA xi G2,I (pre++[x]) xi wA G2->N wA xi G2) ->
   g E (f x) τ G fun o8 G1=>match c with
    | none=>e E o8 G1 fun x G2=>N o8 (acc++[x]) G2
    | some c=>c E o8 G1 fun k G2=>if k=true then e E o8 G2 fun x G3=>N o8 (acc++[x]) G3 else N o8 acc G2)
  (fin:∀ acc τ G,I xs acc τ G->Q acc G):jq g c e ok (xs.map f) E τ G [] Q:=by
 have main:∀ (post pre:List α) (acc:List D) τ G,xs=pre++post->I pre acc τ G->jq g c e ok (post.map f) E τ G acc Q:=by
  intro post
  induction post with
  | nil =>
   intro pre acc τ G e h
   rw [cc] at e
   subst e
   exact⟨cT _ _ _ _ h,fin _ _ _ h⟩
  | cons d post ih =>
   intro pre acc τ G e' h
   refine⟨cT _ _ _ _ h,?_⟩
   have:=step pre d post acc τ G (fun wA xi G2=>jq g c e ok (post.map f) E wA G2 xi Q) e' h fun wA xi G2 h2=>ih (pre++[d]) xi wA G2 (by rw [e',cH]; rfl) h2
   cases c with
   | none=>exact this
   | some c=>exact this
 exact main xs [] [] τ G rfl h0
theorem gU{α:Type} [DecidableEq α] [Enc α]{xs:List α}{G:Gp}{R:List D->(Gp->Prop)->Gp->Prop}(h:R (xs.map enc) (fun _=>True) G):Se (enc xs) G R:=h
theorem kZ{α:Type} [DecidableEq α] [Enc α]{xs:List α}{G:Gp}{R:List D->(Gp->Prop)->Gp->Prop}(h:R (lg 0 (xs.map enc)) (fun _=>True) G):vG (enc xs) G R:=h
theorem zq{n:Nat}(h:n<=1000):n<=SZ:=by unfold SZ; lia
theorem Dv{n:Nat}(h:n<=1000):n < SZ:=by unfold SZ; lia
noncomputable abbrev Rows:=List (List T3)
noncomputable def T3.s(p:T3):T2:=⟨p.a,p.b⟩
structure Dr(rows:Rows):Prop where
 nd:(rows.flatten.map T3.s).Nodup
 way:∀ p∈rows.flatten,p.b=0\/p.b=1
 hand:∀ p∈rows.flatten,p.c=1\/p.c=-1
 J9:∀ p∈rows.flatten,(⟨p.a,1 - p.b,p.c⟩:T3)∈rows.flatten
 mU:rows.flatten.length<=24
 str:rows.length<=3
namespace P
noncomputable def j3:oe:=Xr (fun rows:Rows=>rows.flatten.length<=1000) fun rows=>rows.flatten
noncomputable def qV:iT :=
 (cF (bQ (nE bL) (aI 1))
 (cF (fW (lK (aw 0)) (aI 2) (iM (xV yf yJ (aw 1) (aK (aw 2) bL))))
 (dH (gz (aw 1)))))
theorem A9(ds:List D)(G:Gp)(Q:DK)(h:j3 ds G Q fun _ _=>False):qV (fun _ _=>False) (ends Q) (bU 3 ds) G:=by
 obtain⟨rows,rfl,hl,q⟩:=h
 unfold qV
 simp only [ends,bU,au,bb,ak,aG,aJ,aT,bh,cQ,bQ,nE,bL,aI,ar,ai]
 refine⟨by decide,fun p hp=>?_⟩
 refine fI (fun τ G'=>(∃ b,τ=[some (enc rows),some (.ref p),b])/\ig G G'/\G' p=some (.lst (rows.flatten.map enc))) ?_ ?_
 ·intro N hN
  simp only [fW,eW,aw,aa]
  refine gU ?_
  refine fZ (xs:=rows) (fun pre τ G'=>(∃ b,τ=[some (enc rows),some (.ref p),b])/\ig G G'/\G' p=some (.lst (pre.flatten.map enc))) ⟨⟨_,rfl⟩,.new hp,aO⟩ (fun _ _ _ _=>trivial) ?_ ?_
  ·rintro pre r post τ G' N2 e ⟨⟨b,rfl⟩,l,gp⟩ kO
   have hlen:pre.flatten.length+r.length<=rows.flatten.length:=by
    rw [e]; simp only [iQ,bW,aq]; lia
   simp only [aI,iM,xV,aw,ar,ai,ae,aa,nM,gp,aK,bL,rn,Aa (IsL.enc r),true_and]
   refine⟨zq (by simp only [ah]; lia),?_⟩
   refine kO _ _ ⟨⟨_,rfl⟩,l.put hp,?_⟩
   rw [aO]; simp
  ·rintro τ G' ⟨⟨b,rfl⟩,l,gp⟩
   exact hN _ _ ⟨⟨_,rfl⟩,l,gp⟩
 ·rintro _ G' ⟨⟨b,rfl⟩,l,gp⟩
  simp only [dH,gz,aw,ae,aa]
  exact iJ l hp gp q
theorem lO(p:T3):(enc p:D)=.tup [.int p.a,.int p.b,.int p.c]:=rfl
theorem AJ(p:T2):(enc p:D)=.tup [.int p.a,.int p.b]:=rfl
theorem T1(i:Int):(enc i:D)=.int i:=rfl
theorem Zv{a:D}{r:List D}:oz (a :: r) 0=some a:=by
 rw [kQ _ (by lia) (by simp)]; rfl
theorem Sq{a b:D}{r:List D}:oz (a :: b :: r) 1=some b:=by
 rw [kQ _ (by lia) (by simp; lia)]; rfl
theorem at2{a b c:D}{r:List D}:oz (a :: b :: c :: r) 2=some c:=by
 rw [kQ _ (by lia) (by simp; lia)]; rfl
noncomputable def names(rows:Rows):List Int:=Ly ((rows.flatten.filter fun p=>p.b == 0).map (·.a))
noncomputable def nQ:oe:=Xr (fun rows:Rows=>rows.flatten.length < 64) names
noncomputable def xA:iT :=
 (dH (gz (mD yT (aK (eI 1 [] (lK (cz j3 (aK (aw 0) bL))) (aI 0) (some (gJ (bg (xI false) (bg jt (aw 0) (dC (.int 1))) (dC (.int 0))))) (bg jt (aw 0) (dC (.int 0)))) bL))))
theorem IA(ds:List D)(G:Gp)(Q:DK)(h:nQ ds G Q fun _ _=>False):xA (fun _ _=>False) (ends Q) (bU 1 ds) G:=by
 obtain⟨rows,rfl,hl,q⟩:=h
 unfold xA
 simp only [dH,gz,mD,aK,eI,bU,au,bb,ak,aG,aT,bh,bL,ends,eW,cz,aw,aa]
 refine⟨rows,rfl,(show rows.flatten.length<=1000 by lia),gU ⟨zq (by rw [ah]; show rows.flatten.length<=1000; lia),?_⟩⟩
 refine gF (xs:=rows.flatten) (fun pre acc τ G'=>G=G'/\(∃ a,τ=[a])/\acc=((pre.filter fun p=>p.b == 0).map (·.a)).map enc) ⟨rfl,⟨_,rfl⟩,rfl⟩ (fun _ _ _ _ _=>trivial) ?_ ?_
 ·rintro pre x post acc τ G' N e ⟨rfl,⟨a,rfl⟩,rfl⟩ hN
  simp only [aI,lO,ai,bg,aw,aa,dC,g4,Zv,dD,Sq]
  refine⟨_,_,.int _,.int _,?_⟩
  simp only [aF,ud,if_false,bS]
  split
  ·rename_i h
   refine hN _ _ _ ⟨rfl,⟨_,rfl⟩,?_⟩
   simp [cZ,km,h,T1]
  ·rename_i h
   refine hN _ _ _ ⟨rfl,⟨_,rfl⟩,?_⟩
   simp [cZ,km,h]
 ·rintro acc τ G' ⟨rfl,⟨a,rfl⟩,rfl⟩ p hp
  refine KU (IsL.ref aO) (by rw [ah]; exact qx (fC _ _) hl) fun p2 hp2=>?_
  exact iJ ((ig.new hp).trans (.new hp2)) ((ig.new hp).free hp2) aO q
noncomputable def bY(row:List T3)(i:Int):List T2:=if row=[] then [⟨i,2⟩] else row.map T3.s
noncomputable def nP:oe:=aaS (fun (row:List T3) (_:Int)=>row.length<=1000) bY
noncomputable def xx:iT :=
 (cF (mZ (yp (gJ (aw 0))) (dH (gz (nE (aK (ko (aK (aw 1) (aK (dC (.int 2)) bL))) bL)))) eY)
 (dH (gz (eI 1 [] (lK (aw 0)) (aI 0) none (Ez (aw 0) gP (qr (dC (.int 2))))))))
theorem UW(p:T3):cut [D.int p.a,D.int p.b,D.int p.c] none (some 2)=[D.int p.a,D.int p.b]:=rfl
theorem Iz(ds:List D)(G:Gp)(Q:DK)(h:nP ds G Q fun _ _=>False):xx (fun _ _=>False) (ends Q) (bU 2 ds) G:=by
 obtain⟨row,i,rfl,hl,q⟩:=h
 unfold xx
 refine fI (fun τ G'=>G=G'/\τ=[some (enc row),some (enc i)]/\row≠[]) ?_ ?_
 ·intro N hN
  simp only [mZ,yp,bU,au,bb,ak,aG,aT,bh,dH,gz,nE,aK,ko,aw,ae,aa,dC,bL,ends,eY,dD]
  refine zk (IsL.enc row) ?_
  cases row with
  | nil =>
   simp only [bb,tF,bP,cY,if_true]
   refine⟨by decide,by decide,fun p hp=>iJ (xs:=[(⟨i,2⟩:T2)]) (.new hp) hp aO ?_⟩
   exact q
  | cons a r =>
   simp only [au,List.isEmpty_cons,cY,bP,aF,if_false]
   exact hN _ _ ⟨rfl,rfl,by simp⟩
 rintro _ _ ⟨rfl,rfl,kD⟩
 simp only [dH,gz,eI,ends,eW,aw,aa]
 refine gU ⟨zq (by rw [ah]; exact hl),?_⟩
 refine gF (xs:=row) (fun pre acc τ G'=>G=G'/\(∃ a,τ=[a])/\acc=(pre.map T3.s).map enc) ⟨rfl,⟨_,rfl⟩,rfl⟩ (fun _ _ _ _ _=>trivial) ?_ ?_
 ·rintro pre x post acc τ G' N e ⟨rfl,⟨a,rfl⟩,rfl⟩ hN
  simp only [aI,Ez,aw,lO,ai,aa,gP,pE,ak,aG,kd,dC,ie]
  refine⟨by decide,hN _ _ _ ⟨rfl,⟨_,rfl⟩,?_⟩⟩
  rw [aE,aE]; rfl
 ·rintro acc τ G' ⟨rfl,⟨a,rfl⟩,rfl⟩ p hp
  refine iJ (.new hp) hp aO ?_
  have:bY row i=row.map T3.s:=by unfold bY; rw [if_neg kD]
  rw [← this]; exact q
noncomputable def iX:Rows->Nat->List T2
 | [],_=>[]
 | r :: rs,k=>bY r (k:Int)++iX rs (k+1)
noncomputable def Xq(rows:Rows):List T2:=Ly (iX rows 0)
theorem AI(xs:List (List T3)):lg 0 (xs.map enc)=(xs.zipIdx 0).map fun p=>D.tup [.int (p.2:Int),enc p.1]:=by
 have:∀ (xs:List (List T3)) (k:Nat),lg k (xs.map enc)=(xs.zipIdx k).map fun p=>D.tup [.int (p.2:Int),enc p.1]:=by
  intro xs
  induction xs with
  | nil=>intro k; rfl
  | cons x xs ih=>intro k; rw [au,lg,ih,tE,au]
 exact this xs 0
theorem o9{α:Type}{xs:List α}{pre post:List (α×Nat)}{x:α×Nat}(h:xs.zipIdx 0=pre++x :: post):∃ l r,xs=l++x.1 :: r/\x.2=l.length/\pre=l.zipIdx 0:=by
 have e1:xs=(pre.map (·.1))++x.1 :: post.map (·.1):=by
  have:=congrArg (List.map (·.1)) h
  rw [gQ] at this
  rw [this]; simp
 have hl:pre.length < (xs.zipIdx 0).length:=by rw [h]; simp
 have hx:(xs.zipIdx 0)[pre.length]?=some x:=by rw [h]; simp
 refine⟨pre.map (·.1),post.map (·.1),e1,?_,?_⟩
 ·rw [List.getElem?_zipIdx] at hx
  rw [ah]
  cases q:xs[pre.length]? with
  | none=>rw [q] at hx; cases hx
  | some y=>rw [q] at hx; simp at hx; rw [← hx]
 ·have:(pre.map (·.1)).zipIdx 0=(xs.zipIdx 0).take pre.length:=by
   conv=>rhs; rw [e1,List.zipIdx_append]
   rw [List.take_append_of_le_length (by simp)]
   rw [gS (by simp)]
  rw [this,h]; simp
theorem afW{a b c:D}:cut [a,b,c] none (some 2)=[a,b]:=rfl
theorem ND{α:Type} [DecidableEq α] [Enc α](xs:List α)(G:Gp):vt (enc xs) G=some (xs.map enc,fun _=>True):=rfl
theorem NC{a:Nat}{ds:List D}{G:Gp}(h:G a=some (.lst ds)):vt (.ref a) G=some (ds,fun G2=>G2 a=some (.lst ds)):=by unfold vt; simp only [h]
theorem Fu{α β:Type} [DecidableEq α] [Enc α] [DecidableEq β] [Enc β]:∀ (xs:List α) (ys:List β),pf (xs.map enc) (ys.map enc)=(xs.zip ys).map fun p=>D.tup [enc p.1,enc p.2]
 | [],ys=>by simp [pf]
 | x :: xs,[]=>by simp [pf]
 | x :: xs,y :: ys=>by simp [pf,Fu xs ys]
theorem jU{κ α:Type} [DecidableEq κ] [Enc κ] [um κ] [DecidableEq α] [Enc α]{a:Nat}{l:List (κ×α)}{k:κ}{v:α}{G:Gp}{Q:Gp->Prop}(h:G a=some (.iO (bO l)))(hl:l.length<=1000)(q:Q (fK G a (.iO (bO (nG l k v))))):uQ (.ref a) (enc k) (enc v) G Q:=by
 unfold uQ
 simp only [h]
 refine⟨gf l k,?_,by rw [LO]; exact q⟩
 unfold bO; rw [ah]; exact Dv hl
noncomputable def ib(r:List T3):List T3:=r.drop 1++r.take 1
noncomputable def pairsOf(rows:Rows):List (T3×T3):=rows.flatMap fun r=>r.zip (ib r)
noncomputable def jA(ps:List (T3×T3)):List (T2×T2):=ps.foldl (fun l p=>nG l p.1.s p.2.s) []
theorem Cr(ps:List (T3×T3)):(jA ps).length<=ps.length:=by
 have:∀ (ps:List (T3×T3)) (l:List (T2×T2)),(ps.foldl (fun l p=>nG l p.1.s p.2.s) l).length<=l.length+ps.length:=by
  intro ps
  induction ps with
  | nil=>intro l; simp
  | cons p ps ih =>
   intro l
   rw [dQ,ak]
   have h1:=ih (nG l p.1.s p.2.s)
   have h2:=Iw l p.1.s p.2.s
   lia
 simpa [jA] using this ps []
theorem JZ(ps:List (T3×T3))(p:T3×T3):jA (ps++[p])=nG (jA ps) p.1.s p.2.s:=by unfold jA; rw [jS]; rfl
noncomputable def pC:oe:=fun ds G Q _=>∃ rows:Rows,ds=[enc rows]/\rows.flatten.length<=500/\Q (.kg (bO (jA (pairsOf rows)))) G
theorem pairs_len(rows:Rows):(pairsOf rows).length<=rows.flatten.length:=by
 unfold pairsOf
 induction rows with
 | nil=>simp
 | cons r rs ih=>simp only [iD,bW,aq,wd]; lia
noncomputable def zI:iT :=
 (cF (bQ ue (aI 1))
 (cF (fW (lK (aw 0)) (aI 2) (fW (Ko (aw 2) (bg qv (Ez (aw 2) (qr (dC (.int 1))) gP) (Ez (aw 2) gP (qr (dC (.int 1)))))) (mj (fB (aI 3) (fB (aI 4) lM))) (bQ (Ez (aw 4) gP (qr (dC (.int 2)))) (mR (aw 1) (Ez (aw 3) gP (qr (dC (.int 2))))))))
 (dH (gz (aw 1)))))
theorem K4(ds:List D)(G:Gp)(Q:DK)(h:pC ds G Q fun _ _=>False):zI (fun _ _=>False) (ends Q) (bU 5 ds) G:=by
 obtain⟨rows,rfl,hl,q⟩:=h
 unfold zI
 simp only [ends,bU,au,bb,ak,aG,aJ,aT,bh,cQ,bQ,ue,jo,aI,ar,ai]
 intro d hd
 refine fI (fun τ G'=>(∃ a b c,τ=[some (enc rows),some (.ref d),a,b,c])/\ig G G'/\G' d=some (.iO (bO (jA (pairsOf rows))))) ?_ ?_
 ·intro N hN
  simp only [fW,eW,aw,aa]
  refine gU ?_
  refine fZ (xs:=rows) (fun pre τ G'=>(∃ a b c,τ=[some (enc rows),some (.ref d),a,b,c])/\ig G G'/\G' d=some (.iO (bO (jA (pairsOf pre))))) ⟨⟨_,_,_,rfl⟩,.new hd,aO⟩ (fun _ _ _ _=>trivial) ?_ ?_
  ·rintro pre r post τ G' N2 e ⟨⟨a,b,c,rfl⟩,l,gd⟩ kO
   have hr:pre.flatten.length+r.length<=rows.flatten.length:=by
    rw [e]; simp only [iQ,bW,aq]; lia
   simp only [aI,fW,Ko,aw,ar,ai,ae,aa,bg,Ez,gP,kd,dC,ie]
   refine P6 (IsL.enc r) fun p1 h1=>?_
   refine P6 (IsL.enc r) fun p2 h2=>?_
   have d1:d≠p1:=by rintro rfl; rw [gd] at h1; cases h1
   have l1:=l.trans (ig.new (o:=.lst (cut (r.map enc) (some 1) none)) h1)
   have d2:d≠p2:=by rintro rfl; rw [dU d1,gd] at h2; cases h2
   have h12:p1≠p2:=by rintro rfl; rw [aO] at h2; cases h2
   refine S9 (IsL.ref (by rw [dU h12,aO])) (IsL.ref aO) ?_ fun p3 h3=>?_
   ·rw [vV,vV,ah,ah]
    have e1:(cut r (some 1) none).length<=r.length:=by unfold cut; rw [dW,cM]; lia
    have e2:(cut r none (some 1)).length<=r.length:=by unfold cut; rw [dW,cM]; lia
    exact zq (by lia)
   have d3:d≠p3:=by rintro rfl; rw [dU d2,dU d1,gd] at h3; cases h3
   have et:cut (r.map enc) (some 1) none++cut (r.map enc) none (some 1)=(ib r).map enc:=by
    rw [vV,vV,← aE]
    congr 1
    cases r with
    | nil=>rfl
    | cons x r=>rw [show (1:Int)=((1:Nat):Int) from rfl,RB _ _ (by simp),Wt _ _ (by simp)]; rfl
   rw [et]
   generalize hG3:fK (fK (fK G' p1 (.lst (cut (r.map enc) (some 1) none))) p2 (.lst (cut (r.map enc) none (some 1)))) p3 (.lst ((ib r).map enc))=G3
   have g3:G3 p3=some (.lst ((ib r).map enc)):=by rw [← hG3,aO]
   have gd3:G3 d=some (.iO (bO (jA (pairsOf pre)))):=by rw [← hG3,dU d3,dU d2,dU d1]; exact gd
   have l3:ig G G3:=by rw [← hG3]; exact(l1.trans (.new h2)).trans (.new h3)
   unfold tU
   rw [ND,NC g3]
   dsimp only
   rw [Fu]
   refine fZ (xs:=r.zip (ib r)) (fun pp τ G'=>(∃ a b c,τ=[some (enc rows),some (.ref d),a,b,c])/\ig G G'/\G' d=some (.iO (bO (jA (pairsOf pre++pp))))/\G' p3=some (.lst ((ib r).map enc)))
    ⟨⟨_,_,_,rfl⟩,l3,by rw [cc]; exact gd3,g3⟩ (fun _ _ _ h=>⟨trivial,h.2.2.2⟩) ?_ ?_
   ·rintro pp x post τ G4 N3 e4 ⟨⟨a,b,c,rfl⟩,l4,gd4,gp4⟩ tV
    have hz:(pairsOf pre++pp).length<=1000:=by
     have:=pairs_len pre
     have h5:pp.length < (r.zip (ib r)).length:=by rw [e4]; simp
     rw [wd] at h5
     rw [aq]; lia
    simp only [mj,fB,aI,lM,bQ,Ez,aw,lO,ar,ai,ae,aa,gP,mR,pE,ak,aG,kd,dC,ie,afW]
    refine⟨by decide,by decide,?_⟩
    refine jU (k:=x.1.s) (v:=x.2.s) gd4 (cG (Cr _) hz) ?_
    refine tV _ _ ⟨⟨_,_,_,rfl⟩,l4.put hd,?_,by rw [dU (eC d3)]; exact gp4⟩
    rw [aO,← cH,JZ]
   ·rintro τ G4 ⟨⟨a,b,c,rfl⟩,l4,gd4,gp4⟩
    refine kO _ _ ⟨⟨_,_,_,rfl⟩,l4,?_⟩
    have:pairsOf (pre++[r])=pairsOf pre++r.zip (ib r):=by unfold pairsOf; simp
    rw [this]; exact gd4
  ·rintro τ G' ⟨⟨a,b,c,rfl⟩,l,gd⟩
   exact hN _ _ ⟨⟨_,_,_,rfl⟩,l,gd⟩
 ·rintro _ G' ⟨⟨a,b,c,rfl⟩,l,gd⟩
  simp only [dH,gz,aw,ae,aa]
  exact wY l hd gd q
noncomputable def jC(s:T2):T3:=⟨s.a,s.b,0⟩
noncomputable def PZ(s:T2):T3:=⟨s.a,s.b,1⟩
noncomputable def Vk(ss:List T2):List T3:=ss.flatMap fun s=>[jC s,PZ s]
noncomputable def mr(l:List (T2×T2)):List (T2×T2):=l.foldl (fun c p=>nG c ((qe l p.1).getD p.2) p.1) []
noncomputable def vX(l ps:List (T2×T2)):List (T2×T2):=ps.foldl (fun c p=>nG c ((qe l p.1).getD p.2) p.1) []
theorem RP{κ α:Type} [DecidableEq κ] [Enc κ] [DecidableEq α] [Enc α]{l:List (κ×α)}{p:κ×α}(h:p∈l):∃ v,qe l p.1=some v:=by
 unfold qe
 cases q:l.find? (fun x=>decide (x.1=p.1)) with
 | none=>rw [List.find?_eq_none] at q; exact absurd (by simp) (q p h)
 | some x=>exact⟨_,rfl⟩
noncomputable def me:oe:=fun ds G Q _=>∃ rows:Rows,ds=[enc rows]/\rows.flatten.length<=500/\Q (.kg (bO (mr (jA (pairsOf rows))))) G
noncomputable def ve:iT :=
 (cF (bQ (cz pC (aK (aw 0) bL)) (aI 1))
 (cF (bQ ue (aI 2))
 (cF (fW (Hk (aw 1)) (aI 3) (bQ (aw 3) (mR (aw 2) (bg jt (aw 1) (aw 3)))))
 (dH (gz (aw 2))))))
theorem HX(l ps:List (T2×T2)):(vX l ps).length<=ps.length:=by
 have:∀ (ps c:List (T2×T2)),(ps.foldl (fun c p=>nG c ((qe l p.1).getD p.2) p.1) c).length<=c.length+ps.length:=by
  intro ps
  induction ps with
  | nil=>intro c; simp
  | cons p ps ih =>
   intro c
   rw [dQ,ak]
   have h1:=ih (nG c ((qe l p.1).getD p.2) p.1)
   have h2:=Iw c ((qe l p.1).getD p.2) p.1
   lia
 simpa [vX] using this ps []
theorem EY(ds:List D)(G:Gp)(Q:DK)(h:me ds G Q fun _ _=>False):ve (fun _ _=>False) (ends Q) (bU 4 ds) G:=by
 obtain⟨rows,rfl,hl,q⟩:=h
 unfold ve
 simp only [ends,bU,au,bb,ak,aG,aJ,aT,bh,cQ,bQ,cz,aK,aw,aa,bL,aI,ar,ai,ue]
 refine⟨rows,rfl,hl,?_⟩
 simp only [jo]
 intro c hc
 have hn:(jA (pairsOf rows)).length<=500:=cG (Cr _) (cG (pairs_len rows) hl)
 generalize hL:jA (pairsOf rows)=L at *
 refine fI (fun τ G'=>(∃ b,τ=[some (enc rows),some (.kg (bO L)),some (.ref c),b])/\ig G G'/\G' c=some (.iO (bO (vX L L)))) ?_ ?_
 ·intro N hN
  simp only [fW,Hk,aw,ae,aa,yN]
  have ek:(bO L).map (·.1)=L.map fun p=>enc p.1:=by unfold bO; rw [bV]; rfl
  rw [ek]
  refine fZ (xs:=L) (fun pre τ G'=>(∃ b,τ=[some (enc rows),some (.kg (bO L)),some (.ref c),b])/\ig G G'/\G' c=some (.iO (bO (vX L pre)))) ⟨⟨_,rfl⟩,.new hc,aO⟩ (fun _ _ _ _=>trivial) ?_ ?_
  ·rintro pre x post τ G' N2 e ⟨⟨b,rfl⟩,l,gc⟩ kO
   have hx:x∈L:=by rw [e]; simp
   obtain⟨v,hv⟩:=RP hx
   have NT:pre.length<=500:=by have:=congrArg dP e; simp at this; lia
   simp only [aI,bQ,aw,ar,ai,ae,aa,mR,bg,pF,jB,hv,E1]
   refine⟨gf _ _,?_⟩
   refine jU (k:=v) (v:=x.1) gc (cG (HX _ _) (by lia)) ?_
   refine kO _ _ ⟨⟨_,rfl⟩,l.put hc,?_⟩
   rw [aO]
   unfold vX
   rw [jS,dQ,Lj,hv]
   rfl
  ·rintro τ G' ⟨⟨b,rfl⟩,l,gc⟩
   exact hN _ _ ⟨⟨_,rfl⟩,l,gc⟩
 ·rintro _ G' ⟨⟨b,rfl⟩,l,gc⟩
  simp only [dH,gz,aw,ae,aa]
  exact wY l hc gc q
end P
end K2
end
section
namespace K2
open PySem (Str)
open Enc (enc)
class inductive Cn {α:Type} (ps:List (α×α)):α->α->Prop
 | refl (x:α):Cn ps x x
 | pair {x y:α}:(x,y)∈ps->Cn ps x y
 | symm {x y:α}:Cn ps x y->Cn ps y x
 | trans {x y z:α}:Cn ps x y->Cn ps y z->Cn ps x z
theorem LM{α:Type} [DecidableEq α] [Enc α]{neg:Bool}{x y:α}{G:Gp}{Q:DK}(hd:Enc.dep α<=8)(q:Q (.bl (if neg then !decide (x=y) else decide (x=y))) G):xI neg (enc x) (enc y) G Q:=by
 refine⟨enc x,enc y,Enc.sn _ _ _ hd,Enc.sn _ _ _ hd,?_⟩
 rw [Enc.eqv]; exact q
class Lb (α:Type) [DecidableEq α] [Enc α] [cA α] where
 mn:∀ {x:D} {G:Gp} {xs:List α} {Q:DK},itemsOf x G=some (xs.map enc)->xs≠[]->(∀ m∈xs,(∀ y∈xs,BG m y=true)->Q (enc m) G)->agj [x] G Q
theorem pV{α:Type} [DecidableEq α] [Enc α] [cA α]:∀ (r:List α) (a:α),r.foldl (fun m x=>if cA.lt x m=true then x else m) a∈a :: r/\∀ y∈a :: r,BG (r.foldl (fun m x=>if cA.lt x m=true then x else m) a) y=true
 | [],a=>⟨by simp,fun y hy=>by rw [List.mem_singleton.mp hy]; unfold BG; rw [Lj,cA.Sd]; rfl⟩
 | b :: r,a=>by
  rw [dQ]
  by_cases c:cA.lt b a=true
  ·rw [if_pos c]
   obtain⟨h1,h2⟩:=pV r b
   refine⟨ao _ h1,fun y hy=>?_⟩
   rcases List.mem_cons.mp hy with rfl | hy
   ·refine wO _ _ _ (h2 b (by simp)) ?_
    unfold BG
    cases q:cA.lt y b with
    | false=>rfl
    | true=>have:=cA.trans _ _ _ q c; rw [cA.Sd] at this; cases this
   ·exact h2 y hy
  ·rw [if_neg c]
   obtain⟨h1,h2⟩:=pV r a
   refine⟨?_,fun y hy=>?_⟩
   ·rcases List.mem_cons.mp h1 with h | h
    ·rw [h]; simp
    ·exact ao _ (ao _ h)
   ·rcases List.mem_cons.mp hy with rfl | hy
    ·exact h2 y (by simp)
    ·rcases List.mem_cons.mp hy with rfl | hy
     ·refine wO _ _ _ (h2 a (by simp)) ?_
      unfold BG; simpa using c
     ·exact h2 y (ao _ hy)
noncomputable instance:Lb Int where
 mn:=by
  intro x G xs Q hi kD k
  cases xs with
  | nil=>exact absurd rfl kD
  | cons a r =>
   obtain⟨h1,h2⟩:=pV r a
   refine .inl ⟨a :: r,_,hi,rfl,?_⟩
   have:(fun (m x:Int)=>if x < m then x else m)=fun m x=>if cA.lt x m=true then x else m:=by
    funext m x
    show (if x < m then x else m)=if decide (x < m)=true then x else m
    simp
   show Q (enc (r.foldl (fun m x=>if x < m then x else m) a)) G
   rw [this]
   exact k _ h1 h2
theorem Ae:∀ (x y:List Int),vB (fun a b=>decide (a < b)) x y=lexLt x y
 | [],[]=>rfl
 | [],_ :: _=>rfl
 | _ :: _,[]=>rfl
 | a :: x,b :: y=>by simp only [Af,lexLt,Ae x y]
noncomputable instance:Lb T3 where
 mn:=by
  intro x G xs Q hi kD k
  cases xs with
  | nil=>exact absurd rfl kD
  | cons a r =>
   obtain⟨h1,h2⟩:=pV r a
   have ei:itemsOf x G=some (((a :: r).map T3.l).map tI):=by rw [hi,bV]; rfl
   refine .inr ⟨(a :: r).map T3.l,_,ei,rfl,?_⟩
   have:∀ (r:List T3) (a:T3),(r.map T3.l).foldl (fun m x=>if lexLt x m=true then x else m) a.l=(r.foldl (fun m x=>if cA.lt x m=true then x else m) a).l:=by
    intro r
    induction r with
    | nil=>intro a; rfl
    | cons b r ih =>
     intro a
     rw [au,dQ,dQ]
     have e:(if lexLt b.l a.l=true then b.l else a.l)=(if cA.lt b a=true then b else a).l:=by
      have:cA.lt b a=lexLt b.l a.l:=Ae _ _
      rw [this]
      split <;> rfl
     rw [e]; exact ih _
   rw [this r a]
   exact k _ h1 h2
namespace P
section
variable {α:Type} [DecidableEq α] [Enc α] [cA α] [um α] [Lb α]
structure GI(ms:List α)(ps:List (α×α))(l:List (α×List α)):Prop where
 len:l.length<=64
 at':∀ m∈ms,∃ g,qe l m=some g/\g.Nodup/\∀ x,x∈g↔Cn ps m x
end
end P
end K2
end
section
namespace K2
open PySem (Str)
open Enc (enc)
namespace P
theorem rS{κ β:Type} [DecidableEq κ]{l:List (κ×β)}{k:κ}{v:β}(h:k∉l.map (·.1)):nG l k v=l++[(k,v)]:=by
 unfold nG
 rw [if_neg]
 intro q
 obtain⟨p,h1,h2⟩:=List.any_eq_true.mp q
 exact h (List.mem_map.mpr ⟨p,h1,by simpa using h2⟩)
theorem AB{κ β γ:Type} [DecidableEq κ](kf:γ->κ)(vf:γ->β):∀ (ps:List γ) (l:List (κ×β)),(l.map (·.1)++ps.map kf).Nodup->ps.foldl (fun l p=>nG l (kf p) (vf p)) l=l++ps.map fun p=>(kf p,vf p)
 | [],l,_=>by simp
 | p :: ps,l,h=>by
  rw [dQ,rS (fun z=>by
   rw [au,cm] at h
   exact h.2.2 _ z _ (by simp) rfl),AB kf vf ps _ (by simpa using h)]
  simp
theorem hV{κ β:Type} [DecidableEq κ]:∀ {l:List (κ×β)} {p:κ×β},(l.map (·.1)).Nodup->p∈l->qe l p.1=some p.2
 | q :: l,p,hn,h=>by
  unfold qe
  rw [gq]
  rcases List.mem_cons.mp h with rfl | h
  ·simp
  ·rw [au,cD] at hn
   have:q.1≠p.1:=fun z=>hn.1 (by rw [z]; exact aW h)
   simp only [this,decide_false]
   exact hV hn.2 h
theorem xl(r:List T3):(ib r).length=r.length:=by unfold ib; rw [aq,cM,dW]; lia
theorem Dq(r:List T3):(ib r).Perm r:=by
 unfold ib
 exact List.perm_append_comm.trans (by rw [gk])
theorem Cq(rows:Rows):(pairsOf rows).map (·.1)=rows.flatten:=by
 unfold pairsOf
 induction rows with
 | nil=>rfl
 | cons r rs ih =>
  rw [iD,aE,ih,bW]
  congr 1
  rw [List.map_fst_zip]; rw [xl]; exact aM _
theorem Cp(rows:Rows):((pairsOf rows).map (·.2)).Perm rows.flatten:=by
 unfold pairsOf
 induction rows with
 | nil=>exact .refl _
 | cons r rs ih =>
  rw [iD,aE,bW]
  refine List.Perm.append ?_ ih
  rw [List.map_snd_zip]
  ·exact Dq r
  ·rw [xl]; exact aM _
variable {rows:Rows}
theorem Rf(d:Dr rows):((pairsOf rows).map fun p=>p.1.s).Nodup:=by
 have:((pairsOf rows).map fun p=>p.1.s)=rows.flatten.map T3.s:=by rw [← Cq,bV]; rfl
 rw [this]; exact d.nd
theorem PR(d:Dr rows):((pairsOf rows).map fun p=>p.2.s).Nodup:=by
 have:((pairsOf rows).map fun p=>p.2.s)=((pairsOf rows).map (·.2)).map T3.s:=by rw [bV]; rfl
 rw [this,((Cp rows).map T3.s).nodup_iff]; exact d.nd
theorem Qr(d:Dr rows):jA (pairsOf rows)=(pairsOf rows).map fun p=>(p.1.s,p.2.s):=by
 unfold jA
 rw [AB (fun p:T3×T3=>p.1.s) (fun p=>p.2.s) _ _ (by simpa using Rf d)]; rfl
theorem KP(d:Dr rows):mr (jA (pairsOf rows))=(pairsOf rows).map fun p=>(p.2.s,p.1.s):=by
 rw [Qr d]
 generalize hL:((pairsOf rows).map fun p=>(p.1.s,p.2.s))=L
 have hk:(L.map (·.1)).Nodup:=by rw [← hL,bV]; exact Rf d
 have hv:(L.map (·.2)).Nodup:=by rw [← hL,bV]; exact PR d
 have e:mr L=L.foldl (fun c p=>nG c p.2 p.1) []:=by
  unfold mr
  have:∀ (ps:List (T2×T2)) (c:List (T2×T2)),(∀ p∈ps,p∈L)->ps.foldl (fun c p=>nG c ((qe L p.1).getD p.2) p.1) c=ps.foldl (fun c p=>nG c p.2 p.1) c:=by
   intro ps
   induction ps with
   | nil=>intro c _; rfl
   | cons p ps ih =>
    intro c h
    rw [dQ,dQ,hV hk (h p (by simp))]
    exact ih _ fun q hq=>h q (ao _ hq)
  exact this L [] fun p h=>h
 rw [e,AB (fun p:T2×T2=>p.2) (fun p=>p.1) _ _ (by simpa using hv),← hL]
 simp [bV,R3]
noncomputable def Sl(rows:Rows)(s:T2):T2:=(qe ((pairsOf rows).map fun p=>(p.2.s,p.1.s)) s).getD s
theorem RC(d:Dr rows){p q:T3}(h:(p,q)∈pairsOf rows):qe ((pairsOf rows).map fun p=>(p.2.s,p.1.s)) q.s=some p.s/\Sl rows q.s=p.s:=by
 have:=hV (l:=(pairsOf rows).map fun p=>(p.2.s,p.1.s)) (p:=(q.s,p.s)) (by rw [bV]; exact PR d) (List.mem_map.mpr ⟨_,h,rfl⟩)
 refine⟨this,?_⟩
 unfold Sl; rw [this]; rfl
theorem Q6{q:T3}(h:q∈rows.flatten):∃ p,(p,q)∈pairsOf rows/\p∈rows.flatten:=by
 rw [← (Cp rows).mem_iff] at h
 obtain⟨x,hx,rfl⟩:=List.mem_map.mp h
 exact⟨x.1,hx,by rw [← Cq]; exact aW hx⟩
theorem no2(d:Dr rows){p:T3}(h:p∈rows.flatten):p.s.b≠2:=by
 have:=d.way p h
 show p.b≠2
 lia
theorem Cs{n:Int}:n∈names rows↔∃ p∈rows.flatten,p.b=0/\p.a=n:=by
 unfold names
 rw [Lw,List.mem_map]
 constructor
 ·rintro⟨p,h,rfl⟩
  obtain⟨h1,h2⟩:=List.mem_filter.mp h
  exact⟨p,h1,by simpa using h2,rfl⟩
 ·rintro⟨p,h1,h2,rfl⟩
  exact⟨p,List.mem_filter.mpr ⟨h1,by simpa using h2⟩,rfl⟩
end P
end K2
end
section
namespace K2
open PySem (Str)
open Enc (enc)
namespace P
variable {rows:Rows}
theorem JI(rows:Rows):(iX rows 0).length<=rows.flatten.length+rows.length:=by
 have:∀ (rs:Rows) (k:Nat),(iX rs k).length<=rs.flatten.length+rs.length:=by
  intro rs
  induction rs with
  | nil=>intro k; simp [iX]
  | cons r rs ih =>
   intro k
   have:=ih (k+1)
   rw [iX,aq,bW,aq,ak]
   have:(bY r (k:Int)).length<=r.length+1:=by
    unfold bY; split <;> simp
   lia
 exact this rows 0
theorem wD(d:Dr rows):(iX rows 0).Nodup:=by
 have:∀ (rs:Rows) (k:Nat),(rs.flatten.map T3.s).Nodup->(∀ p∈rs.flatten,p.s.b≠2)->(iX rs k).Nodup/\∀ s∈iX rs k,(s.b=2/\(k:Int)<=s.a)\/(s.b≠2/\s∈rs.flatten.map T3.s):=by
  intro rs
  induction rs with
  | nil=>intro k _ _; exact⟨dh,fun s h=>by cases h⟩
  | cons r rs ih =>
   intro k hn hb
   rw [bW,aE,cm] at hn
   obtain⟨n1,n2,n3⟩:=hn
   obtain⟨i1,i2⟩:=ih (k+1) n2 fun p hp=>hb p (by rw [bW]; exact bH _ hp)
   have on:(bY r (k:Int)).Nodup/\∀ s∈bY r (k:Int),(s=⟨(k:Int),2⟩)\/(s.b≠2/\s∈r.map T3.s):=by
    unfold bY
    split
    ·exact⟨by simp,fun s h=>.inl (List.mem_singleton.mp h)⟩
    ·refine⟨n1,fun s h=>.inr ⟨?_,h⟩⟩
     obtain⟨p,hp,rfl⟩:=List.mem_map.mp h
     exact hb p (by rw [bW]; exact d6 _ hp)
   rw [iX]
   refine⟨?_,?_⟩
   ·rw [cm]
    refine⟨on.1,i1,fun a ha b Hs e=>?_⟩
    subst e
    rcases on.2 a ha with rfl | ⟨h1,h2⟩ <;> rcases i2 _ Hs with ⟨h3,h4⟩ | ⟨h3,h4⟩
    ·dsimp only at h4; lia
    ·exact h3 rfl
    ·exact h1 h3
    ·exact n3 _ h2 _ h4 rfl
   ·intro s hs
    rcases List.mem_append.mp hs with h | h
    ·rcases on.2 s h with rfl | ⟨h1,h2⟩
     ·exact .inl ⟨rfl,Jm _⟩
     ·exact .inr ⟨h1,by rw [bW,aE]; exact d6 _ h2⟩
    ·rcases i2 s h with ⟨h1,h2⟩ | ⟨h1,h2⟩
     ·exact .inl ⟨h1,by lia⟩
     ·exact .inr ⟨h1,by rw [bW,aE]; exact bH _ h2⟩
 exact(this rows 0 d.nd fun p hp=>no2 d hp).1
noncomputable def ahI(rows:Rows):List T3:=Vk (Xq rows)
end P
end K2
end
section
namespace K2
open PySem (Str)
open Enc (enc)
namespace Fg
open K2.P
noncomputable def xG:iT :=
 (cF (mZ (gJ (bg XA (aw 1) (mD nF (aK (aw 0) bL)))) (dH (gz (bg jt (aw 0) (aw 1)))) eY)
 (dH (gz (dC (.int 0)))))
noncomputable def tD(ns:List Int)(k:Int):Int:=ns.getD k.toNat 0
noncomputable def hU:oe:=fun ds G Q _=>∃ (ns:List Int) (k:Int),ds=[.fG (ns.map D.int),.int k]/\0<=k/\Q (.int (tD ns k)) G
theorem IG(ds:List D)(G:Gp)(Q:DK)(h:hU ds G Q fun _ _=>False):xG (fun _ _=>False) (ends Q) (bU 2 ds) G:=by
 obtain⟨ns,k,rfl,h0,q⟩:=h
 unfold xG
 simp only [cF,mZ,bU,au,bb,ak,aG,aT,bh,dH,gz,bg,aw,aa,ae,ends,vh,eY,dC,dD,mD,aK,bL,A0,yB,bS]
 split
 ·rename_i h
  have h1:k < (ns.map D.int).length:=by simpa using h
  rw [kQ _ h0 h1]
  simp only [dJ]
  rw [ah] at h1
  have e:tD ns k=ns[k.toNat]:=by unfold tD; rw [az,ag (by lia)]; rfl
  rw [← e]; exact mS q
 ·rename_i h
  have h1:¬ k < (ns.map D.int).length:=by simpa using h
  rw [ah] at h1
  have e:tD ns k=0:=by unfold tD; rw [az,gm (by lia)]; rfl
  rw [← e]; exact mS q
noncomputable def vb:iT :=
 (dH (gz (CS (Oe "int" (aw 0)) (Rz (Oe "bool" (aw 0))))))
noncomputable def fR:oe:=fun ds G Q _=>∃ i:Int,ds=[.int i]/\Q (.bl true) G
theorem EU(ds:List D)(G:Gp)(Q:DK)(h:fR ds G Q fun _ _=>False):vb (fun _ _=>False) (ends Q) (bU 1 ds) G:=by
 obtain⟨i,rfl,q⟩:=h
 unfold vb
 simp only [dH,gz,bU,au,bb,ak,aG,aT,bh,ends,rQ,AX,vU,aw,aa,Ay,bS]
 simpa using mS q
structure HR(G G':Gp)(p0:Nat)(as:List Nat)(rs:Rows):Prop where
 le:ig G G'
 fp:G p0=none
 gp:G' p0=some (.lst (as.map D.ref))
 np:p0∉as
 nd:as.Nodup
 fr:∀ a∈as,G a=none
 len:as.length=rs.length
 at':∀ (i a:Nat) (r:List T3),as[i]?=some a->rs[i]?=some r->G' a=some (.lst (r.map enc))
theorem HR.put{G G':Gp}{p0:Nat}{as:List Nat}{rs:Rows}(h:HR G G' p0 as rs){j a:Nat}{r':List T3}(ha:as[j]?=some a):HR G (fK G' a (.lst (r'.map enc))) p0 as (rs.set j r'):=by
 have hm:a∈as:=di ha
 have hj:j < as.length:=(List.getElem?_eq_some_iff.mp ha).1
 refine⟨h.le.put (h.fr a hm),h.fp,?_,h.np,h.nd,h.fr,by rw [cb]; exact h.len,fun i b r hb hr=>?_⟩
 ·rw [dU (by rintro rfl; exact h.np hm)]; exact h.gp
 ·by_cases e:i=j
  ·subst e
   rw [ha] at hb; cases hb
   rw [fh (by have:=h.len; lia)] at hr
   cases hr
   exact aO
  ·have:b≠a:=by
    rintro rfl
    have h1:=List.getElem?_eq_some_iff.mp hb
    have h2:=List.getElem?_eq_some_iff.mp ha
    have pw:=List.pairwise_iff_getElem.mp h.nd
    rcases Nat.lt_trichotomy i j with lt | eq | gt
    ·exact pw i j h1.1 h2.1 lt (h1.2.trans h2.2.symm)
    ·exact e eq
    ·exact pw j i h2.1 h1.1 gt (h2.2.trans h1.2.symm)
   rw [dU this]
   rw [eX (fun z=>e z.symm)] at hr
   exact h.at' i b r hb hr
theorem HR.fz{G G':Gp}{p0:Nat}{as:List Nat}{rs:Rows}(h:HR G G' p0 as rs){Q:DK}(q:Q (enc rs) G):Uo G' (.ref p0) Q:=by
 refine Rc h.le h.fp h.gp (ss:=rs.map enc) ?_ q
 have:∀ (as:List Nat) (rs:Rows),as.length=rs.length->(∀ a∈as,G a=none)->(∀ (i a:Nat) (r:List T3),as[i]?=some a->rs[i]?=some r->G' a=some (.lst (r.map enc)))->Oy G' (fun a=>(G a).isNone) (as.map D.ref) (rs.map enc):=by
  intro as
  induction as with
  | nil=>intro rs hl _ _; cases rs with
   | nil=>exact .nil
   | cons _ _=>cases hl
  | cons a as ih =>
   intro rs hl hf TU
   cases rs with
   | nil=>cases hl
   | cons r rs =>
    refine .cons (.ref (TU 0 a r rfl rfl) (by simp [hf a (by simp)]) (Oy.same _)) ?_
    exact ih rs (by simpa using hl) (fun b hb=>hf b (ao _ hb)) fun i b s h1 h2=>TU (i+1) b s h1 h2
 exact this as rs h.len h.fr h.at'
theorem FH{x:T3}{r r':List T3}(hr:r'.Perm (x :: r)):∀ (rs:Rows) (j:Nat),rs[j]?=some r->(rs.set j r').flatten.Perm (x :: rs.flatten)
 | [],j,h=>by cases h
 | s :: rs,0,h=>by
  cases h
  rw [ai,bW,bW]
  exact hr.append_right _
 | s :: rs,j+1,h=>by
  rw [ar,bW,bW]
  exact((FH hr rs j h).append_left s).trans List.perm_middle
structure MI(st:Int)(n:Nat)(name:Int)(L:List T3):Prop where
 off:∃ off:Int,0<=off/\off<=83 * n/\name=(st+off) % 999/\∀ p∈L,∃ o:Int,0 < o/\o<=off/\p.a=(st+o) % 999+1
 nd:(L.map T3.s).Nodup
 way:∀ p∈L,p.b=0\/p.b=1
 hand:∀ p∈L,p.c=1\/p.c=-1
 J9:∀ p∈L,(⟨p.a,1 - p.b,p.c⟩:T3)∈L
 len:L.length=2 * n
theorem TH{G G2:Gp}{d:D}{ds:List D}{R:List D->(Gp->Prop)->Gp->Prop}(h:IsL G d ds)(l:ig G G2)(k:∀ ok:Gp->Prop,(∀ G',ig G G'->ok G')->R ds ok G2):Se d G2 R:=by
 rcases h with rfl | ⟨a,rfl,e⟩
 ·exact k _ fun _ _=>trivial
 ·rw [Me (l a _ e)]; exact k _ fun G' l=>l a _ e
theorem GQ{r:List T3}:∀ {rs:Rows},r∈rs->r.length<=rs.flatten.length
 | a :: rs,h=>by
  rw [bW,aq]
  rcases List.mem_cons.mp h with rfl | h
  ·lia
  ·have:=GQ h; lia
theorem PC(x:T3)(r:List T3)(i:Nat):(r.take i++x :: r.drop i).Perm (x :: r):=by
 refine List.perm_middle.trans (.cons _ ?_)
 rw [gk]
end Fg
end K2
end
section
namespace K2
open PySem (Str)
open Enc (enc)
namespace Fg
open K2.P
variable {rows:Rows}
end Fg
end K2
end
section
namespace K2
open PySem (Str)
open Enc (enc)
namespace Fg
open K2.P
variable {rows:Rows}
noncomputable def z3:T3:=⟨0,0,0⟩
noncomputable def Te(r:List T3)(k:Nat):T3:=if k=0 then r.getD (r.length - 1) z3 else r.getD (k - 1) z3
noncomputable def Tf(r:List T3)(ks:List Nat):List (T3×T3):=ks.map fun k=>(Te r k,r.getD k z3)
noncomputable def ZQ(rows:Rows):List (T3×T3):=rows.flatMap fun r=>Tf r (bq r.length)
theorem Qd(r:List T3):(Tf r (bq r.length)).Perm (r.zip (ib r)):=by
 cases r with
 | nil=>exact .refl _
 | cons x t =>
  have kD:(x :: t)≠[]:=by simp
  have e1:Tf (x :: t) (bq (x :: t).length)=((x :: t).getLast kD,x) :: (x :: t).dropLast.zip t:=by
   refine E8 ?_ ?_
   ·simp [Tf]
   ·intro i h1 h2
    have eg:(Tf (x :: t) (bq (x :: t).length))[i]=(Te (x :: t) i,(x :: t).getD i z3):=by simp [Tf]
    rw [eg]
    have hi:i < (x :: t).length:=by simpa [Tf] using h1
    cases i with
    | zero =>
     simp only [List.getElem_cons_zero,Prod.mk.injEq]
     refine⟨?_,rfl⟩
     unfold Te
     rw [if_pos rfl,az,ag (by simp),List.getLast_eq_getElem]
     rfl
    | succ i =>
     rw [Pe,List.getElem_zip]
     refine Prod.ext ?_ ?_
     ·show Te (x :: t) (i+1)=_
      unfold Te
      rw [if_neg (by lia),az,ag (by lia),List.getElem_dropLast]
      rfl
     ·show (x :: t).getD (i+1) z3=t[i]'(by simpa using hi)
      rw [az,ae,ag (by simpa using hi)]
      rfl
  have e2:(x :: t).zip (ib (x :: t))=(x :: t).dropLast.zip t++[((x :: t).getLast kD,x)]:=by
   have:ib (x :: t)=t++[x]:=rfl
   rw [this]
   conv=>lhs; arg 1; rw [← List.dropLast_concat_getLast kD]
   rw [List.zip_append (by simp)]
   rfl
  rw [e1,e2]
  exact List.perm_append_comm (l₁:=[((x :: t).getLast kD,x)])
theorem Gb(rows:Rows):(ZQ rows).Perm (pairsOf rows):=by
 unfold ZQ pairsOf
 induction rows with
 | nil=>exact .refl _
 | cons r rs ih =>
  rw [iD,iD]
  exact(Qd r).append ih
end Fg
end K2
end
section
namespace K2
open PySem (Str)
open Enc (enc)
namespace K17
open K2.P
section
variable {α β:Type} [DecidableEq α] [DecidableEq β]
structure Tr(V:List α)(R:α->α->Prop)(A:List α):Prop where
 pw:A.Pairwise fun a b=>¬ R a b
 cov:∀ v∈V,∃ a∈A,R v a
 in':∀ a∈A,a∈V
structure Eqv(R:α->α->Prop):Prop where
 rf:∀ x,R x x
 sy:∀ {x y},R x y->R y x
 tr:∀ {x y z},R x y->R y z->R x z
variable {V:List α} {R:α->α->Prop}
noncomputable def it(f:α->α):Nat->α->α
 | 0,a=>a
 | n+1,a=>f (it f n a)
structure Pm(V:List α)(f:α->α):Prop where
 cl:∀ a∈V,f a∈V
 inj:∀ a∈V,∀ b∈V,f a=f b->a=b
variable {f:α->α}
theorem UE:∀ (xs ys:List α),xs.Nodup->(∀ x∈xs,x∈ys)->xs.length<=ys.length
 | [],_,_,_=>cJ _
 | x :: xs,ys,hn,h=>by
  rw [cD] at hn
  have:=UE xs (ys.erase x) hn.2 fun y hy=>(List.mem_erase_of_ne (show y≠x from fun z=>hn.1 (by rw [← z]; exact hy))).mpr (h y (ao _ hy))
  have hx:=h x (by simp)
  rw [List.length_erase_of_mem hx] at this
  have:=List.length_pos_of_mem hx
  rw [ak]; lia
end
end K17
end K2
end
section
namespace K2
namespace Bn
noncomputable def bt(d x:Nat):Bool:=Nat.beq (Nat.land (Nat.shiftRight x d) 1) 1
noncomputable def WX:Nat->List Nat->Bool
 | _,[]=>true
 | _,[_]=>true
 | 0,_=>false
 | d+1,l=>WX d (l.filter (bt d))&&WX d (l.filter fun x=>!bt d x)
theorem Qs{l:List Nat}(p:Nat->Bool)(h1:(l.filter p).Nodup)(h2:(l.filter fun x=>!p x).Nodup):l.Nodup:=by
 induction l with
 | nil=>exact dh
 | cons x l ih =>
  rw [cD]
  cases hp:p x with
  | true =>
   rw [fN hp,cD] at h1
   rw [gL (by rw [hp]; decide)] at h2
   exact⟨fun z=>h1.1 (List.mem_filter.mpr ⟨z,hp⟩),ih h1.2 h2⟩
  | false =>
   rw [gL (by rw [hp]; decide)] at h1
   rw [fN (by rw [hp]; decide),cD] at h2
   exact⟨fun z=>h2.1 (List.mem_filter.mpr ⟨z,by rw [hp]; decide⟩),ih h1 h2.2⟩
theorem Qt:∀ (d:Nat) (l:List Nat),WX d l=true->l.Nodup
 | _,[],_=>dh
 | _,[x],_=>List.nodup_cons.mpr ⟨gy,dh⟩
 | 0,_ :: _ :: _,h=>bZ (show false=true from h)
 | d+1,x :: y :: l,h=>by
  have h:(WX d ((x :: y :: l).filter (bt d))&&WX d ((x :: y :: l).filter fun x=>!bt d x))=true:=h
  rw [aP] at h
  exact Qs (bt d) (Qt d _ h.1) (Qt d _ h.2)
noncomputable def hN(t:T2):Nat:=(h2 t+9223372036854775808).toNat
noncomputable def pts:Nat->List T2
 | 0=>[]
 | n+1=>⟨((n+1:Nat):Int),0⟩ :: ⟨((n+1:Nat):Int),1⟩ :: pts n
set_option maxRecDepth 100000 in
theorem Vv:WX 64 ((pts 999).map hN)=true:=by decide +kernel
theorem JO:∀ (n:Nat) (t:T2),1<=t.a->t.a<=n->t.b=0\/t.b=1->t∈pts n
 | 0,t,h1,h2,_=>by lia
 | n+1,⟨a,b⟩,h1,h2,h3=>by
  by_cases c:a=((n+1:Nat):Int)
  ·subst c
   rcases h3 with h3 | h3
   ·have h3:b=0:=h3
    subst h3
    exact ay
   ·have h3:b=1:=h3
    subst h3
    exact ao _ ay
  ·exact ao _ (ao _ (JO n _ h1 (by have:a<=((n+1:Nat):Int):=h2; show a<=(n:Int); lia) h3))
theorem QK{α β:Type}{f:α->β}:∀ {l:List α},(l.map f).Nodup->∀ x∈l,∀ y∈l,f x=f y->x=y
 | [],_,x,hx,_,_,_=>by cases hx
 | a :: l,nd,x,hx,y,hy,e=>by
  rw [au,cD] at nd
  rcases List.mem_cons.mp hx with q | q
  ·rcases List.mem_cons.mp hy with r | r
   ·rw [q,r]
   ·exact absurd (by rw [← q,e]; exact aW r) nd.1
  ·rcases List.mem_cons.mp hy with r | r
   ·exact absurd (by rw [← r,← e]; exact aW q) nd.1
   ·exact QK nd.2 x q y r e
theorem Wh{s t:T2}(hs:(1<=s.a/\s.a<=999)/\(s.b=0\/s.b=1))(ht:(1<=t.a/\t.a<=999)/\(t.b=0\/t.b=1))(e:h2 s=h2 t):s=t :=
 QK (Qt 64 _ Vv) s (JO 999 s hs.1.1 hs.1.2 hs.2) t (JO 999 t ht.1.1 ht.1.2 ht.2) (by unfold hN; rw [e])
theorem UP:∀ (l:List T2),l.Nodup->(∀ s∈l,(1<=s.a/\s.a<=999)/\(s.b=0\/s.b=1))->(l.map h2).Nodup
 | [],_,_=>dh
 | s :: l,nd,h=>by
  rw [cD] at nd
  rw [au,cD]
  refine⟨fun z=>?_,UP l nd.2 fun t ht=>h t (ao _ ht)⟩
  obtain⟨t,ht,e⟩:=List.mem_map.mp z
  have:=Wh (h s ay) (h t (ao _ ht)) e.symm
  exact nd.1 (this ▸ ht)
end Bn
end K2
end
section
namespace K2
open PySem (Str)
open Enc (enc)
namespace Bn
open K2.P K2.Fg
noncomputable def lF(b s:T2):T2:=if s.b=1 then s else b
noncomputable def lL:T2->List T2->List (T2×T2)
 | _,[]=>[]
 | b,s :: ss=>(s,lF b s) :: lL (lF b s) ss
noncomputable def ke(ss:List T2)(k:Int):T2:=ss.foldl lF ⟨k,2⟩
noncomputable def jk(r:List T3)(k:Int):List (T2×T2):=lL (ke (bY r k) k) (bY r k)
theorem rF:∀ (a c:List T2) (b:T2),lL b (a++c)=lL b a++lL (a.foldl lF b) c
 | [],c,b=>rfl
 | s :: a,c,b=>by rw [aT,lL,lL,rF a c,aT]; rfl
theorem kE:∀ (a:List T2) (b:T2),(lL b a).map (·.1)=a
 | [],_=>rfl
 | s :: a,b=>by rw [lL,au,kE a]
theorem vJ(a:List T2)(b:T2):(lL b a).length=a.length:=by have:=congrArg dP (kE a b); rwa [ah] at this
theorem w5:∀ (l:List T2) (b:T2),l.foldl lF b=(l.reverse.find? fun s=>s.b == 1).getD b
 | [],b=>rfl
 | s :: l,b=>by
  rw [dQ,w5 l,List.reverse_cons,mx]
  cases h:l.reverse.find? fun s=>s.b == 1 with
  | some t=>rfl
  | none =>
   by_cases c:s.b=1
   ·simp [lF,c]
   ·simp [lF,c]
theorem fold_filter:∀ (l:List T2) (b:T2),l.foldl lF b=((l.filter fun s=>s.b == 1).getLast?).getD b
 | [],b=>rfl
 | s :: l,b=>by
  rw [dQ,fold_filter l]
  by_cases c:s.b=1
  ·have:(s :: l).filter (fun s=>s.b == 1)=s :: l.filter (fun s=>s.b == 1):=fN (by simp [c])
   rw [this,List.getLast?_cons,lF,if_pos c]; simp
  ·have:(s :: l).filter (fun s=>s.b == 1)=l.filter (fun s=>s.b == 1):=gL (by simp [c])
   rw [this,lF,if_neg c]
noncomputable def eK:Rows->Nat->List (T2×T2)
 | [],_=>[]
 | r :: rs,k=>jk r (k:Int)++eK rs (k+1)
theorem mI:∀ (a b:Rows) (k:Nat),eK (a++b) k=eK a k++eK b (k+a.length)
 | [],b,k=>by simp [eK]
 | r :: a,b,k=>by rw [aT,eK,eK,mI a b (k+1),cH,ak]; congr 3; lia
theorem kz:∀ (rs:Rows) (k:Nat),(eK rs k).map (·.1)=iX rs k
 | [],_=>rfl
 | r :: rs,k=>by rw [eK,iX,aE,kz rs,jk,kE]
theorem Qc(rs:Rows)(k:Nat):(eK rs k).length=(iX rs k).length:=by have:=congrArg dP (kz rs k); rwa [ah] at this
noncomputable def Bu(r:List T3)(k:Int):List T2:=(bY r k).filter fun s=>s.b == 1
noncomputable def R7(r:List T3)(k:Int):List T2:=if Bu r k=[] then [⟨k,2⟩] else Bu r k
noncomputable def zh:Rows->Nat->List T2
 | [],_=>[]
 | r :: rs,k=>R7 r (k:Int)++zh rs (k+1)
theorem pB(r:List T3)(k:Int):bY r k≠[]:=by
 unfold bY
 split
 ·simp
 ·rename_i h; simpa using h
theorem B6(b s:T2):(s.b=1/\lF b s=s)\/(s.b≠1/\lF b s=b):=by
 unfold lF
 by_cases c:s.b=1
 ·exact .inl ⟨c,if_pos c⟩
 ·exact .inr ⟨c,if_neg c⟩
theorem Ht:∀ (a:List T2) (b y:T2),y∈(lL b a).map (·.2)->(y∈a/\y.b=1)\/y=b
 | [],b,y,h=>by cases h
 | s :: a,b,y,h=>by
  rw [lL,au] at h
  rcases List.mem_cons.mp h with e | h
  ·rcases B6 b s with ⟨c,e2⟩ | ⟨_,e2⟩
   ·exact .inl ⟨by rw [e,e2]; exact ay,by rw [e,e2]; exact c⟩
   ·exact .inr (e.trans e2)
  ·rcases Ht a _ y h with ⟨h1,h2⟩ | h1
   ·exact .inl ⟨ao _ h1,h2⟩
   ·rcases B6 b s with ⟨c,e2⟩ | ⟨_,e2⟩
    ·exact .inl ⟨by rw [h1,e2]; exact ay,by rw [h1,e2]; exact c⟩
    ·exact .inr (h1.trans e2)
theorem Hu:∀ (a:List T2) (b y:T2),y∈a->y.b=1->y∈(lL b a).map (·.2)
 | [],b,y,h,_=>by cases h
 | s :: a,b,y,h,hy=>by
  rw [lL,au]
  rcases List.mem_cons.mp h with e | h
  ·subst e
   rw [show lF b y=y from if_pos hy]; exact ay
  ·exact ao _ (Hu a _ y h hy)
theorem N5:∀ (a:List T2) (b:T2),a≠[]->(a.filter fun s=>s.b == 1)=[]->b∈(lL b a).map (·.2)
 | [],b,h,_=>absurd rfl h
 | s :: a,b,_,h=>by
  have c:s.b≠1:=fun z=>by
   rw [fN (by simp [z])] at h; cases h
  rw [lL,au,show lF b s=b from if_neg c]; exact ay
theorem Mm(l:List T2)(b:T2):(l.foldl lF b∈l.filter fun s=>s.b == 1)\/((l.filter fun s=>s.b == 1)=[]/\l.foldl lF b=b):=by
 rw [fold_filter]
 cases h:(l.filter fun s=>s.b == 1).getLast? with
 | none=>exact .inr ⟨List.getLast?_eq_none_iff.mp h,rfl⟩
 | some t=>exact .inl (Sz h)
theorem Nk(r:List T3)(k:Int)(y:T2):y∈(jk r k).map (·.2)↔y∈R7 r k:=by
 unfold jk R7 Bu
 have kD:=pB r k
 generalize bY r k=ss at kD
 constructor
 ·intro h
  rcases Ht ss _ y h with ⟨h1,h2⟩ | h1
  ·have:y∈ss.filter fun s=>s.b == 1:=List.mem_filter.mpr ⟨h1,by simp [h2]⟩
   rw [if_neg (fun z=>by rw [z] at this; cases this)]; exact this
  ·unfold ke at h1
   rcases Mm ss ⟨k,2⟩ with h2 | ⟨h2,h3⟩
   ·rw [if_neg (fun z=>by rw [z] at h2; cases h2),h1]; exact h2
   ·rw [if_pos h2,h1,h3]; exact List.mem_singleton_self _
 ·intro h
  by_cases c:(ss.filter fun s=>s.b == 1)=[]
  ·rw [if_pos c] at h
   rw [List.mem_singleton.mp h]
   have:=N5 ss (ke ss k) kD c
   rcases Mm ss ⟨k,2⟩ with h2 | ⟨h2,h3⟩
   ·rw [c] at h2; cases h2
   ·unfold ke at this ⊢; rw [h3] at this ⊢; exact this
  ·rw [if_neg c] at h
   obtain⟨h1,h2⟩:=List.mem_filter.mp h
   exact Hu ss _ y h1 (by simpa using h2)
theorem vo:∀ (rs:Rows) (k:Nat) (y:T2),y∈(eK rs k).map (·.2)↔y∈zh rs k
 | [],_,_=>Iff.rfl
 | r :: rs,k,y=>by rw [eK,zh,aE,IQ,IQ,Nk,vo rs]
theorem Dj{r:List T3}{k:Int}{y:T2}(h:y∈Bu r k):y∈r.map T3.s/\y.b=1:=by
 obtain⟨h1,h2⟩:=List.mem_filter.mp h
 have h2:y.b=1:=by simpa using h2
 unfold bY at h1
 split at h1
 ·rw [List.mem_singleton.mp h1] at h2; exact absurd (show (2:Int)=1 from h2) (by decide)
 ·exact⟨h1,h2⟩
theorem Pz{r:List T3}{k:Int}{y:T2}(h:y∈R7 r k):(y∈r.map T3.s/\y.b=1)\/y=⟨k,2⟩:=by
 unfold R7 at h
 split at h
 ·exact .inr (List.mem_singleton.mp h)
 ·exact .inl (Dj h)
theorem Dk:∀ (rs:Rows) (k:Nat) (y:T2),y∈zh rs k->(y∈rs.flatten.map T3.s/\y.b=1)\/(y.b=2/\(k:Int)<=y.a)
 | [],_,_,h=>by cases h
 | r :: rs,k,y,h=>by
  rw [zh] at h
  rw [bW,aE]
  rcases List.mem_append.mp h with h | h
  ·rcases Pz h with ⟨h1,h2⟩ | rfl
   ·exact .inl ⟨d6 _ h1,h2⟩
   ·exact .inr ⟨rfl,Jm _⟩
  ·rcases Dk rs (k+1) y h with ⟨h1,h2⟩ | ⟨h1,h2⟩
   ·exact .inl ⟨bH _ h1,h2⟩
   ·exact .inr ⟨h1,by lia⟩
theorem U1{r:List T3}(k:Int)(h:(r.map T3.s).Nodup):(Bu r k).Nodup:=by
 unfold Bu bY
 split
 ·exact(qH _ (by simp))
 ·exact h.filter _
theorem U3{r:List T3}(k:Int)(h:(r.map T3.s).Nodup):(R7 r k).Nodup:=by
 unfold R7
 split
 ·simp
 ·exact U1 k h
theorem Ln:∀ (rs:Rows) (k:Nat),(rs.flatten.map T3.s).Nodup->(zh rs k).Nodup
 | [],_,_=>dh
 | r :: rs,k,h=>by
  rw [bW,aE,cm] at h
  rw [zh,cm]
  refine⟨U3 _ h.1,Ln rs (k+1) h.2.1,fun a ha b hb e=>?_⟩
  subst e
  rcases Pz ha with ⟨h1,h2⟩ | h1
  ·rcases Dk rs _ _ hb with ⟨h3,h4⟩ | ⟨h3,h4⟩
   ·exact h.2.2 a h1 a h3 rfl
   ·rw [h2] at h3; exact absurd h3 (by decide)
  ·rcases Dk rs _ _ hb with ⟨h3,h4⟩ | ⟨h3,h4⟩
   ·rw [h1] at h4; exact absurd h4 (by show ¬ (2:Int)=1; decide)
   ·rw [h1] at h4
    have h4:((k+1:Nat):Int)<=(k:Int):=h4
    lia
noncomputable def cW(rows:Rows):List T2:=Ly (zh rows 0)
theorem MD{rows:Rows}(d:Dr rows){m:List T2}(nd:m.Nodup)(h:∀ y,y∈m↔y∈(eK rows 0).map (·.2)):Ly m=cW rows :=
 Vg ((Jl nd (Ln rows 0 d.nd)).mpr fun y=>(h y).trans (vo rows 0 y))
noncomputable def cnt(r:List T3):Nat:=max 1 (r.filter fun p=>p.b == 1).length
theorem SO(r:List T3)(k:Int):(R7 r k).length=cnt r:=by
 have e:(Bu r k).length=(r.filter fun p=>p.b == 1).length:=by
  unfold Bu bY
  split
  ·rename_i h; subst h; rfl
  ·rw [List.filter_map,ah]; rfl
 unfold R7 cnt
 split
 ·rename_i h
  rw [h] at e
  have e:0=(r.filter fun p=>p.b == 1).length:=e
  rw [← e]; rfl
 ·rename_i h
  rw [e]
  have:(r.filter fun p=>p.b == 1).length≠0:=fun z=>h (List.length_eq_zero_iff.mp (e.trans z))
  lia
theorem Fy:∀ (rs:Rows) (k:Nat),(zh rs k).length=(rs.map cnt).sum
 | [],_=>rfl
 | r :: rs,k=>by rw [zh,aq,SO,Fy rs,au,fM]
theorem RK(rows:Rows):(cW rows).length=(rows.map cnt).sum:=by unfold cW; rw [Lx,Fy]
noncomputable def sD(r:List T3)(j:Nat):List T3:=(r.take (j+1)).reverse++(r.drop (j+1)).reverse
noncomputable def jn(r:List T3)(k:Int)(j:Nat):T2:=(((sD r j).find? fun p=>p.b == 1).map T3.s).getD ⟨k,2⟩
theorem Rj(l:List T3):(l.map T3.s).find? (fun s=>s.b == 1)=(l.find? fun p=>p.b == 1).map T3.s:=by
 rw [List.find?_map]; rfl
theorem wQ(r:List T3)(k:Int)(j:Nat)(hr:r≠[]):jn r k j=((bY r k).take (j+1)).foldl lF (ke (bY r k) k):=by
 have e:bY r k=r.map T3.s:=by unfold bY; rw [if_neg hr]
 rw [e]
 unfold jn sD ke
 rw [w5,w5,mx,← OG,← List.map_reverse,Rj,← List.map_reverse,Rj]
 have e2:r.reverse=(r.drop (j+1)).reverse++(r.take (j+1)).reverse:=by rw [← yu,gk]
 rw [e2,mx]
 cases h1:(r.take (j+1)).reverse.find? fun p=>p.b == 1 with
 | some t=>rfl
 | none =>
  cases h2:(r.drop (j+1)).reverse.find? fun p=>p.b == 1 with
  | some t=>rfl
  | none=>rfl
theorem Dh(r:List T3)(j:Nat):(sD r j).length=r.length:=by
 unfold sD
 rw [aq,iP,iP,← aq,gk]
theorem Jv{r:List T3}{j b:Nat}(hj:j < r.length)(hb:b < r.length):∃ p,(sD r j)[b]?=some p/\oz (r.map enc) ((j:Int) - (b:Int))=some (enc p):=by
 unfold sD
 have e1:(r.take (j+1)).length=j+1:=by rw [dW]; exact Jk hj
 have e2:(r.drop (j+1)).length=r.length - (j+1):=cM
 by_cases c:b<=j
 ·have h1:b < (r.take (j+1)).length:=by rw [e1]; exact C9 c
  have h2:j - b < r.length:=qx (OD _ _) hj
  refine⟨r[j - b],?_,?_⟩
  ·rw [dG (by rw [iP]; exact h1),wg h1,e1,qy,kr (C9 (OD _ _)),ag]
  ·rw [← Int.ofNat_sub c,kQ _ (jr _) (by rw [ah]; exact Int.ofNat_lt.mpr h2)]
   simp only [dJ,aX]
 ·obtain⟨d,hd⟩:∃ d,b=j+1+d:=⟨b - (j+1),(za (Nat.lt_of_not_le c)).symm⟩
  obtain⟨f,hf⟩:∃ f,r.length=b+1+f:=⟨r.length - (b+1),(za hb).symm⟩
  have h3:j+1+f < r.length:=by clear e1 e2 hj hb c; lia
  have h4:d < (r.drop (j+1)).length:=by rw [e2]; clear e1 e2 hj hb c h3; lia
  refine⟨r[j+1+f],?_,?_⟩
  ·rw [cC (by rw [iP,e1,hd]; exact gC _ _),iP,e1,hd,iW,wg h4,e2,Bj,show j+1+(r.length - (j+1) - 1 - d)=j+1+f by clear e1 e2 hj hb c h3 h4; lia,ag]
  ·unfold oz Ef
   rw [if_neg (by clear e1 e2 hj hb h3 h4 hf; lia),ah,if_pos (by clear e1 e2 hj hb h3 h4 c; lia)]
   show (r.map enc)[((j:Int) - (b:Int)+(r.length:Int)).toNat]?=_
   rw [show ((j:Int) - (b:Int)+(r.length:Int)).toNat=j+1+f by clear e1 e2 hj hb h3 h4 c hd; lia,bA,ag h3]; rfl
end Bn
end K2
end
section
namespace K2
open PySem (Str)
open Enc (enc)
namespace Bn
open K2.P K2.Fg
theorem eq_int(i j:Int):i7 (.int i) (.int j)=decide (i=j):=Enc.eqv i j
theorem eT{c:yr}{a b:iT}{E:lP}{K:lX}{τ:iH}{G:Gp}:mZ c a b E K τ G=c E τ G fun k G1=>if k=true then a E K τ G1 else b E K τ G1:=rfl
noncomputable def zL:iT :=
 (cF (bQ (cz nP (aK (aw 0) (aK (aw 1) bL))) (aI 2))
 (cF (bQ (eI 1 [] (lK (aw 2)) (aI 0) (some (gJ (bg (xI false) (bg jt (aw 0) (dC (.int 1))) (dC (.int 1))))) (aw 0)) (aI 3))
 (cF (bQ (Xa (gJ (aw 3)) (bg jt (aw 3) (yn FX (dC (.int 1)))) (ko (aK (aw 1) (aK (dC (.int 2)) bL)))) (aI 4))
 (cF (bQ ue (aI 5))
 (cF (fW (lK (aw 2)) (aI 6) (cF (mZ (gJ (bg (xI false) (bg jt (aw 6) (dC (.int 1))) (dC (.int 1)))) (bQ (aw 6) (aI 4)) eY)
 (bQ (aw 4) (mR (aw 5) (aw 6)))))
 (dH (gz (aw 5))))))))
noncomputable def pD:oe:=fun ds G Q _=>∃ (r:List T3) (k:Int),ds=[enc r,.int k]/\((bY r k).Nodup/\r.length<=24)/\Q (.kg (bO (jk r k))) G
theorem FE(r:List T3)(k:Int):(bY r k).length<=r.length+1:=by
 unfold bY; split
 ·simp
 ·rw [ah]; lia
theorem K7(ds:List D)(G:Gp)(Q:DK)(h:pD ds G Q fun _ _=>False):zL (fun _ _=>False) (ends Q) (bU 7 ds) G:=by
 obtain⟨r,k,rfl,⟨nd,hl⟩,q⟩:=h
 have sl:=FE r k
 have kD:=pB r k
 unfold zL
 simp only [ends,bU,au,bb,ak,aG,aJ,aT,bh,cQ,bQ,cz,aK,aw,aa,ae,bL,aI,ar,ai,eI,ue,eW]
 refine⟨r,k,rfl,by lia,?_⟩
 unfold jk at q
 generalize bY r k=ss at nd sl kD q
 refine gU ⟨zq (by rw [ah]; lia),?_⟩
 refine gF (xs:=ss) (fun pre acc τ G'=>G=G'/\(∃ a,τ=[a])/\acc=(pre.filter fun s=>s.b == 1).map enc) ⟨rfl,⟨_,rfl⟩,rfl⟩ (fun _ _ _ _ _=>trivial) ?_ ?_
 ·rintro pre x post acc τ G' N e ⟨rfl,⟨a,rfl⟩,rfl⟩ hN
  simp only [aI,AJ,ai,aw,aa,dD,bg,dC,g4,Sq]
  refine⟨_,_,.int _,.int _,?_⟩
  rw [eq_int]
  by_cases c:x.b=1
  ·simp only [aF,c,decide_true,bP,if_false,bS,if_true]
   refine hN _ _ _ ⟨rfl,⟨_,rfl⟩,?_⟩
   rw [cZ,aE,fN (by simp [c])];
   simp only [jF,au,bb,AJ,c]
  ·simp only [aF,c,decide_false,cY,if_false,bS]
   refine hN _ _ _ ⟨rfl,⟨_,rfl⟩,?_⟩
   rw [cZ,gL (by simp [c])]; simp
 ·rintro acc τ G' ⟨rfl,⟨a,rfl⟩,rfl⟩ p3 f3
  have fl:=fold_filter ss ⟨k,2⟩
  have ul:(ss.filter fun s=>s.b == 1).length<=ss.length:=fC _ _
  generalize (ss.filter fun s=>s.b == 1)=us at fl ul
  have g3:(fK G p3 (.lst (us.map enc))) p3=some (.lst (us.map enc)):=aO
  have l3:ig G (fK G p3 (.lst (us.map enc))):=.new f3
  generalize fK G p3 (.lst (us.map enc))=G3 at g3 l3
  have pick:∀ (Q2:DK) (E:lP),Q2 (enc (ke ss k)) G3->Xa (gJ (aw 3)) (bg jt (aw 3) (yn FX (dC (D.int 1)))) (ko (aK (aw 1) (aK (dC (D.int 2)) bL))) E [some (enc r),some (D.int k),some (enc ss),some (D.ref p3),none,none,none] G3 Q2:=by
   intro Q2 E q2
   simp only [Xa,bg,aw,ae,aa,yn,dC,oM,ko,aK,bL,ak,aG,dD]
   refine zk (IsL.ref g3) ?_
   cases hu:us with
   | nil =>
    simp only [bb,tF,bP,aF,if_false]
    refine⟨by decide,?_⟩
    have:ke ss k=⟨k,2⟩:=by unfold ke; rw [fl,hu]; rfl
    rw [this] at q2; exact q2
   | cons u ZG =>
    simp only [au,List.isEmpty_cons,cY,if_true]
    refine gv (IsL.ref g3) (x:=enc (ke ss k)) ?_ q2
    unfold ke
    rw [fl,List.getLast?_eq_getElem?,hu]
    unfold oz Ef
    rw [if_neg (by decide),if_pos (by simp only [ah,ak]; lia)]
    show (((u :: ZG).map enc))[((-1:Int)+(((u :: ZG).map (enc:T2->D)).length:Int)).toNat]?=_
    rw [ah,show ((-1:Int)+(((u :: ZG).length:Nat):Int)).toNat=(u :: ZG).length - 1 by simp only [ak]; lia,bA,ag (by simp)]; rfl
  refine pick _ _ ?_
  simp only [jo]
  intro p5 f5
  have n5:G p5=none:=l3.free f5
  refine fI (fun τ G'=>ig G G'/\G' p5=some (.iO (bO (lL (ke ss k) ss)))/\∃ a b c d e f,τ=[a,b,c,d,e,some (.ref p5),f]) ?_ ?_
  ·intro N hN
   simp only [fW,eW,aw,ae,aa]
   refine gU ?_
   refine fZ (xs:=ss) (fun pre τ G'=>ig G G'/\G' p5=some (.iO (bO (lL (ke ss k) pre)))/\∃ f,τ=[some (enc r),some (.int k),some (enc ss),some (.ref p3),some (enc (pre.foldl lF (ke ss k))),some (.ref p5),f]) ⟨l3.trans (.new f5),aO,_,rfl⟩ (fun _ _ _ _=>trivial) ?_ ?_
   ·rintro pre s post τ G' N2 e ⟨le,gp,f,rfl⟩ kO
    have hlp:pre.length < ss.length:=by have:=congrArg dP e; simp at this; lia
    have QZ:s∉(lL (ke ss k) pre).map (·.1):=fun z=>by
     rw [kE] at z
     rw [e,cm] at nd
     exact nd.2.2 s z s ay rfl
    have gl:=vJ pre (ke ss k)
    refine fI (fun τ G2=>G'=G2/\τ=[some (enc r),some (.int k),some (enc ss),some (.ref p3),some (enc (lF (pre.foldl lF (ke ss k)) s)),some (.ref p5),some (enc s)]) ?_ ?_
    ·intro N3 tV
     simp only [AJ,ar,ai,eT,bQ,aw,ae,aa,aI,eY,dD,bg,dC,g4,Sq]
     refine⟨_,_,.int _,.int _,?_⟩
     rw [eq_int]
     by_cases c:s.b=1
     ·simp only [aF,c,decide_true,bP,if_false,bS,if_true]
      refine tV _ _ ⟨rfl,?_⟩
      rw [show lF (pre.foldl lF (ke ss k)) s=s from if_pos c]
      simp only [AJ,c]
     ·simp only [aF,c,decide_false,cY,if_false,bS]
      refine tV _ _ ⟨rfl,?_⟩
      rw [show lF (pre.foldl lF (ke ss k)) s=pre.foldl lF (ke ss k) from if_neg c]
      simp only [AJ]
    ·rintro _ _ ⟨rfl,rfl⟩
     simp only [bQ,aw,ae,aa,mR]
     refine P.jU (k:=s) (v:=lF (pre.foldl lF (ke ss k)) s) gp (by lia) ?_
     refine kO _ _ ⟨le.put n5,?_,some (enc s),?_⟩
     ·rw [aO,rF,rS QZ]; rfl
     ·rw [jS]; rfl
   ·rintro τ G' ⟨le,gp,f,rfl⟩
    exact hN _ _ ⟨le,gp,_,_,_,_,_,_,rfl⟩
  ·rintro _ G' ⟨le,gp,a,b,c,d,e,f,rfl⟩
   simp only [dH,gz,aw,ae,aa]
   exact wY le n5 gp q
noncomputable def Ck:iT :=
 (cF (bQ ue (aI 1))
 (cF (fW (rz (aw 0)) (mj (fB (aI 2) (fB (aI 3) lM))) (iM (xV ZH Qv (aw 1) (aK (gz (cz pD (aK (aw 3) (aK (aw 2) bL)))) bL))))
 (dH (gz (aw 1)))))
noncomputable def NB(rows:Rows):Prop:=∀ p∈rows.flatten,1<=p.a/\p.a<=999
noncomputable def eQ:oe:=fun ds G Q _=>∃ rows:Rows,ds=[enc rows]/\(Dr rows/\NB rows)/\Q (.kg (bO (eK rows 0))) G
theorem JN{rows:Rows}(d:Dr rows){r:List T3}(h:r∈rows):(r.map T3.s).Nodup:=by
 obtain⟨a,b,e⟩:=Bl h
 have:=d.nd
 rw [e,iQ,bW,aE,aE,cm,cm] at this
 exact this.2.1.1
theorem rY{rows:Rows}(d:Dr rows){r:List T3}(h:r∈rows):r.length<=24:=by
 obtain⟨a,b,e⟩:=Bl h
 have:=d.mU
 rw [e,iQ,bW,aq,aq] at this
 lia
theorem JH{r:List T3}(k:Int)(h:(r.map T3.s).Nodup):(bY r k).Nodup:=by
 unfold bY; split
 ·simp
 ·exact h
theorem pG{rows:Rows}(d:Dr rows):(eK rows 0).length<=27:=by
 rw [Qc]
 have:=JI rows
 have:=d.mU
 have:=d.str
 lia
theorem Vx{rows:Rows}(d:Dr rows)(nb:NB rows){r:List T3}(h:r∈rows)(k:Int):((jk r k).map fun p=>h2 p.1).Nodup:=by
 have e:((jk r k).map fun p=>h2 p.1)=(bY r k).map h2:=by
  rw [← kE (bY r k) (ke (bY r k) k),bV]; rfl
 rw [e]
 by_cases c:r=[]
 ·subst c
  exact List.nodup_cons.mpr ⟨gy,dh⟩
 ·have es:bY r k=r.map T3.s:=by unfold bY; rw [if_neg c]
  rw [es]
  refine UP _ (JN d h) fun s hs=>?_
  obtain⟨p,hp,rfl⟩:=List.mem_map.mp hs
  have UJ:p∈rows.flatten:=List.mem_flatten.mpr ⟨r,h,hp⟩
  exact⟨nb p UJ,d.way p UJ⟩
theorem Ow(ds:List D)(G:Gp)(Q:DK)(h:eQ ds G Q fun _ _=>False):Ck (fun _ _=>False) (ends Q) (bU 4 ds) G:=by
 obtain⟨rows,rfl,⟨d,nb⟩,q⟩:=h
 have mU:=pG d
 unfold Ck
 simp only [ends,bU,au,bb,ak,aG,aJ,aT,bh,cQ,bQ,ue,jo,aI,ar,ai]
 intro p hp
 refine fI (fun τ G'=>(∃ a b,τ=[some (enc rows),some (.ref p),a,b])/\ig G G'/\G' p=some (.iO (bO (eK rows 0)))) ?_ ?_
 ·intro N hN
  simp only [fW,rz,aw,aa]
  refine kZ ?_
  rw [AI]
  refine fZ (xs:=rows.zipIdx 0) (fun pre τ G'=>(∃ a b,τ=[some (enc rows),some (.ref p),a,b])/\ig G G'/\G' p=some (.iO (bO (eK (pre.map (·.1)) 0)))) ⟨⟨_,_,rfl⟩,.new hp,aO⟩ (fun _ _ _ _=>trivial) ?_ ?_
  ·rintro pre x post τ G' N2 e ⟨⟨a,b,rfl⟩,l,gp⟩ kO
   obtain⟨jC,PZ,e1,e2,e3⟩:=o9 e
   have hx:x.1∈rows:=by rw [e1]; simp
   have ep:pre.map (·.1)=jC:=by rw [e3,gQ]
   rw [ep] at gp
   have eL:eK rows 0=(eK jC 0++jk x.1 (x.2:Int))++eK PZ (jC.length+1):=by
    rw [e1,mI,eK,e2,fT,cH]
   have hlen:(eK jC 0).length+(jk x.1 (x.2:Int)).length<=27:=by
    rw [eL,aq,aq] at mU; lia
   have knd:((eK jC 0++jk x.1 (x.2:Int)).map (·.1)).Nodup:=by
    have:=wD d
    rw [← kz,eL,aE,cm] at this
    exact this.1
   simp only [mj,fB,aI,lM,iM,xV,aw,ar,ai,ae,aa,Dm,gp,aK,gz,cz,bL,true_and]
   refine⟨x.1,_,rfl,⟨JH _ (JN d hx),rY d hx⟩,mS ?_⟩
   refine⟨eK jC 0,jk x.1 (x.2:Int),gp,rfl,⟨by lia,knd,fun _=>Vx d nb hx _⟩,?_⟩
   refine kO _ _ ⟨⟨_,_,rfl⟩,l.put hp,?_⟩
   rw [aO,aE,ep]
   simp only [au,bb]
   rw [mI,eK,eK,cc,e2,fT]
  ·rintro τ G' ⟨⟨a,b,rfl⟩,l,gp⟩
   rw [gQ] at gp
   exact hN _ _ ⟨⟨_,_,rfl⟩,l,gp⟩
 ·rintro _ G' ⟨⟨a,b,rfl⟩,l,gp⟩
  simp only [dH,gz,aw,ae,aa]
  exact wY l hp gp q
noncomputable def LF:iT :=
 (dH (gz (mD su (aK (KL (cz eQ (aK (aw 0) bL))) bL))))
noncomputable def gH:oe:=fun ds G Q _=>∃ rows:Rows,ds=[enc rows]/\(Dr rows/\NB rows/\rows≠[])/\Q (enc (cW rows)) G
theorem DL{rows:Rows}(h:rows≠[]):1<=(eK rows 0).length:=by
 cases rows with
 | nil=>exact absurd rfl h
 | cons r rs =>
  rw [eK,aq,jk,vJ]
  have:=List.length_pos_iff.mpr (pB r ((0:Nat):Int))
  lia
theorem Um(ds:List D)(G:Gp)(Q:DK)(h:gH ds G Q fun _ _=>False):LF (fun _ _=>False) (ends Q) (bU 1 ds) G:=by
 obtain⟨rows,rfl,⟨d,nb,kD⟩,q⟩:=h
 have mU:=pG d
 have pos:=DL kD
 unfold LF
 simp only [dH,gz,mD,aK,KL,cz,aw,bU,au,bb,ak,aG,aT,bh,aa,bL,ends]
 refine⟨rows,rfl,⟨d,nb⟩,⟨eK rows 0,rfl,by lia,fun p1 f1=>?_⟩⟩
 refine⟨(eK rows 0).map (·.2),?_,by rw [ah]; lia,fun m nd hm p2 f2=>?_⟩
 ·unfold ql; simp only [aO]; rw [bV]; rfl
 ·rw [MD d nd hm]
  refine iJ ((ig.new f1).trans (.new f2)) ((ig.new f1).free f2) aO q
end Bn
end K2
end
section
namespace K2
open PySem (Str)
open Enc (enc)
namespace Bn
open K2.P K2.Fg
theorem SI{r:List T3}{j b:Nat}{z:Int}(hj:j < r.length)(hb:b < r.length)(hz:z=(j:Int)\/(z=-1/\j+1=r.length)):∃ p,(sD r j)[b]?=some p/\oz (r.map enc) (z - (b:Int))=some (enc p):=by
 rcases hz with rfl | ⟨rfl,e⟩
 ·exact Jv hj hb
 ·obtain⟨f,hf⟩:∃ f,r.length=b+1+f:=⟨r.length - (b+1),(za hb).symm⟩
  have h3:f < r.length:=by rw [hf,Nat.add_right_comm]; exact C9 (Nat.le_add_left _ _)
  refine⟨r[f],?_,?_⟩
  ·unfold sD
   rw [gS (by rw [e]; exact aM _),List.drop_of_length_le (by rw [e]; exact aM _),List.reverse_nil,cc,wg hb,show r.length - 1 - b=f by rw [hf,Nat.add_right_comm,qy,iW],ag]
  ·unfold oz Ef
   rw [if_neg (by clear e hj hb hf h3; lia),ah,if_pos (by clear e hj hb h3; lia)]
   show (r.map enc)[((-1:Int) - (b:Int)+(r.length:Int)).toNat]?=_
   rw [show ((-1:Int) - (b:Int)+(r.length:Int)).toNat=f by clear e hj hb h3; lia,bA,ag h3]; rfl
noncomputable def zJ:iT :=
 (cF (fW (mP (mD nF (aK (aw 0) bL))) (aI 3) (mZ (gJ (bg (xI false) (bg jt (bg jt (aw 0) (bg tL (aw 2) (aw 3))) (dC (.int 1))) (dC (.int 1)))) (dH (gz (Ez (bg jt (aw 0) (bg tL (aw 2) (aw 3))) gP (qr (dC (.int 2)))))) eY))
 (dH (gz (ko (aK (aw 1) (aK (dC (.int 2)) bL))))))
noncomputable def jL:oe:=fun ds G Q _=>∃ (r:List T3) (k z:Int) (j:Nat),ds=[enc r,.int k,.int z]/\(j < r.length/\r.length<=24)/\(z=(j:Int)\/(z=-1/\j+1=r.length))/\Q (enc (jn r k j)) G
theorem K5(ds:List D)(G:Gp)(Q:DK)(h:jL ds G Q fun _ _=>False):zJ (fun _ _=>False) (ends Q) (bU 4 ds) G:=by
 obtain⟨r,k,z,j,rfl,⟨hj,hl⟩,hz,q⟩:=h
 unfold zJ
 refine fI (fun τ G'=>G=G'/\(∀ p∈sD r j,p.b≠1)/\∃ a,τ=[some (enc r),some (.int k),some (.int z),a]) ?_ ?_
 ·intro N hN
  simp only [fW,bU,au,bb,ak,aG,aJ,aT,bh,ends,gE,mD,aK,aw,aa,bL]
  refine kP (IsL.enc r) ?_
  simp only [ah,fO]
  refine⟨by lia,by lia,?_⟩
  rw [aX]
  refine w4 (fun pre τ G'=>G=G'/\(∀ i,i < pre.length->∀ p,(sD r j)[i]?=some p->p.b≠1)/\∃ a,τ=[some (enc r),some (.int k),some (.int z),a]) ⟨rfl,fun i hi=>absurd hi (cE _),_,rfl⟩ (fun _ _ _ _=>trivial) ?_ ?_
  ·rintro pre x post τ G' N2 e ⟨rfl,hv,a,rfl⟩ kO
   obtain⟨rfl,lG⟩:=jN e
   obtain⟨p,hp,ha⟩:=SI hj lG hz
   simp only [aI,ar,ai,eT,dH,gz,Ez,bg,aw,aa,ae,gP,kd,dC,ie,iq,eY,dD]
   refine gv (IsL.enc r) ha ?_
   simp only [lO,g4,Sq]
   refine⟨_,_,.int _,.int _,?_⟩
   rw [eq_int]
   by_cases c:p.b=1
   ·simp only [aF,c,decide_true,bP,if_false,bS,if_true]
    refine gv (IsL.enc r) ha ?_
    simp only [lO,pE,ak,aG]
    refine⟨by decide,mS ?_⟩
    have:jn r k j=p.s:=by
     unfold jn
     have:(sD r j).find? (fun p=>p.b == 1)=some p:=by
      rw [List.find?_eq_some_iff_getElem]
      have hi:=(List.getElem?_eq_some_iff.mp hp)
      refine⟨by simp [c],pre.length,hi.1,hi.2,fun m hm=>?_⟩
      have:=hv m hm _ (ag (Sy hm hi.1))
      simp [this]
     rw [this]; rfl
    rw [this] at q
    exact q
   ·simp only [aF,c,decide_false,cY,if_false,bS]
    refine kO _ _ ⟨rfl,fun i hi p' UJ=>?_,_,rfl⟩
    rw [aq,bp] at hi
    by_cases z:i=pre.length
    ·subst z; rw [hp] at UJ; cases UJ; exact c
    ·exact hv i (by lia) p' UJ
  ·rintro τ G' ⟨rfl,hv,a,rfl⟩
   refine hN _ _ ⟨rfl,fun p hp=>?_,_,rfl⟩
   obtain⟨i,hi,e⟩:=da hp
   refine hv i ?_ p (by rw [ag hi,e])
   rw [Dh] at hi
   simpa [dR] using hi
 ·rintro _ _ ⟨rfl,hv,a,rfl⟩
  simp only [dH,gz,ko,aK,aw,ae,aa,dC,bL,ak,aG,ends]
  refine⟨by decide,mS ?_⟩
  have:jn r k j=⟨k,2⟩:=by
   unfold jn
   have:(sD r j).find? (fun p=>p.b == 1)=none:=by
    rw [List.find?_eq_none]
    intro p hp z
    exact hv p hp (by simpa using z)
   rw [this]; rfl
  rw [this] at q; exact q
noncomputable def vd:iT :=
 (cF (bQ ue (aI 1))
 (cF (fW (rz (aw 0)) (mj (fB (aI 2) (fB (aI 3) lM))) (cF (mZ (gJ (bg (xI false) (aw 3) (nE bL))) (bQ (ko (aK (aw 2) (aK (dC (.int 2)) bL))) (mR (aw 1) (ko (aK (aw 2) (aK (dC (.int 2)) bL))))) eY)
 (fW (mP (mD nF (aK (aw 3) bL))) (aI 4) (bQ (cz jL (aK (aw 3) (aK (aw 2) (aK (aw 4) bL)))) (mR (aw 1) (Ez (bg jt (aw 3) (aw 4)) gP (qr (dC (.int 2)))))))))
 (dH (gz (aw 1)))))
noncomputable def dq:oe:=eQ
theorem JC{α:Type}{l:List α}{j:Nat}(h:j < l.length):l.take (j+1)=l.take j++[l[j]]:=by rw [rT h]
theorem EX(ds:List D)(G:Gp)(Q:DK)(h:dq ds G Q fun _ _=>False):vd (fun _ _=>False) (ends Q) (bU 5 ds) G:=by
 obtain⟨rows,rfl,⟨d,_⟩,q⟩:=h
 have mU:=pG d
 unfold vd
 simp only [ends,bU,au,bb,ak,aG,aJ,aT,bh,cQ,bQ,ue,jo,aI,ar,ai]
 intro p hp
 refine fI (fun τ G'=>(∃ a b c,τ=[some (enc rows),some (.ref p),a,b,c])/\ig G G'/\G' p=some (.iO (bO (eK rows 0)))) ?_ ?_
 ·intro N hN
  simp only [fW,rz,aw,aa]
  refine kZ ?_
  rw [AI]
  refine fZ (xs:=rows.zipIdx 0) (fun pre τ G'=>(∃ a b c,τ=[some (enc rows),some (.ref p),a,b,c])/\ig G G'/\G' p=some (.iO (bO (eK (pre.map (·.1)) 0)))) ⟨⟨_,_,_,rfl⟩,.new hp,aO⟩ (fun _ _ _ _=>trivial) ?_ ?_
  ·rintro pre x post τ G' N2 e ⟨⟨a,b,c,rfl⟩,l,gp⟩ kO
   obtain⟨jC,PZ,e1,e2,e3⟩:=o9 e
   have hx:x.1∈rows:=by rw [e1]; simp
   have ep:pre.map (·.1)=jC:=by rw [e3,gQ]
   rw [ep] at gp
   have eL:eK rows 0=(eK jC 0++jk x.1 (x.2:Int))++eK PZ (jC.length+1):=by
    rw [e1,mI,eK,e2,fT,cH]
   have hlen:(eK jC 0).length+(jk x.1 (x.2:Int)).length<=27:=by
    rw [eL,aq,aq] at mU; lia
   have knd:((eK jC 0++jk x.1 (x.2:Int)).map (·.1)).Nodup:=by
    have:=wD d
    rw [← kz,eL,aE,cm] at this
    exact this.1
   have eN:eK ((pre++[x]).map (·.1)) 0=eK jC 0++jk x.1 (x.2:Int):=by
    rw [aE,ep]
    simp only [au,bb]
    rw [mI,eK,eK,cc,e2,fT]
   rw [eN] at kO
   have rl:=rY d hx
   obtain⟨r,k⟩:=x
   simp only at hlen knd kO rl
   generalize hL0:eK jC 0=L0 at hlen knd kO gp
   simp only [mj,fB,aI,lM,ar,ai]
   by_cases hr:r=[]
   ·subst hr
    have ePr:jk [] (k:Int)=[((⟨k,2⟩:T2),(⟨k,2⟩:T2))]:=rfl
    rw [ePr] at kO hlen knd
    have QZ:(⟨k,2⟩:T2)∉L0.map (·.1):=fun z=>by
     rw [aE,cm] at knd
     exact knd.2.2 _ z _ (by simp) rfl
    refine fI (fun τ G2=>ig G G2/\G2 p=some (.iO (bO (L0++[((⟨k,2⟩:T2),(⟨k,2⟩:T2))])))/\τ=[some (enc rows),some (.ref p),some (.int k),some (enc ([]:List T3)),c]) ?_ ?_
    ·intro N3 tV
     simp only [eT,bQ,ko,aK,aw,ae,aa,dC,bL,ak,aG,eY,dD,bg,nE]
     refine⟨by decide,fun p2 f2=>?_⟩
     refine⟨_,_,.FR,.ref aO .FR,?_⟩
     have:i7 (.fG []) (.fG [])=true:=rfl
     simp only [aF,this,bP,if_false,mR,aw,ae,aa,ko,aK,dC,bL,ak,aG,bS,if_true]
     refine⟨by decide,?_⟩
     have np:p≠p2:=fun z=>by rw [← z,gp] at f2; cases f2
     refine⟨by decide,P.jU (k:=(⟨k,2⟩:T2)) (v:=(⟨k,2⟩:T2)) (l:=L0) ((ig.new f2) _ _ gp) (by simp only [ak,aG] at hlen; lia) ?_⟩
     refine tV _ _ ⟨(l.trans (.new f2)).put hp,?_,rfl⟩
     rw [aO,rS QZ]
    ·rintro _ G2 ⟨l2,g2,rfl⟩
     simp only [fW,gE,mD,aK,aw,ae,aa,bL]
     refine kP (IsL.enc ([]:List T3)) ?_
     simp only [bb,aG,fO]
     refine⟨by decide,by decide,?_⟩
     refine w4 (fun pre τ G'=>pre=[]/\G2=G'/\τ=[some (enc rows),some (.ref p),some (.int k),some (enc ([]:List T3)),c]) ⟨rfl,rfl,rfl⟩ (fun _ _ _ _=>trivial) ?_ ?_
     ·rintro pre y post τ G3 N3 e4 _ _
      have:=congrArg dP e4
      simp [dR] at this
     ·rintro τ G3 ⟨_,rfl,rfl⟩
      exact kO _ _ ⟨⟨_,_,_,rfl⟩,l2,g2⟩
   ·refine fI (fun τ G2=>ig G G2/\G2 p=some (.iO (bO L0))/\τ=[some (enc rows),some (.ref p),some (.int k),some (enc r),c]) ?_ ?_
    ·intro N3 tV
     simp only [eT,bQ,ko,aK,aw,ae,aa,dC,bL,ak,aG,eY,dD,bg,nE]
     refine⟨by decide,fun p2 f2=>?_⟩
     refine⟨_,_,Enc.sn _ _ _ (by decide),.ref aO .FR,?_⟩
     have:i7 (enc r) (.fG [])=false:=by
      have:=Enc.eqv r []
      rw [show (enc ([]:List T3):D)=.fG [] from rfl] at this
      rw [this]; simp [hr]
     simp only [aF,this,cY,if_false,bS]
     exact tV _ _ ⟨l.trans (.new f2),(ig.new f2) _ _ gp,rfl⟩
    ·rintro _ G2 ⟨l2,g2,rfl⟩
     have es:bY r (k:Int)=r.map T3.s:=by unfold bY; rw [if_neg hr]
     have ss:(bY r (k:Int)).length=r.length:=by rw [es,ah]
     simp only [fW,gE,mD,aK,aw,ae,aa,bL]
     refine kP (IsL.enc r) ?_
     simp only [ah,fO]
     refine⟨by lia,by lia,?_⟩
     rw [aX]
     refine w4 (fun pre τ G'=>ig G G'/\G' p=some (.iO (bO (L0++lL (ke (bY r k) k) ((bY r k).take pre.length))))/\∃ a,τ=[some (enc rows),some (.ref p),some (.int k),some (enc r),a]) ⟨l2,by rw [aG,x8]; show _=some (GO.iO (bO (L0++[]))); rw [cc]; exact g2,_,rfl⟩ (fun _ _ _ _=>trivial) ?_ ?_
     ·rintro pr y po τ G3 N3 e4 ⟨l3,g3,a,rfl⟩ tV
      obtain⟨rfl,lG⟩:=jN e4
      have ha:oz (r.map enc) ((pr.length:Nat):Int)=some (enc r[pr.length]):=by
       rw [kQ _ (by lia) (by rw [ah]; lia)]
       simp only [dJ,aX]
      simp only [aI,bQ,cz,aK,aw,ar,ai,ae,aa,bL,mR,Ez,bg,gP,kd,dC,ie]
      refine⟨r,k,_,pr.length,rfl,⟨lG,rl⟩,.inl rfl,?_⟩
      refine gv (IsL.enc r) ha ?_
      simp only [lO,pE,ak,aG,UW]
      have et:(bY r (k:Int)).take (pr.length+1)=(bY r (k:Int)).take pr.length++[(r[pr.length]).s]:=by
       rw [JC (by lia)]; congr 2; simp [es]
      have ev:jn r k pr.length=lF (((bY r (k:Int)).take pr.length).foldl lF (ke (bY r k) k)) (r[pr.length]).s:=by
       rw [wQ r k pr.length hr,et,jS]; rfl
      have QZ:(r[pr.length]).s∉(L0++lL (ke (bY r k) k) ((bY r k).take pr.length)).map (·.1):=fun z=>by
       have e5:jk r (k:Int)=lL (ke (bY r k) k) ((bY r k).take pr.length)++lL (((bY r k).take pr.length).foldl lF (ke (bY r k) k)) ((bY r k).drop pr.length):=by
        unfold jk
        rw [← rF,gk]
       rw [e5,← cH,aE,cm] at knd
       refine knd.2.2 _ z _ ?_ rfl
       rw [kE,List.mem_drop_iff_getElem]
       exact⟨0,by lia,by simp [es]⟩
      refine⟨by decide,P.jU (k:=(r[pr.length]).s) (v:=jn r k pr.length) g3 ?_ ?_⟩
      ·rw [aq,vJ,dW]; lia
      ·refine tV _ _ ⟨l3.put hp,?_,_,rfl⟩
       rw [aO,rS QZ,aq,bp,et,rF,ev,cH]; rfl
     ·rintro τ G3 ⟨l3,g3,a,rfl⟩
      refine kO _ _ ⟨⟨_,_,_,rfl⟩,l3,?_⟩
      rw [g3,show (dR 0 r.length).length=r.length by simp [dR],gS (by lia)]; rfl
  ·rintro τ G' ⟨⟨a,b,c,rfl⟩,l,gp⟩
   rw [gQ] at gp
   exact hN _ _ ⟨⟨_,_,_,rfl⟩,l,gp⟩
 ·rintro _ G' ⟨⟨a,b,c,rfl⟩,l,gp⟩
  simp only [dH,gz,aw,ae,aa]
  exact wY l hp gp q
end Bn
end K2
end
section
namespace K2
open PySem (Str)
open Enc (enc)
namespace Bn
open K2.P
open K2.Fg
noncomputable def xH:iT :=
 (cF (bQ (cz dq (aK (aw 0) bL)) (aI 1))
 (dH (gz (mD su (aK (eI 1 [1] (Hk (aw 1)) (aI 0) none (bg jt (aw 1) (aw 0))) bL)))))
noncomputable def dM:oe:=gH
theorem wG{rows:Rows}(d:Dr rows):((eK rows 0).map (·.1)).Nodup:=by rw [kz]; exact wD d
theorem IH(ds:List D)(G:Gp)(Q:DK)(h:dM ds G Q fun _ _=>False):xH (fun _ _=>False) (ends Q) (bU 2 ds) G:=by
 obtain⟨rows,rfl,⟨d,nb,kD⟩,q⟩:=h
 have mU:=pG d
 have pos:=DL kD
 have bo:=fun m nd hm=>MD (m:=m) d nd hm
 have knd:=wG d
 unfold xH
 simp only [ends,bU,au,bb,ak,aG,aJ,aT,bh,cQ,bQ,cz,aK,aw,aa,bL,aI,dH,gz,mD,eI,ar,ai]
 refine⟨rows,rfl,⟨d,nb⟩,?_⟩
 generalize eK rows 0=l at mU pos bo knd
 simp only [Hk,aw,ae,aa,yN]
 have ek:(bO l).map (·.1)=l.map fun p=>enc p.1:=by unfold bO; rw [bV]; rfl
 rw [ek]
 refine⟨zq (by rw [ah]; lia),?_⟩
 refine gF (xs:=l) (f:=fun p=>enc p.1) (fun pre acc τ G'=>G=G'/\(∃ a,τ=[a,some (.kg (bO l))])/\acc=pre.map fun p=>enc p.2) ⟨rfl,⟨_,rfl⟩,rfl⟩ (fun _ _ _ _ _=>trivial) ?_ ?_
 ·rintro pre x post acc τ G' N e ⟨rfl,⟨a,rfl⟩,rfl⟩ hN
  have hx:x∈l:=by rw [e]; simp
  simp only [aI,bg,aw,ai,ae,aa,pF,jB,hV knd hx,E1]
  exact⟨gf _ _,hN _ _ _ ⟨rfl,⟨_,rfl⟩,by rw [aE]; rfl⟩⟩
 ·rintro acc τ G' ⟨rfl,⟨a,rfl⟩,rfl⟩ p1 f1
  refine⟨l.map (·.2),?_,by rw [ah]; lia,fun m nd hm p2 f2=>?_⟩
  ·unfold ql; simp only [aO]; rw [bV]; rfl
  ·rw [bo m nd hm]
   exact iJ ((ig.new f1).trans (.new f2)) ((ig.new f1).free f2) aO q
theorem iA{rows:Rows}(d:Dr rows):(cW rows).length<=27:=by
 rw [RK]
 have h1:=d.mU
 have h2:=d.str
 have go:∀ rs:Rows,(rs.map cnt).sum<=rs.flatten.length+rs.length:=fun rs=>by
  induction rs with
  | nil=>exact aM _
  | cons r rs ih =>
   rw [au,fM,bW,aq,ak]
   have:cnt r<=r.length+1:=by
    unfold cnt
    have:=fC (fun p:T3=>p.b == 1) r
    lia
   lia
 have:=go rows
 lia
theorem EA{i:Nat}{t:iT}{E:lP}{K:lX}{τ:iH}{G:Gp}:Ws i t E K τ G=t E { K with nx:=fun o8 G1=>match o8[i]? with
 | some (some d)=>Uo G1 d fun t G2=>K.nx (o8.set i (some t)) G2
 | _=>False } τ G:=rfl
end Bn
end K2
end
section
namespace K2
open PySem (Str)
open Enc (enc)
namespace K8
open K2.P
open K2.Bn (NB gH eQ dq dM eK jk lL rF kE vJ ke lF cW zh R7 Bu jn wQ sD Jv Dh wG pG kz mI vo iA rY JN eq_int eT pB DL)
open K2.Fg (Te Tf ZQ Gb z3)
variable {rows:Rows}
noncomputable def hm(rows:Rows)(s:T2):T2:=(qe (eK rows 0) s).getD s
theorem vH(d:Dr rows){s:T2}(h:s∈iX rows 0):qe (eK rows 0) s=some (hm rows s)/\hm rows s∈cW rows:=by
 rw [← kz] at h
 obtain⟨p,hp,rfl⟩:=List.mem_map.mp h
 have e:=hV (wG d) hp
 have e2:hm rows p.1=p.2:=by unfold hm; rw [e]; rfl
 refine⟨by rw [e2]; exact e,?_⟩
 rw [e2]
 unfold cW
 exact Lw.mpr ((vo rows 0 _).mp (aW hp))
theorem nO:∀ (rs:Rows) (k:Nat) {p:T3},p∈rs.flatten->p.s∈iX rs k
 | [],_,_,h=>by cases h
 | r :: rs,k,p,h=>by
  rw [bW] at h
  rw [iX]
  rcases List.mem_append.mp h with h | h
  ·refine d6 _ ?_
   unfold bY
   rw [if_neg (fun z=>by rw [z] at h; cases h)]
   exact aW h
  ·exact bH _ (nO rs (k+1) h)
theorem sd(d:Dr rows){n:Int}(h:n∈names rows)(w:Int)(hw:w=0\/w=1):∃ p∈rows.flatten,p.s=⟨n,w⟩:=by
 obtain⟨p,hp,e1,e2⟩:=Cs.mp h
 rcases hw with rfl | rfl
 ·exact⟨p,hp,by rw [← e2,← e1]; rfl⟩
 ·refine⟨_,d.J9 p hp,?_⟩
  rw [e1,e2]; rfl
theorem Ml:∀ (a:List T2) (b:T2) (j:Nat) (h:j < a.length),(a[j],(a.take (j+1)).foldl lF b)∈lL b a
 | [],_,_,h=>absurd h (cE _)
 | s :: a,b,0,h=>ay
 | s :: a,b,j+1,h=>ao _ (Ml a (lF b s) j (by simpa using h))
theorem Qb{jC PZ:Rows}{r:List T3}{x:T2×T2}(h:x∈jk r (jC.length:Int)):x∈eK (jC++r :: PZ) 0:=by
 rw [mI,eK]
 refine bH _ (d6 _ ?_)
 rw [fT]; exact h
theorem Q0(d:Dr rows){jC PZ:Rows}{r:List T3}(e:rows=jC++r :: PZ){j:Nat}(hj:j < r.length):hm rows (r[j]).s=jn r (jC.length:Int) j:=by
 have hr:r≠[]:=fun z=>by rw [z] at hj; exact absurd hj (cE _)
 have es:bY r (jC.length:Int)=r.map T3.s:=by unfold bY; rw [if_neg hr]
 have m:((r[j]).s,jn r (jC.length:Int) j)∈eK rows 0:=by
  rw [e]
  refine Qb ?_
  rw [wQ r _ j hr]
  have:=Ml (bY r (jC.length:Int)) (ke (bY r (jC.length:Int)) (jC.length:Int)) j (by rw [es,ah]; exact hj)
  have e2:(bY r (jC.length:Int))[j]'(by rw [es,ah]; exact hj)=(r[j]).s:=by simp [es]
  rw [e2] at this
  exact this
 unfold hm
 rw [hV (wG d) m]; rfl
theorem V9(d:Dr rows){p:T3}(hp:p∈rows.flatten)(hb:p.b=1):hm rows p.s=p.s:=by
 obtain⟨r,hr,hpr⟩:=List.mem_flatten.mp hp
 obtain⟨jC,PZ,e⟩:=Bl hr
 obtain⟨j,hj,rfl⟩:=da hpr
 rw [Q0 d e hj]
 unfold jn
 have:(sD r j).find? (fun p=>p.b == 1)=some r[j]:=by
  unfold sD
  have e3:(r.take (j+1)).reverse=r[j] :: (r.take j).reverse:=by rw [← rT hj,yu]; rfl
  rw [e3,aT,lZ (by simp [hb])]
 rw [this]; rfl
theorem T9(d:Dr rows){r:List T3}(hr:r∈rows){j:Nat}(hj:j < r.length):Sl rows (r[j]).s=(r[(j+r.length - 1) % r.length]'(jX _ (by lia))).s:=by
 have m:(Te r j,r.getD j z3)∈pairsOf rows:=by
  rw [← (Gb rows).mem_iff]
  unfold ZQ
  refine List.mem_flatMap.mpr ⟨r,hr,?_⟩
  unfold Tf
  exact List.mem_map.mpr ⟨j,List.mem_range.mpr hj,rfl⟩
 have e1:r.getD j z3=r[j]:=by rw [az,ag hj]; rfl
 have e2:Te r j=r[(j+r.length - 1) % r.length]'(jX _ (by lia)):=by
  unfold Te
  by_cases c:j=0
  ·subst c
   rw [if_pos rfl,az,ag (by lia)]
   show r[r.length - 1]=_
   congr 1
   rw [fT,uq (by lia)]
  ·obtain⟨i,rfl⟩:=Nat.exists_eq_succ_of_ne_zero c
   have hi:i < r.length:=Nat.lt_of_succ_lt hj
   rw [if_neg c,az,Nat.succ_sub_one,ag hi]
   show r[i]=_
   congr 1
   rw [show i.succ+r.length - 1=i+r.length by rw [E2]; rfl,Nat.add_mod_right,uq hi]
 rw [e1,e2] at m
 exact(RC d m).2
noncomputable def ix(rows:Rows)(s:T2):Int:=((cW rows).idxOf s:Nat)
noncomputable def uy(rows:Rows)(n:Int):T3:=⟨ix rows (hm rows ⟨n,0⟩),ix rows (hm rows (Sl rows ⟨n,1⟩)),ix rows (hm rows ⟨n,1⟩)⟩
theorem QG{s:T2}(h:s∈cW rows):0<=ix rows s/\ix rows s < (cW rows).length:=by
 unfold ix
 have:=IS h
 lia
theorem oO{x:D}{G:Gp}{l:List T2}{n:T2}{Q:DK}(h:IsL G x (l.map enc))(hn:n∈l)(q:Q (.int ((l.idxOf n:Nat):Int)) G):pO x [enc n] G Q:=by
 refine⟨pz h,l.map enc,enc n,l.map enc,mO h,Enc.sn _ _ _ (by decide),zu (α:=T2) _ 7 (by decide) l,?_⟩
 have e:(l.map enc).findIdx? (i7 · (enc n))=some (l.idxOf n):=by
  rw [List.findIdx?_map]
  have:((fun x=>i7 x (enc n))∘(enc:T2->D))=fun y=>y == n:=by
   funext y
   show i7 (enc y) (enc n)=(y == n)
   rw [Enc.eqv]; rfl
  rw [this,List.findIdx?_eq_some_iff_getElem]
  have hi:=IS hn
  exact⟨hi,by simp,fun j hj=>by
   have:=List.not_of_lt_findIdx (p:=(· == n)) (xs:=l) hj
   simpa using this⟩
 rw [e]
 exact q
theorem agI(a b c:D):oz [a,b,c] 2=some c:=rfl
theorem xc(d:Dr rows){p:T3}(h:p∈rows.flatten):qe (mr (jA (pairsOf rows))) p.s=some (Sl rows p.s)/\Sl rows p.s∈iX rows 0:=by
 obtain⟨q,hq,hqf⟩:=Q6 h
 rw [KP d]
 have:=RC d hq
 exact⟨by rw [this.2]; exact this.1,by rw [this.2]; exact nO rows 0 hqf⟩
noncomputable def va:iT :=
 (cF (bQ (cz gH (aK (aw 0) bL)) (aI 1))
 (cF (bQ (cz eQ (aK (aw 0) bL)) (aI 2))
 (cF (bQ (cz me (aK (aw 0) bL)) (aI 3))
 (cF (bQ (nE bL) (aI 4))
 (cF (fW (lK (cz nQ (aK (aw 0) bL))) (aI 5) (cF (bQ (ko (aK (bg jt (aw 2) (ko (aK (aw 5) (aK (dC (.int 0)) bL)))) (aK (bg jt (aw 2) (bg jt (aw 3) (ko (aK (aw 5) (aK (dC (.int 1)) bL))))) (aK (bg jt (aw 2) (ko (aK (aw 5) (aK (dC (.int 1)) bL)))) bL)))) (aI 6))
 (iM (xV yf mi (aw 4) (aK (ko (aK (xV yf pO (aw 1) (aK (bg jt (aw 6) (dC (.int 0))) bL)) (aK (xV yf pO (aw 1) (aK (bg jt (aw 6) (dC (.int 1))) bL)) (aK (xV yf pO (aw 1) (aK (bg jt (aw 6) (dC (.int 2))) bL)) bL)))) bL)))))
 (dH (gz (aw 4))))))))
noncomputable def gu:oe:=fun ds G Q _=>∃ rows:Rows,ds=[enc rows]/\(Dr rows/\NB rows/\rows≠[])/\Q (enc ((names rows).map (uy rows))) G
theorem wL(d:Dr rows):(names rows).length<=24:=by
 unfold names
 rw [Lx,ah]
 exact cG (fC _ _) d.mU
theorem ET(ds:List D)(G:Gp)(Q:DK)(h:gu ds G Q fun _ _=>False):va (fun _ _=>False) (ends Q) (bU 7 ds) G:=by
 obtain⟨rows,rfl,⟨d,nb,kD⟩,q⟩:=h
 have mU:=d.mU
 have nf:=wL d
 unfold va
 simp only [ends,bU,au,bb,ak,aG,aJ,aT,bh,cQ,bQ,cz,aK,aw,aa,bL,aI,ar,ai,nE]
 refine⟨rows,rfl,⟨d,nb,kD⟩,?_⟩
 refine⟨rows,rfl,⟨d,nb⟩,?_⟩
 refine⟨rows,rfl,by lia,?_⟩
 simp only [gz,bU,ends,dD,bg,yn,aw,mD,xV,aK,bL,dH,UT,iM,bQ,aI,dC,eY,ko,nE,ue,vU,KO,OV,yp,rQ,MB,AX,Ez,kd,gP,eW,gE,cz,eI,iw,FY,vm,vk,iq,iu,eS,jb,oM,yB,yC,LK,LL,g4,vh,pE,DI,DJ,A0,Ib,CV,iZ,rn,rm,qk,nM,Dm,Lp,Lo,true_and,and_true,Mc,Mb,ie,bS,fO,Ay,L9,Hi,au,bb,aT,bh,aa,ae,ai,ar,ak,aG,aJ,if_true,if_false,bP,cY,aF,cQ,uR]
 refine⟨by decide,fun p hp=>?_⟩
 refine fI (fun τ G'=>ig G G'/\G' p=some (.lst (((names rows).map (uy rows)).map enc))/\∃ a b c e f g,τ=[a,b,c,e,some (.ref p),f,g]) ?_ ?_
 ·intro N hN
  simp only [fW,eW,cz,aK,aw,aa,bL]
  refine⟨rows,rfl,(show rows.flatten.length < 64 by lia),?_⟩
  refine gU ?_
  refine fZ (xs:=names rows) (f:=D.int) (fun pre τ G'=>ig G G'/\G' p=some (.lst ((pre.map (uy rows)).map enc))/\∃ f g,τ=[some (enc rows),some (enc (cW rows)),some (.kg (bO (eK rows 0))),some (.kg (bO (mr (jA (pairsOf rows))))),some (.ref p),f,g]) ⟨.new hp,aO,_,_,rfl⟩ (fun _ _ _ _=>trivial) ?_ ?_
  ·rintro pre n post τ G' N2 e ⟨le,gp,f,g,rfl⟩ kO
   have hn:n∈names rows:=by rw [e]; simp
   have hlp:pre.length < (names rows).length:=by have:=congrArg dP e; simp at this; lia
   obtain⟨p0,m0,e0⟩:=sd d hn 0 (.inl rfl)
   obtain⟨p1,m1,e1⟩:=sd d hn 1 (.inr rfl)
   have a0:=vH d (s:=⟨n,0⟩) (by rw [← e0]; exact nO rows 0 m0)
   have a1:=vH d (s:=⟨n,1⟩) (by rw [← e1]; exact nO rows 0 m1)
   obtain⟨c1,c2⟩:=xc d m1
   rw [e1] at c1 c2
   have a2:=vH d c2
   have l0:look (bO (eK rows 0)) (.tup [.int n,.int 0])=some (enc (hm rows ⟨n,0⟩)):=by
    have:=jB (eK rows 0) (⟨n,0⟩:T2)
    rw [a0.1] at this; exact this
   have l1:look (bO (eK rows 0)) (.tup [.int n,.int 1])=some (enc (hm rows ⟨n,1⟩)):=by
    have:=jB (eK rows 0) (⟨n,1⟩:T2)
    rw [a1.1] at this; exact this
   have l2:look (bO (mr (jA (pairsOf rows)))) (.tup [.int n,.int 1])=some (enc (Sl rows ⟨n,1⟩)):=by
    have:=jB (mr (jA (pairsOf rows))) (⟨n,1⟩:T2)
    rw [c1] at this; exact this
   have l3:look (bO (eK rows 0)) (enc (Sl rows ⟨n,1⟩))=some (enc (hm rows (Sl rows ⟨n,1⟩))):=by
    have:=jB (eK rows 0) (Sl rows ⟨n,1⟩)
    rw [a2.1] at this; exact this
   simp only [aI,ar,ai,cQ,bQ,ko,aK,bg,aw,ae,aa,dC,bL,ak,aG,iM,xV,nM,iZ,g4,pF,l1,l2,l3,l0]
   refine⟨by decide,gf (eK rows 0) (⟨n,0⟩:T2),by decide,gf (mr (jA (pairsOf rows))) (⟨n,1⟩:T2),gf _ _,by decide,gf (eK rows 0) (⟨n,1⟩:T2),by decide,?_⟩
   simp only [gp,true_and]
   have il:IsL G' (enc (cW rows)) ((cW rows).map enc):=IsL.enc _
   refine⟨pz il,?_⟩
   simp only [Zv,Sq,agI]
   refine oO il a0.2 ⟨pz il,oO il a2.2 ⟨pz il,oO il a1.2 ⟨by decide,?_⟩⟩⟩
   simp only [gp]
   refine⟨Dv (by rw [ah,ah]; lia),kO _ _ ⟨le.put hp,?_,_,_,rfl⟩⟩
   rw [aO,aE,aE]; rfl
  ·rintro τ G' ⟨le,gp,f,g,rfl⟩
   exact hN _ _ ⟨le,gp,_,_,_,_,_,_,rfl⟩
 ·rintro _ G' ⟨le,gp,a,b,c,e,f,g,rfl⟩
  simp only [dH,gz,aw,ae,aa]
  exact iJ le hp gp q
end K8
end K2
end
section
namespace K2
open PySem (Str)
open Enc (enc)
namespace K8
open K2.P
open K2.Bn (NB gH eQ dq dM cW eq_int eT)
variable {rows:Rows}
noncomputable def P3(p:Int):Prop:=p=3\/p=5\/p=7
theorem RT{p:Int}:([3,5,7]:List Int).contains p=true↔P3 p:=by
 unfold P3
 simp
noncomputable def qi:iT :=
 (mZ (gJ (T7 true [3,5,7] (aw 0))) RA eY)
noncomputable def gb:oe:=fun ds G Q _=>∃ p:Int,ds=[.int p]/\P3 p/\Q .du G
theorem yt(ds:List D)(G:Gp)(Q:DK)(h:gb ds G Q fun _ _=>False):qi (fun _ _=>False) (ends Q) (bU 1 ds) G:=by
 obtain⟨p,rfl,hp,q⟩:=h
 unfold qi
 simp only [ends,bU,au,bb,ak,aG,aT,bh,eT,eY,dD,T7,aw,aa,if_true,bS]
 refine⟨p,rfl,?_⟩
 rw [RT.mpr hp]
 simp only [bP,aF,if_false]
 exact q
noncomputable def num(ns:List Int)(i:Int):Int:=ns.getD i.toNat 0
noncomputable def kp(ns:List Int)(p:Int)(t:T3):Bool:=decide ((2 * num ns t.a - num ns t.b - num ns t.c) % p=0)
structure In(ns:List Int)(t:T3):Prop where
 a:0<=t.a/\t.a < ns.length
 b:0<=t.b/\t.b < ns.length
 c:0<=t.c/\t.c < ns.length
noncomputable def Sm(ns:List Int):Prop:=∀ i,0<=num ns i/\num ns i < 100
theorem JW{ns:List Int}{i:Int}(h:0<=i/\i < ns.length):oz (ns.map D.int) i=some (.int (num ns i)):=by
 rw [kQ _ h.1 (by rw [ah]; exact h.2)]
 simp only [dJ]
 unfold num
 rw [az,ag (by lia)]; rfl
noncomputable def Dw:oe:=fun ds G Q _=>∃ (ts:List T3) (p:Int) (d:D) (ns:List Int),ds=[enc ts,.int p,d]/\IsL G d (ns.map D.int)/\(ts.length<=100/\0 < p/\Sm ns/\∀ t∈ts,In ns t)/\Q (.bl (ts.all (kp ns p))) G
theorem tJ(d:Dr rows){ns:List Int}(hl:ns.length=(cW rows).length){n:Int}(hn:n∈names rows):In ns (uy rows n):=by
 obtain⟨p0,m0,e0⟩:=sd d hn 0 (.inl rfl)
 obtain⟨p1,m1,e1⟩:=sd d hn 1 (.inr rfl)
 have a0:=vH d (s:=⟨n,0⟩) (by rw [← e0]; exact nO rows 0 m0)
 have a1:=vH d (s:=⟨n,1⟩) (by rw [← e1]; exact nO rows 0 m1)
 have c2:=(xc d m1).2
 rw [e1] at c2
 have a2:=vH d c2
 exact⟨by rw [hl]; exact QG a0.2,by rw [hl]; exact QG a2.2,by rw [hl]; exact QG a1.2⟩
end K8
end K2
end
section
namespace K2
open PySem (Str)
open Enc (enc)
namespace K8
open K2.P
open K2.Fg (hU tD)
open K2.Bn (NB gH eQ dq dM eK cW eq_int eT jn sD Jv Dh rY wG pG iA)
variable {rows:Rows}
noncomputable def vc:iT :=
 (cF (fW (lK (aw 0)) (mj (fB (aI 3) (fB (aI 4) (fB (aI 5) lM)))) (mZ (gJ (bg (xI true) (bg lI (bg tL (bg tL (bg sI (dC (.int 2)) (bg jt (aw 2) (aw 3))) (bg jt (aw 2) (aw 4))) (bg jt (aw 2) (aw 5))) (aw 1)) (dC (.int 0)))) (dH (gz (dC (.bl false)))) eY))
 (dH (gz (dC (.bl true)))))
noncomputable def ja:oe:=Dw
theorem EW(ds:List D)(G:Gp)(Q:DK)(h:ja ds G Q fun _ _=>False):vc (fun _ _=>False) (ends Q) (bU 6 ds) G:=by
 obtain⟨ts,p,d,ns,rfl,hd,⟨hl,hp,sm,NV⟩,q⟩:=h
 unfold vc
 refine fI (fun τ G'=>G=G'/\(ts.all (kp ns p)=true)/\∃ a b c,τ=[some (enc ts),some (.int p),some d,a,b,c]) ?_ ?_
 ·intro N hN
  simp only [fW,bU,au,bb,ak,aG,aJ,aT,bh,ends,eW,aw,aa]
  refine gU ?_
  refine fZ (xs:=ts) (fun pre τ G'=>G=G'/\(pre.all (kp ns p)=true)/\∃ a b c,τ=[some (enc ts),some (.int p),some d,a,b,c]) ⟨rfl,rfl,_,_,_,rfl⟩ (fun _ _ _ _=>trivial) ?_ ?_
  ·rintro pre t post τ G' N2 e ⟨rfl,ha,a,b,c,rfl⟩ kO
   have it:=NV t (by rw [e]; simp)
   have s1:=sm t.a
   have s2:=sm t.b
   have s3:=sm t.c
   simp only [mj,lO,fB,aI,lM,ar,ai,eT,dH,gz,dC,eY,dD,bg,aw,ae,aa]
   refine gv hd (JW it.a) ?_
   simp only [iu]
   refine⟨.inl ⟨by decide,by decide⟩,gv hd (JW it.b) (gv hd (JW it.c) ?_)⟩
   simp only [iq,eS]
   refine⟨hp,_,_,.int _,.int _,?_⟩
   rw [eq_int]
   have ek:kp ns p t=decide ((2 * num ns t.a - num ns t.b - num ns t.c) % p=0):=rfl
   rw [← ek]
   cases hk:kp ns p t with
   | true =>
    simp only [bP,if_true,bS,aF,if_false]
    refine kO _ _ ⟨rfl,?_,_,_,_,rfl⟩
    rw [List.all_append,ha,oD,hk]; rfl
   | false =>
    simp only [cY,if_true,bS]
    have:ts.all (kp ns p)=false:=by rw [e,List.all_append,oD,hk,yd,ye]
    rw [this] at q
    exact mS q
  ·rintro τ G' ⟨rfl,ha,a,b,c,rfl⟩
   exact hN _ _ ⟨rfl,ha,_,_,_,rfl⟩
 ·rintro _ _ ⟨rfl,ha,a,b,c,rfl⟩
  simp only [dH,gz,dC,ends]
  rw [ha] at q
  exact mS q
end K8
end K2
end
section
namespace K2
open PySem (Str)
open Enc (enc)
namespace K8
open K2.P
open K2.Fg (hU tD)
open K2.Bn (NB gH eQ dq dM jL eK cW eq_int eT jn rY wG pG iA)
variable {rows:Rows}
noncomputable def sE(rs:Rows):List T3:=rs.flatten.filter fun p=>p.b == 1
theorem MS(pre:Rows)(r:List T3):sE (pre++[r])=sE pre++r.filter fun p=>p.b == 1:=by
 unfold sE; rw [iQ,List.flatten_singleton,cZ]
theorem qP(d:Dr rows){p:T3}(hp:p∈rows.flatten)(hb:p.b=1):p.a∈names rows:=by
 refine Cs.mpr ⟨_,d.J9 p hp,?_,rfl⟩
 show 1 - p.b=0
 lia
theorem A5(d:Dr rows)(f:T3->Bool):((names rows).map (uy rows)).all f=((sE rows).map fun p=>uy rows p.a).all f:=by
 rw [o1,ft,ft]
 constructor
 ·intro h t ht
  obtain⟨p,hp,rfl⟩:=List.mem_map.mp ht
  obtain⟨h1,h2⟩:=List.mem_filter.mp hp
  exact h _ (aW (qP d h1 (by simpa using h2)))
 ·intro h t ht
  obtain⟨n,hn,rfl⟩:=List.mem_map.mp ht
  obtain⟨p,hp,e⟩:=sd d hn 1 (.inr rfl)
  have ea:p.a=n:=congrArg T2.a e
  have eb:p.b=1:=congrArg T2.b e
  have:=h (uy rows p.a) (List.mem_map.mpr ⟨p,List.mem_filter.mpr ⟨hp,by simp [eb]⟩,rfl⟩)
  rw [ea] at this; exact this
noncomputable def tm:iT :=
 (cF (bQ (cz dq (aK (aw 0) bL)) (aI 1))
 (cF (bQ (cz dM (aK (aw 0) bL)) (aI 2))
 (cF (bQ (nE bL) (aI 3))
 (cF (fW (rz (aw 0)) (mj (fB (aI 4) (fB (aI 5) lM))) (fW (mP (mD nF (aK (aw 5) bL))) (aI 6) (mZ (gJ (bg (xI false) (bg jt (bg jt (aw 5) (aw 6)) (dC (.int 1))) (dC (.int 1)))) (cF (bQ (xV yf pO (aw 2) (aK (bg jt (aw 1) (ko (aK (bg jt (bg jt (aw 5) (aw 6)) (dC (.int 0))) (aK (dC (.int 0)) bL)))) bL)) (aI 7))
 (cF (bQ (xV yf pO (aw 2) (aK (cz jL (aK (aw 5) (aK (aw 4) (aK (bg tL (aw 6) (dC (.int 1))) bL)))) bL)) (aI 8))
 (iM (xV yf mi (aw 3) (aK (ko (aK (aw 7) (aK (aw 8) (aK (xV yf pO (aw 2) (aK (Ez (bg jt (aw 5) (aw 6)) gP (qr (dC (.int 2)))) bL)) bL)))) bL))))) eY)))
 (dH (gz (aw 3)))))))
noncomputable def iE:oe:=fun ds G Q _=>∃ rows:Rows,ds=[enc rows]/\(Dr rows/\NB rows/\rows≠[])/\Q (enc ((sE rows).map fun p=>uy rows p.a)) G
theorem BV(ds:List D)(G:Gp)(Q:DK)(h:iE ds G Q fun _ _=>False):tm (fun _ _=>False) (ends Q) (bU 9 ds) G:=by
 obtain⟨rows,rfl,⟨d,nb,kD⟩,q⟩:=h
 have mU:=d.mU
 unfold tm
 simp only [ends,bU,au,bb,ak,aG,aJ,aT,bh,cQ,bQ,cz,aK,aw,aa,bL,aI,ar,ai,nE]
 refine⟨rows,rfl,⟨d,nb⟩,?_⟩
 refine⟨rows,rfl,⟨d,nb,kD⟩,?_⟩
 simp only [gz,bU,ends,dD,bg,yn,aw,mD,xV,aK,bL,dH,UT,iM,bQ,aI,dC,eY,ko,nE,ue,vU,KO,OV,yp,rQ,MB,AX,Ez,kd,gP,eW,gE,cz,eI,iw,FY,vm,vk,iq,iu,eS,jb,oM,yB,yC,LK,LL,g4,vh,pE,DI,DJ,A0,Ib,CV,iZ,rn,rm,qk,nM,Dm,Lp,Lo,true_and,and_true,Mc,Mb,ie,bS,fO,Ay,L9,Hi,au,bb,aT,bh,aa,ae,ai,ar,ak,aG,aJ,if_true,if_false,bP,cY,aF,cQ,uR]
 refine⟨by decide,fun p hp=>?_⟩
 refine fI (fun τ G'=>ig G G'/\G' p=some (.lst (((sE rows).map fun p=>uy rows p.a).map enc))/\∃ a b c e f g i h,τ=[a,b,c,some (.ref p),e,f,g,i,h]) ?_ ?_
 ·intro N hN
  simp only [fW,rz,aw,aa]
  refine kZ ?_
  rw [AI]
  refine fZ (xs:=rows.zipIdx 0) (fun pre τ G'=>ig G G'/\G' p=some (.lst (((sE (pre.map (·.1))).map fun p=>uy rows p.a).map enc))/\∃ e f g i h,τ=[some (enc rows),some (.kg (bO (eK rows 0))),some (enc (cW rows)),some (.ref p),e,f,g,i,h]) ⟨.new hp,aO,_,_,_,_,_,rfl⟩ (fun _ _ _ _=>trivial) ?_ ?_
  ·rintro pre x post τ G' N2 e ⟨le,gp,b1,b2,b3,b4,b5,rfl⟩ kO
   obtain⟨jC,PZ,e1,e2,e3⟩:=o9 e
   have hx:x.1∈rows:=by rw [e1]; simp
   have ep:pre.map (·.1)=jC:=by rw [e3,gQ]
   rw [ep] at gp
   have eN:sE ((pre++[x]).map (·.1))=sE jC++x.1.filter fun p=>p.b == 1:=by
    rw [aE,ep]
    exact MS jC x.1
   rw [eN] at kO
   have rl:=rY d hx
   have ul:(sE jC).length<=24:=by
    have h1:jC.flatten.length<=rows.flatten.length:=by rw [e1,iQ,aq]; lia
    exact cG (fC _ _) (by lia)
   obtain⟨r,k⟩:=x
   simp only at e1 e2 hx rl kO
   subst e2
   simp only [mj,fB,aI,lM,fW,ar,ai,gE,mD,aK,aw,ae,aa,bL]
   refine kP (IsL.enc r) ?_
   simp only [ah,fO]
   refine⟨by lia,by lia,?_⟩
   rw [aX]
   refine w4 (fun pr τ G2=>ig G G2/\G2 p=some (.lst (((sE jC++(r.take pr.length).filter fun p=>p.b == 1).map fun p=>uy rows p.a).map enc))/\∃ g i h,τ=[some (enc rows),some (.kg (bO (eK rows 0))),some (enc (cW rows)),some (.ref p),some (.int (jC.length:Int)),some (enc r),g,i,h]) ⟨le,by rw [aG,x8,jF,cc]; exact gp,_,_,_,rfl⟩ (fun _ _ _ _=>trivial) ?_ ?_
   ·rintro pr y po τ G2 N3 e4 ⟨l2,g2,c1,c2,c3,rfl⟩ tV
    obtain⟨rfl,lG⟩:=jN e4
    have ha:oz (r.map enc) ((pr.length:Nat):Int)=some (enc r[pr.length]):=by
     rw [kQ _ (by lia) (by rw [ah]; lia)]
     simp only [dJ,aX]
    have hpf:r[pr.length]∈rows.flatten:=List.mem_flatten.mpr ⟨r,hx,cq lG⟩
    have et:r.take (pr.length+1)=r.take pr.length++[r[pr.length]]:=by rw [rT lG]
    simp only [aI,ar,ai,eT,cQ,bQ,xV,aw,ae,aa,aK,bg,ko,dC,bL,ak,aG,cz,iM,nM,Ez,gP,iZ,kd,ie,iq,eY,dD]
    refine gv (IsL.enc r) ha ?_
    simp only [lO,g4,Sq]
    refine⟨_,_,.int _,.int _,?_⟩
    rw [eq_int]
    by_cases c:(r[pr.length]).b=1
    ·simp only [aF,c,decide_true,bP,if_false,bS,if_true]
     have il:∀ G',IsL G' (enc (cW rows)) ((cW rows).map enc):=fun _=>IsL.enc _
     refine⟨pz (il _),gv (IsL.enc r) ha ?_⟩
     simp only [lO,g4,Zv]
     have hn:=qP d hpf c
     obtain⟨p0,m0,e0⟩:=sd d hn 0 (.inl rfl)
     have a0:=vH d (s:=⟨(r[pr.length]).a,0⟩) (by rw [← e0]; exact nO rows 0 m0)
     have es:(r[pr.length]).s=⟨(r[pr.length]).a,1⟩:=by rw [← c]; rfl
     have hu:=V9 d hpf c
     have a1:=vH d (s:=(r[pr.length]).s) (nO rows 0 hpf)
     have hc:=T9 d hx lG
     have Wa:(pr.length+r.length - 1) % r.length < r.length:=jX _ (by lia)
     have Yk:=Q0 d e1 Wa
     have a2:=vH d (xc d hpf).2
     rw [hc,Yk] at a2
     have et3:uy rows (r[pr.length]).a=⟨ix rows (hm rows ⟨(r[pr.length]).a,0⟩),ix rows (jn r (jC.length:Int) ((pr.length+r.length - 1) % r.length)),ix rows (r[pr.length]).s⟩:=by
      unfold uy
      rw [← es,hu,hc,Yk]
     have l0:look (bO (eK rows 0)) (.tup [.int (r[pr.length]).a,.int 0])=some (enc (hm rows ⟨(r[pr.length]).a,0⟩)):=by
      have:=jB (eK rows 0) (⟨(r[pr.length]).a,0⟩:T2)
      rw [a0.1] at this; exact this
     simp only [pF,l0]
     refine⟨by decide,gf (eK rows 0) (⟨(r[pr.length]).a,0⟩:T2),oO (il _) a0.2 ?_⟩
     refine⟨pz (il _),r,_,_,(pr.length+r.length - 1) % r.length,rfl,⟨Wa,rl⟩,?_,oO (il _) a2.2 ?_⟩
     ·by_cases z:pr.length=0
      ·refine .inr ⟨by rw [z]; rfl,?_⟩
       rw [z,fT,uq (by lia)]; lia
      ·refine .inl ?_
       rw [show pr.length+r.length - 1=(pr.length - 1)+r.length by lia,Nat.add_mod_right,uq (by lia)]
       lia
     simp only [g2,true_and]
     refine⟨pz (il _),gv (IsL.enc r) ha ?_⟩
     simp only [lO,pE,ak,aG,UW]
     have a1':(r[pr.length]).s∈cW rows:=by have:=a1.2; rw [hu] at this; exact this
     refine⟨by decide,oO (n:=(r[pr.length]).s) (il _) a1' ⟨by decide,?_⟩⟩
     simp only [g2]
     refine⟨Dv ?_,tV _ _ ⟨l2.put hp,?_,_,_,_,rfl⟩⟩
     ·rw [ah,ah,aq]
      have:=fC (fun p:T3=>p.b == 1) (r.take pr.length)
      rw [dW] at this
      lia
     ·rw [aO,aq,bp,et,cZ,fN (by simp [c]),jF,← cH]
      simp only [aE,au,bb,et3]
      rfl
    ·simp only [aF,c,decide_false,cY,if_false,bS]
     refine tV _ _ ⟨l2,?_,_,_,_,rfl⟩
     rw [g2,aq,bp,et,cZ,gL (by simp [c]),jF,cc]
   ·rintro τ G2 ⟨l2,g2,c1,c2,c3,rfl⟩
    refine kO _ _ ⟨l2,?_,_,_,_,_,_,rfl⟩
    rw [g2,show (dR 0 r.length).length=r.length by simp [dR],gS (aM _)]
  ·rintro τ G' ⟨le,gp,b1,b2,b3,b4,b5,rfl⟩
   rw [gQ] at gp
   exact hN _ _ ⟨le,gp,_,_,_,_,_,_,_,_,rfl⟩
 ·rintro _ G' ⟨le,gp,a,b,c,e,f,g,i,h,rfl⟩
  simp only [dH,gz,aw,ae,aa]
  exact iJ le hp gp q
end K8
end K2
end
section
namespace K2
namespace xY
noncomputable def vs(p:Nat):Nat->List (List Int)
 | 0=>[[]]
 | n+1=>(bq p).flatMap fun a:Nat=>(vs p n).map ((a:Int) :: ·)
noncomputable def dot:List Int->List Int->Int
 | a :: x,b :: y=>a * b+dot x y
 | _,_=>0
noncomputable def el(e:List Int)(q:Int):Int:=e.getD q.toNat 0
noncomputable def Pr(p:Nat):Prop:=p=3\/p=5\/p=7
theorem Ju{p:Nat}:∀ {n:Nat} {y:List Int},y∈vs p n->y.length=n
 | 0,y,h=>by
  have:y=[]:=by simpa [vs] using h
  rw [this]; rfl
 | n+1,y,h=>by
  rw [vs,List.mem_flatMap] at h
  obtain⟨a,_,h⟩:=h
  obtain⟨z,hz,rfl⟩:=List.mem_map.mp h
  rw [ak,Ju hz]
theorem Lm{p:Nat}:∀ n,vs p (n+1)=(vs p n).flatMap fun y=>(bq p).map fun a:Nat=>y++[(a:Int)]
 | 0=>by
  rw [vs,vs]
  simp only [au,bb,iD,List.flatMap_nil,cc,bh]
  induction bq p with
  | nil=>rfl
  | cons a l ih=>rw [iD,ih]; rfl
 | n+1=>by
  have e:=Lm (p:=p) n
  rw [show vs p (n+1+1)=(bq p).flatMap (fun a:Nat=>(vs p (n+1)).map ((a:Int) :: ·)) from rfl]
  conv=>lhs; rw [e]
  rw [show vs p (n+1)=(bq p).flatMap (fun a:Nat=>(vs p n).map ((a:Int) :: ·)) from rfl]
  rw [List.flatMap_assoc]
  congr 1
  funext b
  rw [List.map_flatMap,List.flatMap_map]
  congr 1
  funext y
  rw [bV]
  rfl
theorem JD{α:Type}{c:Nat}{f:α->Nat}{P:α->Bool}:∀ {l:List α},(∀ y∈l,f y=if P y=true then c else 0)->(l.map f).sum=c * l.countP P
 | [],_=>by simp
 | y :: l,h=>by
  rw [au,fM,JD (fun z hz=>h z (ao _ hz)),h y ay,nJ]
  split <;> simp [Nat.mul_add,Nat.add_comm]
theorem FC{α β:Type}{P:α->β->Bool}:∀ (l:List α) (m:List β),(l.map fun a=>m.countP (P a)).sum=(m.map fun y=>l.countP fun a=>P a y).sum
 | [],m=>by
  simp only [bb,List.sum_nil,List.countP_nil]
  induction m with
  | nil=>rfl
  | cons y m ih=>rw [au,fM,← ih,Nat.add_zero]
 | a :: l,m=>by
  rw [au,fM,FC l m]
  induction m with
  | nil=>rfl
  | cons y m ih =>
   rw [au,fM,au,fM,← ih,nJ,nJ]
   lia
theorem HY{p n:Nat}{P P':List Int->Bool}{c:Nat}(h:∀ y∈vs p n,((bq p).countP fun a:Nat=>P (y++[(a:Int)]))=if P' y=true then c else 0):(vs p (n+1)).countP P=c * (vs p n).countP P':=by
 rw [Lm,List.countP_flatMap,← JD h]
 congr 1
 apply oY
 intro y _
 simp only [IU,List.countP_map]
 rfl
theorem cnt_cons{p n:Nat}{P P':List Int->Bool}{c:Nat}(h:∀ y∈vs p n,((bq p).countP fun a:Nat=>P ((a:Int) :: y))=if P' y=true then c else 0):(vs p (n+1)).countP P=c * (vs p n).countP P':=by
 rw [vs,List.countP_flatMap,← JD h,← FC]
 congr 1
 apply oY
 intro y _
 simp only [IU,List.countP_map]
 rfl
theorem Tt:∀ p∈[3,5,7],∀ u∈bq p,∀ c∈bq p,u≠0->((bq p).countP fun a:Nat=>decide ((u * a+c) % p=0))=1:=by decide
theorem VL:∀ p∈[3,5,7],∀ u∈bq p,∀ t∈bq p,u≠0->(u * t) % p=0->t=0:=by decide
theorem Pr.mem{p:Nat}(h:Pr p):p∈[3,5,7]:=by rcases h with rfl | rfl | rfl <;> simp
theorem Pr.pos{p:Nat}(h:Pr p):0 < p:=by rcases h with rfl | rfl | rfl <;> decide
theorem yH{p:Nat}(hp:Pr p)(u:Int):∃ m,m∈bq p/\u % p=(m:Nat):=by
 have:=hp.pos
 refine⟨(u % p).toNat,List.mem_range.mpr ?_,?_⟩
 ·have h1:=dE u (show (0:Int) < p by lia)
  have h2:=dZ u (show (p:Int)≠0 by lia)
  lia
 ·have h2:=dZ u (show (p:Int)≠0 by lia)
  lia
theorem fit{p:Nat}(hp:Pr p){u c:Int}(hu:u % p≠0):((bq p).countP fun a:Nat=>decide ((u * (a:Int)+c) % p=0))=1:=by
 obtain⟨m,hm,em⟩:=yH hp u
 obtain⟨k,hk,ek⟩:=yH hp c
 rw [← Tt p hp.mem m hm k hk (fun z=>hu (by rw [em,z]; rfl))]
 apply my
 intro a _
 rw [decide_eq_true_iff,decide_eq_true_iff,iR,fe,em,ek]
 have e:((m:Int) * ((a:Int) % p) % p+k) % p=(((m * a+k) % p:Nat):Int):=by
  rw [Int.emod_add_emod]
  rw [iR,fe,Bs,← fe,← iR]
  norm_cast
 rw [e]
 norm_cast
theorem Ur{p:Nat}(hp:Pr p){u t:Int}(hu:u % p≠0)(h:(u * t) % p=0):t % p=0:=by
 obtain⟨m,hm,em⟩:=yH hp u
 obtain⟨k,hk,ek⟩:=yH hp t
 rw [fe,em,ek] at h
 rw [ek,VL p hp.mem m hm k hk (fun z=>hu (by rw [em,z]; rfl)) (by exact_mod_cast h)]
 rfl
theorem mq(x:List Int):dot x []=0:=by cases x <;> rfl
theorem oU:∀ (y e:List Int) (a:Int),dot e (y++[a])=dot e y+e.getD y.length 0 * a
 | [],[],a=>by simp [dot]
 | [],b :: e,a=>by simp [dot,mq]
 | c :: y,[],a=>by simp [dot]
 | c :: y,b :: e,a=>by
  rw [aT,dot,dot,oU y e a,ak,yw]
  lia
theorem rM{e y:List Int}{k:Nat}{a:Int}(h:k < e.length):dot (e.drop k) (a :: y)=e.getD k 0 * a+dot (e.drop (k+1)) y:=by
 rw [fk h,dot,az,ag h]; rfl
theorem Ew(p u v:Int):∀ (x a b:List Int),a.length=b.length->dot (wb (fun f l=>(f * u - l * v) % p) a b) x % p=(dot a x * u - dot b x * v) % p
 | [],a,b,_=>by rw [mq,mq,mq]; simp
 | c :: x,[],[],_=>by simp [dot]
 | c :: x,f :: a,l :: b,h=>by
  rw [List.zipWith_cons_cons,dot,dot,dot]
  have ih:=Ew p u v x a b (by simpa using h)
  rw [iR,ih,fe,Bs,← fe,← iR]
  congr 1
  simp only [Int.sub_mul,Int.add_mul]
  rw [Br f u c,Br l v c]
  lia
structure Red(p n:Nat)(R:List (Int×List Int)):Prop where
 nd:(R.map (·.1)).Nodup
 ok:∀ r∈R,(0<=r.1/\r.1 < n)/\r.2.length=n/\∀ v∈r.2,0<=v/\v < p
 one:∀ r∈R,el r.2 r.1=1
 top:∀ r∈R,∀ j:Int,r.1 < j->el r.2 j=0
 red:∀ r∈R,∀ q∈R,q.1≠r.1->el r.2 q.1=0
noncomputable def C2(p:Nat)(es:List (List Int))(x:List Int):Prop:=∀ e∈es,dot e x % p=0
noncomputable instance (p:Nat) (es:List (List Int)) (x:List Int):Decidable (C2 p es x):=by unfold C2; infer_instance
noncomputable def frees(R:List (Int×List Int))(k:Nat):List Nat:=(bq k).filter fun j=>decide ((j:Int)∉R.map (·.1))
theorem VM{R:List (Int×List Int)}(h:(R.map (·.1)).Nodup){a b:Int×List Int}(ha:a∈R)(hb:b∈R)(e:a.1=b.1):a=b:=by
 induction R with
 | nil=>cases ha
 | cons r R ih =>
  rw [au,cD] at h
  rcases List.mem_cons.mp ha with e1 | ha'
  ·rcases List.mem_cons.mp hb with e2 | Hs
   ·rw [e1,e2]
   ·subst e1; exact absurd (e ▸ aW Hs) h.1
  ·rcases List.mem_cons.mp hb with e2 | Hs
   ·subst e2; exact absurd (e ▸ aW ha') h.1
   ·exact ih h.2 ha' Hs
theorem Cg{p n:Nat}(hp:Pr p){R:List (Int×List Int)}(h:Red p n R):∀ k,(vs p k).countP (fun y=>decide (∀ r∈R,r.1 < (k:Nat)->dot r.2 y % p=0))=p ^ (frees R k).length
 | 0=>by
  rw [vs]
  have:∀ r∈R,r.1 < ((0:Nat):Int)->dot r.2 [] % (p:Int)=0:=fun r _ _=>by rw [mq]; simp
  simp [frees,nJ,mq]
 | k+1=>by
  have ih:=Cg hp h k
  by_cases hk:((k:Nat):Int)∈R.map (·.1)
  ·obtain⟨r0,TJ,e0⟩:=List.mem_map.mp hk
   have ef:frees R (k+1)=frees R k:=by
    unfold frees
    rw [lB,cZ]
    simp only [km,jF]
    rw [if_neg (by simpa using hk)]
    simp
   rw [ef,← ih,← Nat.one_mul ((vs p k).countP _)]
   refine HY fun y hy=>?_
   have ly:=Ju hy
   split
   ·rename_i hP
    rw [decide_eq_true_iff] at hP
    refine Eq.trans (my fun a _=>?_) (fit hp (u:=1) (c:=dot r0.2 y) (by rcases hp with rfl | rfl | rfl <;> decide))
    rw [decide_eq_true_iff,decide_eq_true_iff]
    have d0:dot r0.2 (y++[(a:Int)])=1 * a+dot r0.2 y:=by
     rw [oU,ly]
     have:=h.one r0 TJ
     unfold el at this
     rw [e0,aX] at this
     rw [this]; lia
    refine⟨fun z=>d0 ▸ z r0 TJ (by lia),fun z r hr lG=>?_⟩
    by_cases he:r.1=(k:Nat)
    ·have:=VM h.nd hr TJ (he.trans e0.symm)
     rw [this,d0]; exact z
    ·have t:=h.top r hr (k:Nat) (by lia)
     unfold el at t
     rw [aX] at t
     rw [oU,ly,t,qA,wz]
     exact hP r hr (by lia)
   ·rename_i hP
    rw [List.countP_eq_zero]
    intro a _ z
    rw [decide_eq_true_iff] at z hP
    refine hP fun r hr lG=>?_
    have t:=h.top r hr (k:Nat) (by lia)
    unfold el at t
    rw [aX] at t
    have:=z r hr (by lia)
    rw [oU,ly,t,qA,wz] at this
    exact this
  ·have ef:(frees R (k+1)).length=(frees R k).length+1:=by
    unfold frees
    rw [lB,cZ]
    simp only [km,jF]
    rw [if_pos (by simpa using hk)]
    simp
   rw [ef,E4,← ih,E5]
   refine HY fun y hy=>?_
   have ly:=Ju hy
   have key:∀ a:Nat,decide (∀ r∈R,r.1 < ((k+1:Nat):Int)->dot r.2 (y++[(a:Int)]) % (p:Int)=0)=decide (∀ r∈R,r.1 < (k:Nat)->dot r.2 y % (p:Int)=0):=fun a=>by
    rw [decide_eq_decide]
    refine⟨fun z r hr lG=>?_,fun z r hr lG=>?_⟩
    ·have t:=h.top r hr (k:Nat) (by lia)
     unfold el at t
     rw [aX] at t
     have:=z r hr (by lia)
     rw [oU,ly,t,qA,wz] at this
     exact this
    ·have ne:r.1≠(k:Nat):=fun e=>hk (e ▸ aW hr)
     have t:=h.top r hr (k:Nat) (by lia)
     unfold el at t
     rw [aX] at t
     rw [oU,ly,t,qA,wz]
     exact z r hr (by lia)
   simp only [key]
   split
   ·rename_i hP
    rw [hP]
    rw [List.countP_true]; exact d4
   ·rename_i hP
    rw [Fe] at hP
    rw [hP]; exact List.countP_false ▸ rfl
theorem S4{p n:Nat}(hp:Pr p){R:List (Int×List Int)}(h:Red p n R):(vs p n).countP (fun y=>decide (C2 p (R.map (·.2)) y))=p ^ (frees R n).length:=by
 rw [← Cg hp h n]
 apply my
 intro y _
 rw [decide_eq_true_iff,decide_eq_true_iff]
 refine⟨fun z r hr _=>z _ (aW hr),fun z e he=>?_⟩
 obtain⟨r,hr,rfl⟩:=List.mem_map.mp he
 exact z r hr (h.ok r hr).1.2
noncomputable def Ke(p:Nat)(k:Nat)(s r:List Int):List Int:=wb (fun f l=>(f * s.getD k 0 - l * r.getD k 0) % (p:Int)) r s
noncomputable def qw(p k:Nat)(r:List Int):Bool:=r.getD k 0 % (p:Int) != 0
noncomputable def rk(p:Nat):Nat->Nat->List (List Int)->Nat
 | _,0,_=>0
 | k,m+1,L=>match L.find? (qw p k) with
  | none=>rk p (k+1) m L
  | some s=>1+rk p (k+1) m ((L.eraseP (qw p k)).map (Ke p k s))
theorem zD{p n:Nat}(hp:Pr p):∀ (m k:Nat) (L:List (List Int)),k+m=n->(∀ r∈L,r.length=n)->(vs p m).countP (fun y=>decide (∀ r∈L,dot (r.drop k) y % p=0)) * p ^ rk p k m L=p ^ m
 | 0,k,L,_,_=>by
  rw [vs,rk]
  simp [nJ,mq]
 | m+1,k,L,hk,hL=>by
  rw [rk]
  cases hf:L.find? (qw p k) with
  | none =>
   have z:∀ r∈L,r.getD k 0 % (p:Int)=0:=fun r hr=>by
    have:=List.find?_eq_none.mp hf r hr
    simpa [qw] using this
   have e:(vs p (m+1)).countP (fun y=>decide (∀ r∈L,dot (r.drop k) y % (p:Int)=0))=p * (vs p m).countP (fun y=>decide (∀ r∈L,dot (r.drop (k+1)) y % (p:Int)=0)):=by
    refine cnt_cons fun y hy=>?_
    have key:∀ a:Nat,decide (∀ r∈L,dot (r.drop k) ((a:Int) :: y) % (p:Int)=0)=decide (∀ r∈L,dot (r.drop (k+1)) y % (p:Int)=0):=fun a=>by
     rw [decide_eq_decide]
     have:∀ r∈L,dot (r.drop k) ((a:Int) :: y) % (p:Int)=dot (r.drop (k+1)) y % (p:Int):=fun r hr=>by
      rw [rM (by rw [hL r hr]; lia),iR,fe,z r hr,qA]
      simp
     exact⟨fun h r hr=>(this r hr) ▸ h r hr,fun h r hr=>(this r hr).trans (h r hr)⟩
    simp only [key]
    split
    ·rename_i hP
     rw [hP]
     rw [List.countP_true]; exact d4
    ·rename_i hP
     rw [Fe] at hP
     rw [hP]; exact List.countP_false ▸ rfl
   dsimp only
   rw [e,Nat.mul_assoc,zD hp m (k+1) L (by lia) hL,E4,E5]
  | some s =>
   have hs:s∈L:=g8 hf
   have QS:s.getD k 0 % (p:Int)≠0:=by
    have:=IT hf
    simpa [qw] using this
   have mem:∀ r,r∈L↔r=s\/r∈L.eraseP (qw p k):=by
    intro r
    clear hL hs
    induction L with
    | nil=>cases hf
    | cons c L ih =>
     rw [gq] at hf
     cases hc:qw p k c with
     | true =>
      rw [hc] at hf
      cases hf
      rw [OH hc,gh]
     | false =>
      rw [hc] at hf
      rw [OI (by rw [hc]; simp),gh,gh,ih hf]
      constructor
      ·rintro(h | h | h) <;> simp [h]
      ·rintro(h | h | h) <;> simp [h]
   have e:(vs p (m+1)).countP (fun y=>decide (∀ r∈L,dot (r.drop k) y % (p:Int)=0))=1 * (vs p m).countP (fun y=>decide (∀ r∈(L.eraseP (qw p k)).map (Ke p k s),dot (r.drop (k+1)) y % (p:Int)=0)):=by
    refine cnt_cons fun y hy=>?_
    have kl:∀ r∈L,k < r.length:=fun r hr=>by rw [hL r hr]; lia
    have dl:∀ r∈L,dot ((Ke p k s r).drop (k+1)) y % (p:Int)=(dot (r.drop (k+1)) y * s.getD k 0 - dot (s.drop (k+1)) y * r.getD k 0) % (p:Int):=fun r hr=>by
     unfold Ke
     rw [List.drop_zipWith,Ew]
     rw [cM,cM,hL r hr,hL s hs]
    have go:∀ (a:Int),(s.getD k 0 * a+dot (s.drop (k+1)) y) % (p:Int)=0->∀ r∈L,(r.getD k 0 * a+dot (r.drop (k+1)) y) % (p:Int)=0↔(dot (r.drop (k+1)) y * s.getD k 0 - dot (s.drop (k+1)) y * r.getD k 0) % (p:Int)=0:=fun a ha r hr=>by
     generalize s.getD k 0=u at *
     generalize r.getD k 0=v at *
     generalize dot (s.drop (k+1)) y=ds at *
     generalize dot (r.drop (k+1)) y=dr at *
     have e:u * (v * a+dr) - v * (u * a+ds)=dr * u - ds * v:=by
      rw [Int.mul_add,Int.mul_add,← Int.mul_assoc,← Int.mul_assoc,kM v u,kM u dr,kM v ds]
      lia
     have e2:(dr * u - ds * v) % (p:Int)=(u * (v * a+dr)) % (p:Int):=by
      rw [← e,Fb,fe v,ha]
      simp
     rw [e2]
     exact⟨fun h=>by rw [fe,h]; simp,fun h=>Ur hp QS h⟩
    split
    ·rename_i hP
     rw [decide_eq_true_iff] at hP
     rw [← fit hp (u:=s.getD k 0) (c:=dot (s.drop (k+1)) y) QS]
     apply my
     intro a _
     rw [decide_eq_true_iff,decide_eq_true_iff]
     refine⟨fun z=>(rM (kl s hs)) ▸ z s hs,fun z r hr=>?_⟩
     rw [rM (kl r hr)]
     rcases (mem r).mp hr with rfl | h2
     ·exact z
     ·rw [go a z r hr,← dl r hr]
      exact hP _ (aW h2)
    ·rename_i hP
     rw [List.countP_eq_zero]
     intro a _ z
     rw [decide_eq_true_iff] at z hP
     refine hP fun r' NS=>?_
     obtain⟨r,hr,rfl⟩:=List.mem_map.mp NS
     have hrL:=(mem r).mpr (.inr hr)
     rw [dl r hrL,← go a ((rM (kl s hs)) ▸ z s hs) r hrL,← rM (kl r hrL)]
     exact z r hrL
   have ih:=zD (n:=n) hp m (k+1) ((L.eraseP (qw p k)).map (Ke p k s)) (by lia) (fun r hr=>by
    obtain⟨r0,h0,rfl⟩:=List.mem_map.mp hr
    unfold Ke
    rw [yv,hL _ ((mem _).mpr (.inr h0)),hL s hs]; simp)
   dsimp only
   rw [e,Nat.one_mul,Nat.pow_add,Nat.pow_one,E5 p,← Nat.mul_assoc,ih,E4]
end xY
end K2
end
section
namespace K2
namespace xY
noncomputable def ug(p:Nat)(a:List Int)(q:Int)(b:List Int):List Int:=wb (fun f l=>(f - el a q * l) % (p:Int)) a b
noncomputable def zx(p:Nat)(a:List Int)(i:Int):List Int:=a.map fun f=>f * i % (p:Int)
noncomputable def wt(p n:Nat)(a:List Int):Prop:=a.length=n/\∀ v∈a,0<=v/\v < (p:Int)
theorem Wn{f:Int->Int->Int}(h0:f 0 0=0){a b:List Int}(h:a.length=b.length)(j:Int):el (wb f a b) j=f (el a j) (el b j):=by
 unfold el
 rw [az,az,az,List.getElem?_zipWith]
 by_cases hj:j.toNat < a.length
 ·rw [ag hj,ag (h ▸ hj)]; rfl
 ·rw [gm (by lia),gm (by lia)]
  exact h0.symm
theorem Ro{p:Nat}{a b:List Int}{q:Int}(h:a.length=b.length)(j:Int):el (ug p a q b) j=(el a j - el a q * el b j) % (p:Int) :=
 Wn (f:=fun f l=>(f - el a q * l) % (p:Int)) (by simp) h j
theorem KJ{p:Nat}{a:List Int}{i:Int}(j:Int):el (zx p a i) j=el a j * i % (p:Int):=by
 unfold el zx
 rw [az,az,bA]
 cases a[j.toNat]? with
 | none=>simp
 | some v=>rfl
theorem wt.ug{p n:Nat}(hp:Pr p){a b:List Int}{q:Int}(ha:wt p n a)(hb:wt p n b):wt p n (ug p a q b):=by
 have:=hp.pos
 refine⟨by unfold xY.ug; rw [yv,ha.1,hb.1]; simp,fun v hv=>?_⟩
 unfold xY.ug at hv
 rw [← iC] at hv
 obtain⟨x,_,rfl⟩:=List.mem_map.mp hv
 exact⟨dZ _ (by lia),dE _ (by lia)⟩
theorem wt.zx{p n:Nat}(hp:Pr p){a:List Int}{i:Int}(ha:wt p n a):wt p n (zx p a i):=by
 have:=hp.pos
 refine⟨by unfold xY.zx; rw [ah]; exact ha.1,fun v hv=>?_⟩
 obtain⟨x,_,rfl⟩:=List.mem_map.mp hv
 exact⟨dZ _ (by lia),dE _ (by lia)⟩
theorem wt.el{p n:Nat}(hp:Pr p){a:List Int}(ha:wt p n a)(j:Int):0<=el a j/\el a j < (p:Int):=by
 have:=hp.pos
 unfold xY.el
 rw [az]
 cases e:a[j.toNat]? with
 | none=>exact⟨Jm _,by simpa using this⟩
 | some v=>exact ha.2 v (di e)
theorem Mt{p:Nat}{a b:List Int}{q:Int}(h:a.length=b.length)(x:List Int):dot (ug p a q b) x % (p:Int)=(dot a x - el a q * dot b x) % (p:Int):=by
 have:=Ew (p:Int) 1 (el a q) x a b h
 have e:wb (fun f l=>(f * 1 - l * el a q) % (p:Int)) a b=ug p a q b:=by
  unfold ug; congr 1; funext f l; rw [tG,kM l]
 rw [e,tG,kM (dot b x)] at this
 exact this
theorem Eu{p:Nat}{i:Int}:∀ (a x:List Int),dot (zx p a i) x % (p:Int)=(dot a x * i) % (p:Int)
 | [],x=>by simp [zx,dot]
 | a :: as,[]=>by rw [mq,mq]; simp
 | a :: as,b :: x=>by
  have ih:=Eu (p:=p) (i:=i) as x
  unfold zx at ih ⊢
  rw [au,dot,dot,iR,ih,fe,Bs,← fe,← iR,Int.add_mul,Br]
theorem HL:∀ (a x:List Int),(∀ v∈a,v=0)->dot a x=0
 | [],_,_=>rfl
 | a :: as,[],_=>rfl
 | a :: as,b :: x,h=>by
  rw [dot,HL as x fun v hv=>h v (ao _ hv),h a ay]; simp
noncomputable def jC(p:Nat)(R:List (Int×List Int))(e:List Int):List Int:=R.foldl (fun a r=>ug p a r.1 r.2) e
theorem D7{p n:Nat}(hp:Pr p)(R0:List (Int×List Int))(h:Red p n R0):∀ (R1 R:List (Int×List Int)) (e:List Int),R0=R1++R->wt p n e->(∀ r∈R1,el e r.1=0) ->
  wt p n (jC p R e)/\(∀ r∈R0,el (jC p R e) r.1=0)/\∀ x,C2 p (R0.map (·.2)) x->dot (jC p R e) x % (p:Int)=dot e x % (p:Int)
 | R1,[],e,hR,he,hz=>⟨he,fun r hr=>hz r (by rw [hR,cc] at hr; exact hr),fun _ _=>rfl⟩
 | R1,r :: R,e,hR,he,hz=>by
  have hr:r∈R0:=by rw [hR]; exact bH _ ay
  have hv:wt p n r.2:=(h.ok r hr).2
  have hl:e.length=r.2.length:=by rw [he.1,hv.1]
  obtain⟨i1,i2,i3⟩:=D7 hp R0 h (R1++[r]) R (ug p e r.1 r.2) (by rw [hR,cH]; rfl) (he.ug hp hv) (fun q hq=>by
   rw [Ro hl]
   rcases List.mem_append.mp hq with hq | hq
   ·have hq0:q∈R0:=by rw [hR]; exact d6 _ hq
    have ne:q.1≠r.1:=fun z=>by
     have nd:=h.nd
     rw [hR,aE,au,cm] at nd
     exact nd.2.2 q.1 (aW hq) r.1 ay z
    rw [hz q hq,h.red r hr q hq0 ne]; simp
   ·have:q=r:=by simpa using hq
    rw [this,h.one r hr]; simp)
  refine⟨i1,i2,fun x hx=>?_⟩
  show dot (jC p R (ug p e r.1 r.2)) x % (p:Int)=_
  rw [i3 x hx,Mt hl,Fb,fe,hx r.2 (aW hr)]
  simp
noncomputable def pR(e:List Int):Option Nat:=((bq e.length).filter fun j=>e.getD j 0 != 0).getLast?
theorem GU{e:List Int}(h:pR e=none):∀ v∈e,v=0:=by
 unfold pR at h
 rw [List.getLast?_eq_none_iff,Pf] at h
 intro v hv
 obtain⟨j,hj,rfl⟩:=da hv
 have:=h j (List.mem_range.mpr hj)
 rw [az,ag hj] at this
 simpa using this
theorem GS:∀ {l:List Nat} {x:Nat},l.Pairwise (· < ·)->l.getLast?=some x->∀ y∈l,y<=x
 | [],_,_,h=>by cases h
 | [a],x,_,h=>by
  intro y hy
  have:a=x:=by simpa using h
  have:y=a:=by simpa using hy
  lia
 | a :: b :: l,x,hp,h=>by
  intro y hy
  rw [List.getLast?_cons_cons] at h
  rw [List.pairwise_cons] at hp
  have ih:=GS hp.2 h
  rcases List.mem_cons.mp hy with rfl | hy
  ·have:=hp.1 b ay; have:=ih b ay; lia
  ·exact ih y hy
theorem xK{e:List Int}{l:Nat}(h:pR e=some l):l < e.length/\el e (l:Nat)≠0/\∀ j:Int,(l:Int) < j->el e j=0:=by
 unfold pR at h
 have m:=Sz h
 rw [IP,ya] at m
 refine⟨m.1,?_,fun j hj=>?_⟩
 ·unfold el; rw [aX]; simpa using m.2
 ·unfold el
  by_cases hz:e.getD j.toNat 0=0
  ·exact hz
  ·exfalso
   have hl:j.toNat < e.length:=by
    apply cj
    intro hn
    exact hz (by rw [az,gm (by lia)]; rfl)
   have:=GS (qH _ uv) h j.toNat (by rw [IP,ya]; exact⟨hl,by simpa using hz⟩)
   lia
noncomputable def inv1(p:Nat)(u:Int):Int:=(((bq p).filter fun (k:Nat)=>(k:Int) * u % (p:Int) == 1).headD 0:Nat)
theorem inv_one:∀ p∈[3,5,7],∀ u∈bq p,u≠0->(((bq p).filter fun k=>k * u % p == 1).headD 0) * u % p=1/\((bq p).filter fun k=>k * u % p == 1)≠[]:=by decide
theorem Ma{p:Nat}(hp:Pr p){u:Int}(h:0 < u/\u < p):(u * inv1 p u) % (p:Int)=1/\((bq p).filter fun (k:Nat)=>(k:Int) * u % (p:Int) == 1)≠[]:=by
 obtain⟨m,rfl⟩:∃ m:Nat,u=m:=⟨u.toNat,by lia⟩
 obtain⟨h1,h2⟩:=inv_one p hp.mem m (List.mem_range.mpr (by lia)) (by lia)
 have e:((bq p).filter fun (k:Nat)=>(k:Int) * (m:Int) % (p:Int) == 1)=(bq p).filter fun k=>k * m % p == 1:=by
  apply List.filter_congr
  intro k _
  rw [o1,beq_iff_eq,beq_iff_eq]
  norm_cast
 unfold inv1
 rw [e]
 refine⟨?_,h2⟩
 rw [kM]
 exact_mod_cast h1
noncomputable def sF(p:Nat)(R:List (Int×List Int))(e:List Int):List (Int×List Int) :=
 match pR (jC p R e) with
 | none=>R
 | some l=>(R.map fun r=>(r.1,ug p r.2 (l:Nat) (zx p (jC p R e) (inv1 p (el (jC p R e) (l:Nat))))))++[((l:Int),zx p (jC p R e) (inv1 p (el (jC p R e) (l:Nat))))]
theorem Ls{p n:Nat}(hp:Pr p){R:List (Int×List Int)}(h:Red p n R){e:List Int}(he:wt p n e):Red p n (sF p R e)/\∀ x,C2 p ((sF p R e).map (·.2)) x↔(C2 p (R.map (·.2)) x/\dot e x % (p:Int)=0):=by
 obtain⟨i1,i2,i3⟩:=D7 hp R h [] R e rfl he (fun r hr=>by cases hr)
 unfold sF
 cases hl:pR (jC p R e) with
 | none =>
  refine⟨h,fun x=>⟨fun z=>⟨z,?_⟩,fun z=>z.1⟩⟩
  rw [← i3 x z,HL _ _ (GU hl)]; simp
 | some l =>
  obtain⟨l1,l2,l3⟩:=xK hl
  dsimp only
  have ub:=i1.el hp (l:Nat)
  obtain⟨iv,_⟩:=Ma hp (u:=el (jC p R e) (l:Nat)) (by lia)
  generalize hg:inv1 p (el (jC p R e) (l:Nat))=g at *
  have v2:wt p n (zx p (jC p R e) g):=i1.zx hp
  have z1:el (zx p (jC p R e) g) (l:Nat)=1:=by rw [KJ]; exact iv
  have z2:∀ j:Int,(l:Int) < j->el (zx p (jC p R e) g) j=0:=fun j hj=>by rw [KJ,l3 j hj]; simp
  have z3:∀ r∈R,el (zx p (jC p R e) g) r.1=0:=fun r hr=>by rw [KJ,i2 r hr]; simp
  have z4:∀ x,C2 p (R.map (·.2)) x->(dot (zx p (jC p R e) g) x % (p:Int)=0↔dot e x % (p:Int)=0):=fun x hx=>by
   rw [Eu,← i3 x hx]
   refine⟨fun z=>?_,fun z=>by rw [fe,z]; simp⟩
   refine Ur hp (u:=g) (fun q=>?_) (by rw [kM]; exact z)
   rw [fe,q] at iv
   simp at iv
  generalize zx p (jC p R e) g=s at *
  have ne:∀ r∈R,r.1≠(l:Int):=fun r hr z=>l2 (z ▸ i2 r hr)
  have ec:∀ r∈R,∀ j,el (ug p r.2 (l:Nat) s) j=(el r.2 j - el r.2 (l:Nat) * el s j) % (p:Int):=fun r hr j=>Ro (by rw [v2.1,(h.ok r hr).2.1]) j
  have pm:∀ r∈R,∀ j,el r.2 j % (p:Int)=el r.2 j:=fun r hr j=>by
   have:=wt.el hp (h.ok r hr).2 j
   exact Int.emod_eq_of_lt this.1 this.2
  refine⟨⟨?_,?_,?_,?_,?_⟩,fun x=>?_⟩
  ·rw [aE,bV]
   rw [cm]
   refine⟨h.nd,by simp,fun a ha b hb z=>?_⟩
   obtain⟨r,hr,rfl⟩:=List.mem_map.mp ha
   have:b=(l:Int):=by simpa using hb
   exact ne r hr (by rw [← this,← z]; rfl)
  ·intro r hr
   rcases List.mem_append.mp hr with hr | hr
   ·obtain⟨q,hq,rfl⟩:=List.mem_map.mp hr
    exact⟨(h.ok q hq).1,wt.ug hp (h.ok q hq).2 v2⟩
   ·have:r=((l:Int),s):=by simpa using hr
    subst this
    exact⟨⟨jr _,by rw [← i1.1]; show (l:Int) < _; lia⟩,v2⟩
  ·intro r hr
   rcases List.mem_append.mp hr with hr | hr
   ·obtain⟨q,hq,rfl⟩:=List.mem_map.mp hr
    show el (ug p q.2 (l:Nat) s) q.1=1
    rw [ec q hq,z3 q hq,Int.mul_zero,SA,pm q hq,h.one q hq]
   ·have:r=((l:Int),s):=by simpa using hr
    subst this
    exact z1
  ·intro r hr j hj
   rcases List.mem_append.mp hr with hr | hr
   ·obtain⟨q,hq,rfl⟩:=List.mem_map.mp hr
    show el (ug p q.2 (l:Nat) s) j=0
    rw [ec q hq,h.top q hq j hj]
    by_cases hlq:(l:Int) < q.1
    ·rw [z2 j (by have:q.1 < j:=hj; lia)]; simp
    ·have:=ne q hq
     rw [h.top q hq (l:Nat) (by lia)]; simp
   ·have:r=((l:Int),s):=by simpa using hr
    subst this
    exact z2 j hj
  ·intro r hr q hq kD
   rcases List.mem_append.mp hr with hr | hr
   ·obtain⟨r,NS,rfl⟩:=List.mem_map.mp hr
    show el (ug p r.2 (l:Nat) s) q.1=0
    rw [ec r NS]
    rcases List.mem_append.mp hq with hq | hq
    ·obtain⟨q,hq',rfl⟩:=List.mem_map.mp hq
     show (el r.2 q.1 - el r.2 (l:Nat) * el s q.1) % (p:Int)=0
     rw [z3 q hq',h.red r NS q hq' kD]; simp
    ·have:q=((l:Int),s):=by simpa using hq
     subst this
     show (el r.2 (l:Nat) - el r.2 (l:Nat) * el s (l:Nat)) % (p:Int)=0
     rw [z1]; simp
   ·have:r=((l:Int),s):=by simpa using hr
    subst this
    rcases List.mem_append.mp hq with hq | hq
    ·obtain⟨q,hq',rfl⟩:=List.mem_map.mp hq
     exact z3 q hq'
    ·have:q=((l:Int),s):=by simpa using hq
     subst this
     exact absurd rfl kD
  ·have dc:∀ r∈R,dot (ug p r.2 (l:Nat) s) x % (p:Int)=(dot r.2 x - el r.2 (l:Nat) * dot s x) % (p:Int):=fun r hr=>Mt (by rw [v2.1,(h.ok r hr).2.1]) x
   constructor
   ·intro z
    have zs:dot s x % (p:Int)=0:=z s (List.mem_map.mpr ⟨((l:Int),s),bH _ (by simp),rfl⟩)
    have zr:C2 p (R.map (·.2)) x:=fun e' he'=>by
     obtain⟨r,hr,rfl⟩:=List.mem_map.mp he'
     have:=z (ug p r.2 (l:Nat) s) (List.mem_map.mpr ⟨(r.1,ug p r.2 (l:Nat) s),d6 _ (List.mem_map.mpr ⟨r,hr,rfl⟩),rfl⟩)
     rw [dc r hr,Fb,fe,zs] at this
     simpa using this
    exact⟨zr,(z4 x zr).mp zs⟩
   ·rintro⟨zr,ze⟩ e' he'
    have zs:=(z4 x zr).mpr ze
    obtain⟨r',NS,rfl⟩:=List.mem_map.mp he'
    rcases List.mem_append.mp NS with NS | NS
    ·obtain⟨r,hr,rfl⟩:=List.mem_map.mp NS
     show dot (ug p r.2 (l:Nat) s) x % (p:Int)=0
     rw [dc r hr,Fb,fe,zs,zr r.2 (aW hr)]; simp
    ·have:r'=((l:Int),s):=by simpa using NS
     subst this
     exact zs
theorem LD{p n:Nat}:Red p n []:=⟨dh,by simp,by simp,by simp,by simp⟩
theorem PS{p n:Nat}(hp:Pr p):∀ (es:List (List Int)) (R:List (Int×List Int)),Red p n R->(∀ e∈es,wt p n e)->Red p n (es.foldl (sF p) R)/\∀ x,C2 p ((es.foldl (sF p) R).map (·.2)) x↔(C2 p (R.map (·.2)) x/\C2 p es x)
 | [],R,h,_=>⟨h,fun x=>⟨fun z=>⟨z,fun e he=>by cases he⟩,fun z=>z.1⟩⟩
 | e :: es,R,h,hv=>by
  obtain⟨a1,a2⟩:=Ls hp h (hv e ay)
  obtain⟨b1,b2⟩:=PS hp es _ a1 fun e' h'=>hv e' (ao _ h')
  refine⟨b1,fun x=>?_⟩
  rw [dQ,b2,a2]
  constructor
  ·rintro⟨⟨z1,z2⟩,z3⟩
   exact⟨z1,fun e' h'=>by rcases List.mem_cons.mp h' with rfl | h'; exact z2; exact z3 e' h'⟩
  ·rintro⟨z1,z2⟩
   exact⟨⟨z1,z2 e ay⟩,fun e' h'=>z2 e' (ao _ h')⟩
end xY
end K2
end
section
namespace K2
namespace xY
theorem HM:∀ (x y:List Int),dot x y=dot y x
 | [],[]=>rfl
 | [],_ :: _=>rfl
 | _ :: _,[]=>rfl
 | a :: x,b :: y=>by rw [dot,dot,HM x y,kM]
theorem sk:∀ (e x:List Int) (j:Nat) (v:Int),j < x.length->dot e (x.set j v)=dot e x+e.getD j 0 * (v - x.getD j 0)
 | [],x,j,v,_=>by simp [dot]
 | a :: e,[],j,v,h=>absurd h (cE _)
 | a :: e,b :: x,0,v,_=>by
  rw [ai,dot,dot,oZ,oZ,Int.mul_sub]
  lia
 | a :: e,b :: x,j+1,v,h=>by
  rw [ar,dot,dot,sk e x j v (by simpa using h),yw,yw]
  lia
theorem mQ{x:List Int}{j k:Nat}{v:Int}(h:j < x.length):(x.set j v).getD k 0=if j=k then v else x.getD k 0:=by
 rw [az,List.getElem?_set]
 split
 ·rename_i e; subst e; first | rfl | (rw [if_pos h]; rfl)
 ·rw [← az]
noncomputable def fs(v:Int×List Int->Int)(R:List (Int×List Int))(x:List Int):List Int:=R.foldl (fun x r=>x.set r.1.toNat (v r)) x
theorem Kw{v:Int×List Int->Int}:∀ {R:List (Int×List Int)} {x:List Int},(fs v R x).length=x.length
 | [],_=>rfl
 | r :: R,x=>by
  show (fs v R (x.set r.1.toNat (v r))).length=_
  rw [Kw,cb]
theorem Ej{v:Int×List Int->Int}{k:Nat}:∀ {R:List (Int×List Int)} {x:List Int},(∀ r∈R,r.1.toNat < x.length/\r.1.toNat≠k)->(fs v R x).getD k 0=x.getD k 0
 | [],_,_=>rfl
 | r :: R,x,h=>by
  show (fs v R (x.set r.1.toNat (v r))).getD k 0=_
  rw [Ej fun q hq=>by rw [cb]; exact h q (ao _ hq),mQ (h r ay).1,if_neg (h r ay).2]
theorem UR{v:Int×List Int->Int}{r0:Int×List Int}:∀ {R:List (Int×List Int)} {x:List Int},(R.map (·.1)).Nodup->(∀ r∈R,0<=r.1/\r.1.toNat < x.length)->r0∈R->(fs v R x).getD r0.1.toNat 0=v r0
 | r :: R,x,nd,h,hr=>by
  rw [au,cD] at nd
  show (fs v R (x.set r.1.toNat (v r))).getD r0.1.toNat 0=_
  by_cases e:r0=r
  ·subst e
   rw [Ej fun q hq=>⟨by rw [cb]; exact(h q (ao _ hq)).2,fun z=>nd.1 (by
    have h1:=(h q (ao _ hq)).1
    have h2:=(h r0 ay).1
    have:q.1=r0.1:=by lia
    exact this ▸ aW hq)⟩,mQ (h r0 ay).2,if_pos rfl]
  ·exact UR nd.2 (fun q hq=>by rw [cb]; exact h q (ao _ hq)) ((List.mem_cons.mp hr).resolve_left e)
theorem Rt{v:Int×List Int->Int}{e:List Int}:∀ {R:List (Int×List Int)} {x:List Int},(R.map (·.1)).Nodup->(∀ r∈R,(0<=r.1/\r.1.toNat < x.length)/\x.getD r.1.toNat 0=0)->dot e (fs v R x)=dot e x+(R.map fun r=>el e r.1 * v r).sum
 | [],x,_,_=>by simp [fs]
 | r :: R,x,nd,h=>by
  rw [au,cD] at nd
  show dot e (fs v R (x.set r.1.toNat (v r)))=_
  obtain⟨⟨h1,h2⟩,h3⟩:=h r ay
  rw [Rt nd.2 fun q hq=>?_,sk _ _ _ _ h2,h3,au,fM,SA]
  ·unfold el; lia
  ·obtain⟨⟨q1,q2⟩,q3⟩:=h q (ao _ hq)
   refine⟨⟨q1,by rw [cb]; exact q2⟩,?_⟩
   rw [mQ h2,if_neg fun z=>nd.1 ?_]
   ·exact q3
   ·have:q.1=r.1:=by lia
    exact this ▸ aW hq
theorem Lr{g:Int×List Int->Int}{r0:Int×List Int}:∀ {R:List (Int×List Int)},(R.map (·.1)).Nodup->r0∈R->(∀ r∈R,r.1≠r0.1->g r=0)->(R.map g).sum=g r0
 | r :: R,nd,hr,h=>by
  rw [au,cD] at nd
  rw [au,fM]
  by_cases e:r0=r
  ·subst e
   have:(R.map g).sum=0:=by
    have:∀ q∈R,g q=0:=fun q hq=>h q (ao _ hq) fun z=>nd.1 (z ▸ aW hq)
    clear nd h hr
    induction R with
    | nil=>rfl
    | cons q R ih=>rw [au,fM,this q ay,ih fun q hq=>this q (ao _ hq)]; rfl
   rw [this]; lia
  ·have NS:=(List.mem_cons.mp hr).resolve_left e
   rw [Lr nd.2 NS fun q hq=>h q (ao _ hq),h r ay fun z=>nd.1 (z ▸ aW NS)]
   lia
noncomputable def cf(p n:Nat)(R:List (Int×List Int))(f:Nat):List Int:=fs (fun r=>(-(el r.2 (f:Nat))) % (p:Int)) R ((aJ n 0).set f 1)
theorem ph{n k:Nat}:(aJ n (0:Int)).getD k 0=0:=by
 rw [az,gK]; split <;> rfl
theorem xa:∀ (e:List Int) (n:Nat),dot e (aJ n 0)=0
 | [],_=>rfl
 | _ :: _,0=>rfl
 | a :: e,n+1=>by rw [List.replicate_succ,dot,xa e n]; simp
theorem jW{R:List (Int×List Int)}{n f:Nat}:f∈frees R n↔f < n/\(f:Int)∉R.map (·.1):=by
 unfold frees; rw [IP,ya,decide_eq_true_iff]
section
variable {p n f:Nat} (hp:Pr p) {R:List (Int×List Int)} (h:Red p n R)
include h
theorem pU{r:Int×List Int}(hr:r∈R):0<=r.1/\r.1.toNat < n:=by have:=(h.ok r hr).1; lia
theorem RE:(cf p n R f).length=n:=by unfold cf; rw [Kw,cb,bK]
theorem EC(hf:f∈frees R n):(cf p n R f).getD f 0=1:=by
 obtain⟨f1,f2⟩:=jW.mp hf
 unfold cf
 rw [Ej fun r hr=>⟨by rw [cb,bK]; exact(pU h hr).2,fun z=>f2 (by
  have:=(pU h hr).1
  have:r.1=(f:Int):=by lia
  exact this ▸ aW hr)⟩,mQ (by rw [bK]; exact f1),if_pos rfl]
theorem RF(hf:f < n){r:Int×List Int}(hr:r∈R):(cf p n R f).getD r.1.toNat 0=(-(el r.2 (f:Nat))) % (p:Int):=by
 unfold cf
 exact UR h.nd (fun q hq=>by rw [cb,bK]; exact pU h hq) hr
theorem yS(hf:f < n){k:Nat}(hk:k≠f)(hn:(k:Int)∉R.map (·.1)):(cf p n R f).getD k 0=0:=by
 unfold cf
 rw [Ej fun r hr=>⟨by rw [cb,bK]; exact(pU h hr).2,fun z=>hn (by
  have:=(pU h hr).1
  have:r.1=(k:Int):=by lia
  exact this ▸ aW hr)⟩,mQ (by rw [bK]; exact hf),if_neg (eC hk),ph]
theorem Wx(hf:f < n){k:Nat}(hk:k < f):(cf p n R f).getD k 0=0:=by
 by_cases hn:(k:Int)∈R.map (·.1)
 ·obtain⟨r,hr,e⟩:=List.mem_map.mp hn
  have:=RF h hf hr
  rw [show r.1.toNat=k by lia] at this
  rw [this,h.top r hr (f:Nat) (by lia)]; simp
 ·exact yS h hf (by lia) hn
theorem Ww(hf:f∈frees R n):C2 p (R.map (·.2)) (cf p n R f):=by
 obtain⟨f1,f2⟩:=jW.mp hf
 intro e he
 obtain⟨r,hr,rfl⟩:=List.mem_map.mp he
 unfold cf
 rw [Rt h.nd fun q hq=>⟨⟨(pU h hq).1,by rw [cb,bK]; exact(pU h hq).2⟩,by
  rw [mQ (by rw [bK]; exact f1),if_neg fun z=>f2 ?_,ph]
  have:=(pU h hq).1
  have:q.1=(f:Int):=by lia
  exact this ▸ aW hq⟩]
 rw [Lr (r0:=r) h.nd hr fun q hq ne=>by rw [h.red r hr q hq ne,qA]]
 rw [sk _ _ _ _ (by rw [bK]; exact f1),xa,ph,h.one r hr]
 unfold el
 rw [aX]
 generalize r.2.getD f 0=u
 rw [Int.zero_add,SA,tG,Int.one_mul,iR,Bs,← iR]
 rw [show u+-u=0 by lia]; simp
include hp
theorem KQ(hf:f < n):wt p n (cf p n R f):=by
 refine⟨RE h,fun v hv=>?_⟩
 obtain⟨j,hj,rfl⟩:=da hv
 have e:(cf p n R f)[j]=(cf p n R f).getD j 0:=by rw [az,ag hj]; rfl
 rw [e]
 have pp:3<=p:=by rcases hp with rfl | rfl | rfl <;> decide
 by_cases hn:(j:Int)∈R.map (·.1)
 ·obtain⟨r,hr,er⟩:=List.mem_map.mp hn
  have:=RF h hf hr
  rw [show r.1.toNat=j by lia] at this
  rw [this]
  exact⟨dZ _ (by lia),dE _ (by lia)⟩
 ·by_cases Wa:j=f
  ·subst Wa
   rw [EC h (jW.mpr ⟨hf,hn⟩)]; lia
  ·rw [yS h hf Wa hn]; lia
theorem N8{L:List (List Int)}(hL:∀ r∈L,r.length=n)(e:∀ x,C2 p (R.map (·.2)) x↔C2 p L x):(frees R n).length+rk p 0 n L=n:=by
 have c:=zD hp n 0 L (by lia) hL
 have e2:(vs p n).countP (fun y=>decide (∀ r∈L,dot (r.drop 0) y % (p:Int)=0))=p ^ (frees R n).length:=by
  rw [← S4 hp h]
  apply my
  intro y _
  rw [decide_eq_true_iff,decide_eq_true_iff,e y]
  rfl
 rw [e2,← Nat.pow_add] at c
 have pp:1 < p:=by rcases hp with rfl | rfl | rfl <;> decide
 exact(Nat.pow_right_inj pp).mp c
end
noncomputable def Ff(n:Nat)(a b c:Nat):List Int :=
 let z:=(aJ n (0:Int)).set a 2
 let y:=z.set b (z.getD b 0 - 1)
 y.set c (y.getD c 0 - 1)
theorem vP{n a b c:Nat}:(Ff n a b c).length=n:=by simp [Ff]
theorem T5{n a b c:Nat}(ha:a < n)(hb:b < n)(hc:c < n)(x:List Int):dot (Ff n a b c) x=2 * x.getD a 0 - x.getD b 0 - x.getD c 0:=by
 unfold Ff
 rw [HM,sk _ _ _ _ (by simp; exact hc),sk _ _ _ _ (by simp; exact hb),sk _ _ _ _ (by simp; exact ha),xa,ph]
 generalize x.getD a 0=u
 generalize x.getD b 0=v
 generalize x.getD c 0=w
 have:∀ m t:Int,t * (m - 1 - m)=-t:=fun m t=>by rw [show m - 1 - m=-1 by lia]; lia
 rw [this,this]
 lia
theorem wX{x:List Int}{j i:Nat}{d:Int}(h:j < x.length):(x.set j (x.getD j 0+d)).getD i 0=x.getD i 0+(if i=j then d else 0):=by
 rw [mQ h]
 by_cases e:j=i
 ·rw [if_pos e,if_pos e.symm,e]
 ·rw [if_neg e,if_neg (eC e),wz]
theorem TF{i a:Nat}:(if i=a then (2:Int) else 0)=2 * (if i=a then 1 else 0):=by split <;> rfl
theorem ite_neg{i a:Nat}:(if i=a then (-1:Int) else 0)=-(if i=a then 1 else 0):=by split <;> rfl
theorem Mp{n a b c:Nat}(ha:a < n)(hb:b < n)(hc:c < n):Ff n a b c=(bq n).map fun k:Nat=>2 * (if k=a then 1 else 0) - (if k=b then 1 else 0) - (if k=c then (1:Int) else 0):=by
 have l0:(aJ n (0:Int)).length=n:=bK
 apply E8
 ·rw [vP,ah,d4]
 ·intro i h1 h2
  have e:(Ff n a b c)[i]=(Ff n a b c).getD i 0:=by rw [az,ag h1]; rfl
  have z:(aJ n (0:Int)).set a 2=(aJ n (0:Int)).set a ((aJ n (0:Int)).getD a 0+2):=by rw [ph]; rfl
  rw [e]
  unfold Ff
  simp only [Int.sub_eq_add_neg,z]
  rw [wX (by rw [cb,cb,l0]; exact hc),wX (by rw [cb,l0]; exact hb),wX (by rw [l0]; exact ha),ph,Int.zero_add,TF,ite_neg,ite_neg,dJ,lD]
noncomputable def eqv(p n:Nat)(a b c:Nat):List Int:=(Ff n a b c).map (· % (p:Int))
theorem Mo{p n a b c:Nat}(hp:Pr p):wt p n (eqv p n a b c):=by
 have:=hp.pos
 refine⟨by unfold eqv; rw [ah,vP],fun v hv=>?_⟩
 obtain⟨x,_,rfl⟩:=List.mem_map.mp hv
 exact⟨dZ _ (by lia),dE _ (by lia)⟩
theorem Ms{p n a b c:Nat}(x:List Int):dot (eqv p n a b c) x % (p:Int)=dot (Ff n a b c) x % (p:Int):=by
 have:=Eu (p:=p) (i:=1) (Ff n a b c) x
 rw [tG] at this
 rw [← this]
 unfold eqv zx
 simp only [tG]
end xY
end K2
end
section
namespace K2
open PySem (Str)
open Enc (enc)
namespace xY
open K2.P
open K2.Bn (NB gH eQ dq dM cW eq_int eT)
theorem Mr{a:List Int}{q:Int}(h:0<=q/\q < a.length):oz (a.map D.int) q=some (.int (el a q)):=by
 rw [kQ _ h.1 (by rw [ah]; exact h.2)]
 simp only [dJ]
 unfold el
 rw [az,ag (by lia)]; rfl
theorem YX(a:List Int):(enc a:D)=.fG (a.map D.int):=rfl
theorem zf:∀ (a b:List Int),pf (a.map D.int) (b.map D.int)=(a.zip b).map fun x=>.tup [.int x.1,.int x.2]
 | [],_=>rfl
 | _ :: _,[]=>rfl
 | a :: as,b :: bs=>by
  show D.tup [.int a,.int b] :: pf (as.map D.int) (bs.map D.int)=_
  rw [zf as bs]; rfl
theorem w9:∀ (a:List Int) (k:Nat),lg k (a.map D.int)=(a.zipIdx k).map fun x=>.tup [.int (x.2:Nat),.int x.1]
 | [],_=>rfl
 | a :: as,k=>by
  show D.tup [.int (k:Nat),.int a] :: lg (k+1) (as.map D.int)=_
  rw [w9 as (k+1)]; rfl
theorem VN{p n:Nat}(hp:Pr p){a:List Int}(ha:wt p n a){j k:Int}:MulOk (el a j) k:=by
 have h:=ha.el hp j
 have:p < 10:=by rcases hp with rfl | rfl | rfl <;> decide
 exact .inl ⟨by lia,by lia⟩
noncomputable def zK:iT :=
 (cF (bQ (bg jt (aw 0) (aw 1)) (aI 4))
 (dH (gz (eI 2 [4,3] (Ko (aw 0) (aw 2)) (mj (fB (aI 0) (fB (aI 1) lM))) none (bg lI (bg tL (aw 0) (bg sI (aw 2) (aw 1))) (aw 3))))))
noncomputable def ku:oe:=fun ds G Q _=>∃ (p n:Nat) (a b:List Int) (q:Int),ds=[enc a,.int q,enc b,.int p]/\(Pr p/\n<=100/\wt p n a/\wt p n b/\0<=q/\q < n)/\Q (enc (ug p a q b)) G
theorem K6(ds:List D)(G:Gp)(Q:DK)(h:ku ds G Q fun _ _=>False):zK (fun _ _=>False) (ends Q) (bU 5 ds) G:=by
 obtain⟨p,n,a,b,q,rfl,⟨hp,hn,ha,hb,q0,q1⟩,qq⟩:=h
 have p0:=hp.pos
 unfold zK
 simp only [ends,bU,au,bb,ak,aG,aJ,aT,bh,cQ,bQ,bg,aw,aa,ae,aI,dH,gz,eI,ar,ai]
 refine gv (IsL.enc a) (Mr ⟨q0,by rw [ha.1]; exact q1⟩) ?_
 simp only [Ko,aw,aa,ae]
 refine CC (IsL.enc a) (IsL.enc b) fun ok cT=>?_
 rw [show a.map (enc:Int->D)=a.map D.int from rfl,show b.map (enc:Int->D)=b.map D.int from rfl,zf]
 refine⟨zq (by rw [ah,wd,ha.1,hb.1]; lia),?_⟩
 refine gF (xs:=a.zip b) (fun pre acc τ G'=>G=G'/\(∃ u v,τ=[u,v,some (.int (el a q)),some (.int p)])/\acc=(pre.map fun x=>(x.1 - el a q * x.2) % (p:Int)).map D.int) ⟨rfl,⟨_,_,rfl⟩,rfl⟩ (fun _ _ _ G' h=>cT _ (h.1 ▸ ig.refl _)) ?_ ?_
 ·rintro pre x post acc τ G' N e ⟨rfl,⟨u,v,rfl⟩,rfl⟩ hN
  simp only [mj,fB,aI,lM,bg,aw,ai,ar,aa,ae,iu,iq,eS]
  refine⟨VN hp ha,by lia,hN _ _ _ ⟨rfl,⟨_,_,rfl⟩,?_⟩⟩
  rw [aE,aE]; rfl
 ·rintro acc τ G' ⟨rfl,⟨u,v,rfl⟩,rfl⟩ pa fa
  refine iJ (xs:=(a.zip b).map fun x=>(x.1 - el a q * x.2) % (p:Int)) (.new fa) fa aO ?_
  have e:(a.zip b).map (fun x=>(x.1 - el a q * x.2) % (p:Int))=ug p a q b:=by
   unfold ug
   rw [← iC]; rfl
  rw [e]; exact qq
noncomputable def tq:iT :=
 (cF (bQ (eI 2 [] (rz (aw 0)) (mj (fB (aI 0) (fB (aI 1) lM))) (some (gJ (bg (xI true) (aw 1) (dC (.int 0))))) (aw 0)) (aI 1))
 (dH (gz (Xa (gJ (aw 1)) (bg jt (aw 1) (yn FX (dC (.int 1)))) (dC .du)))))
noncomputable def QC(e:List Int):D:=match pR e with
 | none=>.du
 | some l=>.int (l:Nat)
noncomputable def kN:oe:=fun ds G Q _=>∃ a:List Int,ds=[enc a]/\a.length<=100/\Q (QC a) G
theorem Qo:∀ (a:List Int) (k:Nat),((a.zipIdx k).filter fun x=>x.1 != 0).map (·.2)=((bq a.length).filter fun j=>a.getD j 0 != 0).map (k+·)
 | [],_=>rfl
 | a :: as,k=>by
  rw [tE,ak,List.range_succ_eq_map]
  have ih:=Qo as (k+1)
  simp only [km,oZ,List.filter_map]
  have e:((fun j=>(a :: as).getD j 0 != 0)∘Nat.succ)=fun j=>as.getD j 0 != 0:=by funext j; rfl
  rw [e]
  split <;> simp [ih,R3,Nat.add_assoc,Nat.add_comm 1]
theorem BW(ds:List D)(G:Gp)(Q:DK)(h:kN ds G Q fun _ _=>False):tq (fun _ _=>False) (ends Q) (bU 2 ds) G:=by
 obtain⟨a,rfl,hl,qq⟩:=h
 unfold tq
 simp only [ends,bU,au,bb,ak,aG,aJ,aT,bh,cQ,bQ,eI,rz,aw,aa,aI,dH,gz,ar,ai]
 refine kZ ?_
 rw [show a.map (enc:Int->D)=a.map D.int from rfl,w9]
 refine⟨zq (by rw [ah,List.length_zipIdx]; lia),?_⟩
 refine gF (xs:=a.zipIdx 0) (fun pre acc τ G'=>G=G'/\(∃ u v,τ=[u,v])/\acc=((pre.filter fun x=>x.1 != 0).map (·.2)).map fun j:Nat=>D.int j) ⟨rfl,⟨_,_,rfl⟩,rfl⟩ (fun _ _ _ _ _=>trivial) ?_ ?_
 ·rintro pre x post acc τ G' N e ⟨rfl,⟨u,v,rfl⟩,rfl⟩ hN
  simp only [mj,fB,aI,lM,ai,ar,aw,aa,dD,bg,ae,dC]
  refine⟨_,_,.int _,.int _,?_⟩
  rw [eq_int]
  by_cases c:x.1=0
  ·simp only [c,decide_true,bP,if_true,bS,aF,if_false]
   refine hN _ _ _ ⟨rfl,⟨_,_,rfl⟩,?_⟩
   rw [cZ]; simp [c]
  ·simp only [c,decide_false,cY,if_true,bS]
   refine hN _ _ _ ⟨rfl,⟨_,_,rfl⟩,?_⟩
   rw [cZ]; simp [c]
 ·rintro acc τ G' ⟨rfl,⟨u,v,rfl⟩,rfl⟩ pa fa
  rw [Qo]
  have ez:((bq a.length).filter fun j=>a.getD j 0 != 0).map (0+·)=(bq a.length).filter fun j=>a.getD j 0 != 0:=by simp
  rw [ez]
  unfold QC pR at qq
  generalize (bq a.length).filter (fun j=>a.getD j 0 != 0)=L at qq
  simp only [Xa,bg,aw,ae,aa,yn,dC,oM,dD]
  refine zk (IsL.ref aO) ?_
  rcases List.eq_nil_or_concat L with rfl | ⟨L',l,rfl⟩
  ·simp only [bb,tF,bP,aF,if_false]
   exact yP (.new fa) qq
  ·simp only [List.isEmpty_map]
   have:(L'++[l]).isEmpty=false:=by simp
   simp only [RZ,this,cY,if_true]
   refine gv (x:=.int (l:Nat)) (IsL.ref aO) ?_ ?_
   ·unfold oz Ef
    simp only [ah,aq,bp]
    rw [if_neg (by lia),if_pos (by lia)]
    have:((-1:Int)+((L'.length+1:Nat):Int)).toNat=L'.length:=by lia
    rw [this]
    simp
   ·simp only [RZ,List.getLast?_concat] at qq
    exact yP (.new fa) qq
noncomputable def Cj:iT :=
 (cF (bQ (bg jt (eI 1 [0,1,2] (mP (aw 2)) (aI 0) (some (gJ (bg (xI false) (bg lI (bg sI (aw 0) (bg jt (aw 1) (aw 2))) (aw 3)) (dC (.int 1))))) (aw 0)) (dC (.int 0))) (aI 3))
 (dH (gz (eI 1 [3,2] (lK (aw 0)) (aI 0) none (bg lI (bg sI (aw 0) (aw 1)) (aw 2))))))
noncomputable def rX:oe:=fun ds G Q _=>∃ (p n:Nat) (a:List Int) (l:Nat),ds=[enc a,.int (l:Nat),.int p]/\(Pr p/\n<=100/\wt p n a/\l < n/\el a (l:Nat)≠0)/\Q (enc (zx p a (inv1 p (el a (l:Nat))))) G
theorem Ov(ds:List D)(G:Gp)(Q:DK)(h:rX ds G Q fun _ _=>False):Cj (fun _ _=>False) (ends Q) (bU 4 ds) G:=by
 obtain⟨p,n,a,l,rfl,⟨hp,hn,ha,hl,hz⟩,qq⟩:=h
 have p0:=hp.pos
 have p1:p < 10:=by rcases hp with rfl | rfl | rfl <;> decide
 have ub:=ha.el hp (l:Nat)
 obtain⟨-,ne⟩:=Ma hp (u:=el a (l:Nat)) (by lia)
 unfold Cj
 simp only [ends,bU,au,bb,ak,aG,aJ,aT,bh,cQ,bQ,bg,eI,dC,aI,dH,gz,ar,ai,eW,aw,aa,gE,ae,fO,aX]
 refine⟨by lia,by lia,zq (by simp [dR]; lia),?_⟩
 refine vW (fun pre acc τ G'=>G=G'/\(∃ u,τ=[u,some (enc a),some (.int (l:Nat)),some (.int p)])/\acc=((bq pre.length).filter fun (k:Nat)=>(k:Int) * el a (l:Nat) % (p:Int) == 1).map fun j:Nat=>D.int j) ⟨rfl,⟨_,rfl⟩,rfl⟩ (fun _ _ _ _ _=>trivial) ?_ ?_
 ·rintro pre x post acc τ G' N e ⟨rfl,⟨u,rfl⟩,rfl⟩ hN
  obtain⟨rfl,lG⟩:=jN e
  simp only [aI,ai,aw,aa,dD,bg,ae,dC]
  refine gv (IsL.enc a) (Mr ⟨by lia,by rw [ha.1]; lia⟩) ?_
  simp only [iu,eS]
  refine⟨.inl ⟨by lia,by lia⟩,by lia,_,_,.int _,.int _,?_⟩
  rw [eq_int]
  by_cases c:(pre.length:Int) * el a (l:Nat) % (p:Int)=1
  ·simp only [aF,c,decide_true,bP,if_false,bS,if_true]
   refine hN _ _ _ ⟨rfl,⟨_,rfl⟩,?_⟩
   rw [aq,bp,lB,cZ]; simp [c]
  ·simp only [aF,c,decide_false,cY,if_false,bS]
   refine hN _ _ _ ⟨rfl,⟨_,rfl⟩,?_⟩
   rw [aq,bp,lB,cZ]; simp [c]
 ·rintro acc τ G' ⟨rfl,⟨u,rfl⟩,rfl⟩ pa fa
  have er:(dR 0 p).length=p:=by simp [dR]
  rw [er]
  have ei:inv1 p (el a (l:Nat))=(((bq p).filter fun (k:Nat)=>(k:Int) * el a (l:Nat) % (p:Int) == 1).headD 0:Nat):=rfl
  generalize (bq p).filter (fun (k:Nat)=>(k:Int) * el a (l:Nat) % (p:Int) == 1)=L at ne ei
  rw [ei] at qq
  cases L with
  | nil=>exact absurd rfl ne
  | cons g L =>
   refine gv (x:=.int (g:Nat)) (IsL.ref aO) (by simp [oz,Ef]) ?_
   simp only [au]
   refine gU ⟨zq (by rw [ah,ha.1]; lia),?_⟩
   generalize hG:fK G pa (.lst (D.int (g:Nat) :: L.map fun j:Nat=>D.int j))=G1
   refine gF (xs:=a) (fun pre acc τ G'=>G1=G'/\(∃ u,τ=[u,some (.int (g:Nat)),some (.int p)])/\acc=(pre.map fun f=>f * (g:Int) % (p:Int)).map D.int) ⟨rfl,⟨_,rfl⟩,rfl⟩ (fun _ _ _ _ _=>trivial) ?_ ?_
   ·rintro pre x post acc τ G' N e ⟨rfl,⟨u,rfl⟩,rfl⟩ hN
    have hx:=ha.2 x (by rw [e]; simp)
    simp only [aI,bg,aw,ai,aa,ae]
    show sI (.int x) (.int (g:Nat)) _ _
    simp only [iu,eS]
    refine⟨.inl ⟨by lia,by lia⟩,by lia,hN _ _ _ ⟨rfl,⟨_,rfl⟩,?_⟩⟩
    rw [aE,aE]; rfl
   ·rintro acc τ G' ⟨rfl,⟨u,rfl⟩,rfl⟩ pb fb
    subst hG
    exact iJ (xs:=zx p a (g:Nat)) ((ig.new fa).trans (.new fb)) (by
     cases e:G pb with
     | none=>rfl
     | some o=>have:=(ig.new (o:=.lst (D.int (g:Nat) :: L.map fun j:Nat=>D.int j)) fa) pb o e; rw [this] at fb; cases fb) aO qq
end xY
end K2
end
section
namespace K2
open PySem (Str)
open Enc (enc)
namespace xY
open K2.P
open K2.Bn (NB gH eQ dq dM cW eq_int eT iA)
open K2.K8 (gu uy tJ P3 gb In)
theorem oH{a:Nat}{xs:List D}{j:Nat}{v:D}{G:Gp}{Q:Gp->Prop}(h:G a=some (.lst xs))(hj:j < xs.length)(q:Q (fK G a (.lst (xs.set j v)))):uQ (.ref a) (.int (j:Int)) v G Q:=by
 unfold uQ
 simp only [h]
 have:Ef xs.length (j:Int)=some j:=by
  unfold Ef
  rw [if_pos (by lia),if_pos (by lia),aX]
 rw [this]; exact q
theorem xN{a:List Int}{j:Nat}(h:j < a.length):oz (a.map D.int) (j:Int)=some (.int (a.getD j 0)):=by
 rw [Mr ⟨by lia,by lia⟩]; unfold el; rw [aX]
noncomputable def qW:iT :=
 (cF (bQ (eI 1 [] (mP (aw 1)) (aI 0) none (dC (.int 0))) (aI 3))
 (cF (bQ (bg qv (bg jt (aw 3) (bg jt (aw 0) (dC (.int 0)))) (dC (.int 2))) (mR (aw 3) (bg jt (aw 0) (dC (.int 0)))))
 (cF (bQ (bg tL (bg jt (aw 3) (bg jt (aw 0) (dC (.int 1)))) (dC (.int 1))) (mR (aw 3) (bg jt (aw 0) (dC (.int 1)))))
 (cF (bQ (bg tL (bg jt (aw 3) (bg jt (aw 0) (dC (.int 2)))) (dC (.int 1))) (mR (aw 3) (bg jt (aw 0) (dC (.int 2)))))
 (dH (gz (eI 1 [2] (lK (aw 3)) (aI 0) none (bg lI (aw 0) (aw 1)))))))))
noncomputable def j4:oe:=fun ds G Q _=>∃ (p n a b c:Nat),ds=[.tup [.int (a:Nat),.int (b:Nat),.int (c:Nat)],.int (n:Nat),.int (p:Nat)]/\(Pr p/\n<=100/\a < n/\b < n/\c < n)/\Q (enc (eqv p n a b c)) G
theorem Ba(ds:List D)(G:Gp)(Q:DK)(h:j4 ds G Q fun _ _=>False):qW (fun _ _=>False) (ends Q) (bU 4 ds) G:=by
 obtain⟨p,n,a,b,c,rfl,⟨hp,hn,ha,hb,hc⟩,qq⟩:=h
 have p0:=hp.pos
 unfold qW
 simp only [ends,bU,au,bb,ak,aG,aJ,aT,bh,cQ,bQ,eI,aI,ar,ai,bg,aw,ae,aa,dC,g4,gE,fO,aX]
 refine⟨by lia,by lia,zq (by simp [dR]; lia),?_⟩
 refine vW (fun pre acc τ G'=>G=G'/\(∃ u,τ=[u])/\acc=(aJ pre.length (0:Int)).map D.int) ⟨rfl,⟨_,rfl⟩,rfl⟩ (fun _ _ _ _ _=>trivial) ?_ ?_
 ·rintro pre x post acc τ G' N e ⟨rfl,⟨u,rfl⟩,rfl⟩ hN
  simp only [aI,dC,ai]
  refine hN _ _ _ ⟨rfl,⟨_,rfl⟩,?_⟩
  rw [aq,bp,xj,aE]; rfl
 rintro acc τ G' ⟨rfl,⟨u,rfl⟩,rfl⟩ pa fa
 have er:(dR 0 n).length=n:=by simp [dR]
 rw [er]
 have Zv:∀ x y z:D,oz [x,y,z] 0=some x:=fun _ _ _=>rfl
 have Sq:∀ x y z:D,oz [x,y,z] 1=some y:=fun _ _ _=>rfl
 have at2:∀ x y z:D,oz [x,y,z] 2=some z:=fun _ _ _=>rfl
 simp only [Zv,mR,aw,ae,aa,bg,dC,cQ,bQ,dH,gz,eI,eW,g4,at2,Sq]
 refine gv (IsL.ref aO) (xN (a:=aJ n 0) (by simp; exact ha)) ?_
 simp only [ph,iw]
 refine oH aO (by simp; exact ha) ?_
 rw [show (0:Int)+2=2 from rfl,← wc (f:=D.int)]
 refine gv (IsL.ref aO) (xN (by simp; exact hb)) ?_
 simp only [iq]
 refine oH aO (by simp; exact hb) ?_
 rw [← wc (f:=D.int)]
 refine gv (IsL.ref aO) (xN (by simp; exact hc)) ?_
 simp only [iq]
 refine oH aO (by simp; exact hc) ?_
 rw [← wc (f:=D.int)]
 have ee:(((aJ n (0:Int)).set a 2).set b (((aJ n (0:Int)).set a 2).getD b 0 - 1)).set c ((((aJ n (0:Int)).set a 2).set b (((aJ n (0:Int)).set a 2).getD b 0 - 1)).getD c 0 - 1)=Ff n a b c:=rfl
 rw [ee]
 refine QQ (IsL.ref aO) fun ok cT=>?_
 have l0:=vP (n:=n) (a:=a) (b:=b) (c:=c)
 refine⟨zq (by rw [ah,l0]; lia),?_⟩
 have le:ig G (fK (fK (fK (fK G pa (.lst ((aJ n (0:Int)).map D.int))) pa (.lst (((aJ n (0:Int)).set a 2).map D.int))) pa (.lst ((((aJ n (0:Int)).set a 2).set b (((aJ n (0:Int)).set a 2).getD b 0 - 1)).map D.int))) pa (.lst ((Ff n a b c).map D.int))):=(((ig.new fa).put fa).put fa).put fa
 generalize fK (fK (fK (fK G pa (.lst ((aJ n (0:Int)).map D.int))) pa (.lst (((aJ n (0:Int)).set a 2).map D.int))) pa (.lst ((((aJ n (0:Int)).set a 2).set b (((aJ n (0:Int)).set a 2).getD b 0 - 1)).map D.int))) pa (.lst ((Ff n a b c).map D.int))=G1 at *
 refine gF (xs:=Ff n a b c) (f:=D.int) (fun pre acc τ G'=>G1=G'/\(∃ u,τ=[u,some (.int p)])/\acc=(pre.map (· % (p:Int))).map D.int) ⟨rfl,⟨_,rfl⟩,rfl⟩ (fun _ _ _ G' h=>cT _ (h.1 ▸ ig.refl _)) ?_ ?_
 ·rintro pre x post acc τ G' N e ⟨rfl,⟨u,rfl⟩,rfl⟩ hN
  simp only [aI,bg,aw,ai,aa,ae,eS]
  refine⟨by lia,hN _ _ _ ⟨rfl,⟨_,rfl⟩,?_⟩⟩
  rw [aE,aE]; rfl
 ·rintro acc τ G' ⟨rfl,⟨u,rfl⟩,rfl⟩ pb fb
  exact iJ (xs:=eqv p n a b c) (le.trans (.new fb)) (le.free fb) aO qq
theorem Ri(a:List Int):HI (enc a)=true:=by
 show ((a.map D.int).all tM)=true
 rw [wj]; exact List.all_eq_true.mpr fun _ _=>rfl
theorem RO{κ β:Type} [DecidableEq κ]{A B:List (κ×β)}{k:κ}{x v:β}(hA:k∉A.map (·.1))(hB:k∉B.map (·.1)):nG (A++(k,x) :: B) k v=A++(k,v) :: B:=by
 unfold nG
 rw [if_pos (by simp)]
 rw [aE,au]
 have e:∀ (l:List (κ×β)),k∉l.map (·.1)->l.map (fun p=>if p.1=k then (p.1,v) else p)=l:=fun l h=>by
  conv=>rhs; rw [← List.map_id l]
  apply oY
  intro p hp
  have ne:p.1≠k:=fun z=>h (z ▸ aW hp)
  rw [if_neg ne]; rfl
 rw [e A hA,e B hB]
 simp
theorem QD(R:List (Int×List Int)):(bO R).map (·.1)=R.map fun r=>D.int r.1:=by
 unfold bO; rw [bV]; rfl
theorem Mj{p n:Nat}(hp:Pr p)(hn:n<=100){R0:List (Int×List Int)}(h:Red p n R0){Z:iH->Prop}{E:lP}{e1 e3:Option D}:∀ (R:List (Int×List Int)) (a:List Int) (G:Gp) (u5 u6:Option D),(∀ r∈R,r∈R0)->wt p n a ->
  (∀ u5,Z [e1,some (.int (p:Nat)),some (.kg (bO R0)),e3,some (enc (jC p R a)),u5,u6]) ->
  YN 5 4 (cz ku (aK (aw 4) (aK (aw 5) (aK (bg jt (aw 2) (aw 5)) (aK (aw 1) bL))))) (R.map fun r=>D.int r.1) E [e1,some (.int (p:Nat)),some (.kg (bO R0)),e3,some (enc a),u5,u6] G Z
 | [],a,G,u5,u6,_,_,z=>z u5
 | r :: R,a,G,u5,u6,hR,ha,z=>by
  have hr:=hR r ay
  rw [au]
  unfold YN
  simp only [cz,aK,aw,ar,ai,ae,aa,bg,bL,pF]
  refine⟨gf (κ:=Int) R0 r.1,?_⟩
  have lk:look (bO R0) (.int r.1)=some (enc r.2):=by
   rw [show D.int r.1=enc r.1 from rfl,jB,hV h.nd hr]; rfl
  rw [lk]
  refine⟨p,n,a,r.2,r.1,rfl,⟨hp,hn,ha,(h.ok r hr).2,(h.ok r hr).1.1,(h.ok r hr).1.2⟩,?_⟩
  exact Mj hp hn h R (ug p a r.1 r.2) G _ u6 (fun q hq=>hR q (ao _ hq)) (ha.ug hp (h.ok r hr).2) z
noncomputable def Ci:iT :=
 (cF (bQ ue (aI 2))
 (cF (fW (lK (aw 0)) (aI 3) (cF (bQ (aw 3) (aI 4))
 (cF (UU 2 5 4 (cz ku (aK (aw 4) (aK (aw 5) (aK (bg jt (aw 2) (aw 5)) (aK (aw 1) bL))))))
 (cF (bQ (cz kN (aK (aw 4) bL)) (aI 6))
 (mZ (gJ (yn (vj true) (aw 6))) (cF (bQ (cz rX (aK (aw 4) (aK (aw 6) (aK (aw 1) bL)))) (aI 4))
 (cF (fW (lK (mD EF (aK (aw 2) bL))) (aI 5) (bQ (cz ku (aK (bg jt (aw 2) (aw 5)) (aK (aw 6) (aK (aw 4) (aK (aw 1) bL))))) (mR (aw 2) (aw 5))))
 (bQ (aw 4) (mR (aw 2) (aw 6))))) eY)))))
 (dH (gz (aw 2)))))
noncomputable def rW:oe:=fun ds G Q _=>∃ (p n:Nat) (es:List (List Int)),ds=[enc es,.int (p:Nat)]/\(Pr p/\n<=100/\es.length<=100/\∀ e∈es,wt p n e)/\Q (.kg (bO (es.foldl (sF p) []))) G
theorem PJ{p:Nat}{R:List (Int×List Int)}{e:List Int}:(sF p R e).length<=R.length+1:=by
 unfold sF
 split
 ·lia
 ·simp
theorem Ou(ds:List D)(G:Gp)(Q:DK)(h:rW ds G Q fun _ _=>False):Ci (fun _ _=>False) (ends Q) (bU 7 ds) G:=by
 obtain⟨p,n,es,rfl,⟨hp,hn,he,hv⟩,qq⟩:=h
 have p0:=hp.pos
 unfold Ci
 simp only [ends,bU,au,bb,ak,aG,aJ,aT,bh,cQ,bQ,ue,aI,ar,ai]
 intro pd fd
 refine fI (fun τ G'=>(ig G G'/\G' pd=some (.iO (bO (es.foldl (sF p) []))))/\∃ a b c d,τ=[some (enc es),some (.int (p:Nat)),some (.ref pd),a,b,c,d]) ?_ ?_
 ·intro N hN
  simp only [fW,eW,aw,aa]
  refine gU ?_
  refine fZ (xs:=es) (fun pre τ G'=>(ig G G'/\G' pd=some (.iO (bO (pre.foldl (sF p) []))))/\(Red p n (pre.foldl (sF p) [])/\(pre.foldl (sF p) []).length<=pre.length)/\∃ a b c d,τ=[some (enc es),some (.int (p:Nat)),some (.ref pd),a,b,c,d]) ⟨⟨.new fd,aO⟩,⟨LD,aM _⟩,_,_,_,_,rfl⟩ (fun _ _ _ _=>trivial) ?_ ?_
  ·rintro pre e post τ G' N2 ee ⟨⟨le,gd⟩,⟨hR,TR⟩,a3,a4,a5,a6,rfl⟩ kO
   have Kr:pre.length<=100:=by
    have:es.length=pre.length+(e :: post).length:=by rw [ee,aq]
    lia
   have hve:=hv e (by rw [ee]; simp)
   rw [jS,dQ,Lj] at kO
   generalize hRR:pre.foldl (sF p) []=R at *
   obtain⟨i1,i2,i3⟩:=D7 hp R hR [] R e rfl hve (fun r hr=>by cases hr)
   have hS:=Ls hp hR hve
   have hF:=PJ (p:=p) (R:=R) (e:=e)
   simp only [aI,ar,ai,cQ,bQ,aw,ae,aa]
   refine fI (fun τ G2=>G'=G2/\τ=[some (enc es),some (.int (p:Nat)),some (.ref pd),some (enc e),some (enc (jC p R e)),none,a6]) ?_ ?_
   ·intro N3 tV
    refine⟨pd,bO R,rfl,gd,?_⟩
    rw [QD]
    exact Mj hp hn hR R e _ a5 a6 (fun _ h=>h) hve fun u5=>⟨enc (jC p R e),rfl,Ri _,tV _ _ ⟨rfl,rfl⟩⟩
   ·rintro _ _ ⟨rfl,rfl⟩
    simp only [cQ,bQ,cz,aK,aw,ae,aa,bL,aI,ar,ai]
    refine⟨_,rfl,by rw [i1.1]; exact hn,?_⟩
    unfold sF at kO hS hF
    unfold QC
    cases hl:pR (jC p R e) with
    | none =>
     rw [hl] at kO hS hF
     simp only [eT,cQ,bQ,cz,aK,aw,ae,aa,bL,aI,ar,ai,eY,dD,yn,vj,bP,bS,aF,if_false]
     exact kO _ _ ⟨⟨le,gd⟩,⟨hR,by rw [aq]; exact cG TR (gC _ _)⟩,_,_,_,_,rfl⟩
    | some l =>
     rw [hl] at kO hS hF
     obtain⟨l1,l2,l3⟩:=xK hl
     simp only [eT,cQ,bQ,cz,aK,aw,ae,aa,bL,aI,ar,ai,eY,dD,yn,vj,bS,if_true]
     refine⟨p,n,_,l,rfl,⟨hp,hn,i1,by rw [← i1.1]; exact l1,l2⟩,?_⟩
     have v2:wt p n (zx p (jC p R e) (inv1 p (el (jC p R e) (l:Nat)))):=i1.zx hp
     dsimp only at kO hS hF
     generalize zx p (jC p R e) (inv1 p (el (jC p R e) (l:Nat)))=s at *
     have ne:∀ r∈R,r.1≠(l:Int):=fun r hr z=>l2 (z ▸ i2 r hr)
     refine fI (fun τ G2=>(ig G G2/\G2 pd=some (.iO (bO (R.map fun r=>(r.1,ug p r.2 (l:Nat) s)))))/\∃ u,τ=[some (enc es),some (.int (p:Nat)),some (.ref pd),some (enc e),some (enc s),u,some (.int (l:Nat))]) ?_ ?_
     ·intro N3 tV
      simp only [fW,eW,mD,aK,aw,ae,aa,bL,EF,gd]
      refine⟨by rw [CN]; lia,?_⟩
      rw [QD]
      intro pl fl
      have ZU:pl≠pd:=fun z=>by rw [z,gd] at fl; cases fl
      rw [Md,aO]
      refine fZ (xs:=R) (f:=fun r=>D.int r.1) (fun pre τ G2=>(ig G G2/\G2 pl=some (.lst (R.map fun r=>D.int r.1)))/\G2 pd=some (.iO (bO (pre.map (fun r=>(r.1,ug p r.2 (l:Nat) s))++R.drop pre.length)))/\∃ u,τ=[some (enc es),some (.int (p:Nat)),some (.ref pd),some (enc e),some (enc s),u,some (.int (l:Nat))]) ⟨⟨le.trans (.new fl),aO⟩,by rw [dU (eC ZU)]; exact gd,_,rfl⟩ (fun _ _ _ h=>h.1.2) ?_ ?_
      ·rintro pr r po τ G2 N4 e4 ⟨⟨NH,gl2⟩,UQ,u,rfl⟩ W7
       have hr:r∈R:=by rw [e4]; simp
       have nd:=hR.nd
       rw [e4,aE,au,cm,cD] at nd
       have k1:r.1∉(pr.map fun r=>(r.1,ug p r.2 (l:Nat) s)).map (·.1):=by
        rw [bV]
        exact fun z=>nd.2.2 r.1 z r.1 ay rfl
       have ed:R.drop pr.length=r :: po:=by rw [e4,List.drop_left]
       rw [ed] at UQ
       simp only [aI,bQ,cz,aK,bg,aw,ar,ai,ae,aa,bL,mR]
       rw [LG]
       simp only [UQ]
       have lk:look (bO (pr.map (fun r=>(r.1,ug p r.2 (l:Nat) s))++r :: po)) (.int r.1)=some (enc r.2):=by
        rw [show D.int r.1=enc r.1 from rfl,jB,hV (p:=r) ?_ (by simp)]; rfl
        rw [aE,bV,au,cm,cD]
        exact nd
       refine⟨gf (κ:=Int) _ r.1,?_⟩
       rw [lk]
       refine⟨p,n,r.2,s,(l:Nat),rfl,⟨hp,hn,(hR.ok r hr).2,v2,by lia,by rw [← i1.1]; lia⟩,?_⟩
       refine K2.jU UQ (Dv (by
        have:R.length=pr.length+(r :: po).length:=by rw [e4,aq]
        rw [aq,ah]; lia)) ?_
       rw [show (r :: po)=(r.1,r.2) :: po from rfl,RO k1 nd.2.1.1]
       refine W7 _ _ ⟨⟨NH.put fd,by rw [dU ZU]; exact gl2⟩,?_,_,rfl⟩
       rw [aO,aE,aq,bp]
       have:R.drop (pr.length+1)=po:=by rw [← List.drop_drop,ed]; rfl
       rw [this,cH]; rfl
      ·rintro τ G2 ⟨⟨NH,_⟩,UQ,u,rfl⟩
       rw [List.drop_length,cc] at UQ
       exact tV _ _ ⟨⟨NH,UQ⟩,_,rfl⟩
     ·rintro _ G2 ⟨⟨NH,UQ⟩,u,rfl⟩
      simp only [bQ,aw,ae,aa,mR]
      refine K2.jU UQ (Dv (by rw [ah]; lia)) ?_
      rw [rS (by
       rw [bV]
       intro z
       obtain⟨r,hr,e⟩:=List.mem_map.mp z
       exact ne r hr e)]
      exact kO _ _ ⟨⟨NH.put fd,aO⟩,⟨hS.1,by rw [aq,ah,aq]; exact Nat.add_le_add TR (aM 1)⟩,_,_,_,_,rfl⟩
  ·rintro τ G2 ⟨h1,_,h3⟩
   exact hN _ _ ⟨h1,h3⟩
 ·rintro _ G2 ⟨⟨le,gd⟩,a,b,c,d,rfl⟩
  simp only [dH,gz,aw,ae,aa]
  exact wY le fd gd qq
end xY
end K2
end
section
namespace K2
open PySem (Str)
open Enc (enc)
namespace xY
open K2.P
open K2.Bn (NB gH eQ dq dM cW eq_int eT iA)
open K2.K8 (wL gu uy tJ P3 gb In)
theorem PB{p:Nat}(hp:Pr p):p < 10:=by rcases hp with rfl | rfl | rfl <;> decide
theorem TC{R:List (Int×List Int)}{G:Gp}{Z:List D->(Gp->Prop)->Gp->Prop}(h:Z (R.map fun r=>.tup [.int r.1,enc r.2]) (fun _=>True) G):Hj (.kg (bO R)) G Z:=by
 refine⟨NL R,?_⟩
 have:(bO R).map (fun p=>D.tup [p.1,p.2])=R.map fun r=>.tup [.int r.1,enc r.2]:=by unfold bO; rw [bV]; rfl
 rw [this]; exact h
noncomputable def nY:iT :=
 (cF (bQ (eI 1 [] (mP (aw 2)) (aI 0) none (dC (.int 0))) (aI 4))
 (cF (bQ (dC (.int 1)) (mR (aw 4) (aw 1)))
 (cF (fW (Kq (aw 0)) (mj (fB (aI 5) (fB (aI 6) lM))) (bQ (bg lI (yn FX (bg jt (aw 6) (aw 1))) (aw 3)) (mR (aw 4) (aw 5))))
 (dH (gz (aw 4))))))
noncomputable def iK:oe:=fun ds G Q _=>∃ (p n f:Nat) (R:List (Int×List Int)),ds=[.kg (bO R),.int (f:Nat),.int (n:Nat),.int (p:Nat)]/\(Pr p/\n<=100/\f < n/\Red p n R)/\Q (enc (cf p n R f)) G
theorem v8(ds:List D)(G:Gp)(Q:DK)(h:iK ds G Q fun _ _=>False):nY (fun _ _=>False) (ends Q) (bU 7 ds) G:=by
 obtain⟨p,n,f,R,rfl,⟨hp,hn,hf,hR⟩,qq⟩:=h
 have p0:=hp.pos
 unfold nY
 simp only [ends,bU,au,bb,ak,aG,aJ,aT,bh,cQ,bQ,eI,aI,ar,ai,dC,gE,aw,ae,aa,fO,aX]
 refine⟨by lia,by lia,zq (by simp [dR]; lia),?_⟩
 refine vW (fun pre acc τ G'=>G=G'/\(∃ u,τ=[u])/\acc=(aJ pre.length (0:Int)).map D.int) ⟨rfl,⟨_,rfl⟩,rfl⟩ (fun _ _ _ _ _=>trivial) ?_ ?_
 ·rintro pre x post acc τ G' N e ⟨rfl,⟨u,rfl⟩,rfl⟩ hN
  simp only [aI,dC,ai]
  refine hN _ _ _ ⟨rfl,⟨_,rfl⟩,?_⟩
  rw [aq,bp,xj,aE]; rfl
 rintro acc τ G' ⟨rfl,⟨u,rfl⟩,rfl⟩ pa fa
 have er:(dR 0 n).length=n:=by simp [dR]
 rw [er]
 simp only [mR,aw,ae,aa]
 refine oH aO (by simp; exact hf) ?_
 rw [← wc (f:=D.int)]
 refine fI (fun τ G'=>(ig G G'/\G' pa=some (.lst ((cf p n R f).map D.int)))/\∃ a b c d e g,τ=[a,b,c,d,some (.ref pa),e,g]) ?_ ?_
 ·intro N hN
  simp only [fW,Kq,aw,aa]
  refine TC ?_
  refine fZ (xs:=R) (f:=fun r=>D.tup [.int r.1,enc r.2]) (fun pre τ G'=>(ig G G'/\G' pa=some (.lst ((fs (fun r=>(-(el r.2 (f:Nat))) % (p:Int)) pre ((aJ n 0).set f 1)).map D.int)))/\∃ e g,τ=[some (.kg (bO R)),some (.int (f:Nat)),some (.int (n:Nat)),some (.int (p:Nat)),some (.ref pa),e,g]) ⟨⟨(ig.new fa).put fa,aO⟩,_,_,rfl⟩ (fun _ _ _ _=>trivial) ?_ ?_
  ·rintro pre r post τ G' N2 e ⟨⟨le,gp⟩,e1,e2,rfl⟩ kO
   have hr:r∈R:=by rw [e]; simp
   have hv:=(hR.ok r hr).2
   have kl:=pU hR hr
   simp only [mj,fB,aI,lM,bQ,bg,yn,aw,ar,ai,ae,aa,mR]
   refine gv (IsL.enc r.2) (Mr ⟨by lia,by rw [hv.1]; lia⟩) ?_
   simp only [oM,eS]
   refine⟨by lia,?_⟩
   have ei:r.1=((r.1.toNat:Nat):Int):=by lia
   have go:∀ Z:Gp->Prop,Z (fK G' pa (.lst (((fs (fun r=>(-(el r.2 (f:Nat))) % (p:Int)) pre ((aJ n 0).set f 1)).map D.int).set r.1.toNat (.int (-(el r.2 (f:Nat)) % (p:Int))))))->uQ (.ref pa) (.int r.1) (.int (-(el r.2 (f:Nat)) % (p:Int))) G' Z:=fun Z hZ=>by
    rw [ei]
    exact oH gp (by rw [ah,Kw,cb,bK]; exact kl.2) hZ
   refine go _ ?_
   rw [← wc (f:=D.int)]
   refine kO _ _ ⟨⟨le.put fa,?_⟩,_,_,rfl⟩
   rw [aO]
   unfold fs
   rw [jS]; rfl
  ·rintro τ G' ⟨h1,e1,e2,rfl⟩
   exact hN _ _ ⟨h1,_,_,_,_,_,_,rfl⟩
 ·rintro _ G' ⟨⟨le,gp⟩,a,b,c,d,e,g,rfl⟩
  simp only [dH,gz,aw,ae,aa]
  exact iJ (xs:=cf p n R f) le fa gp qq
theorem QM{R:List (Int×List Int)}{j:Int}{G:Gp}{Q:DK}(q:Q (.bl (decide (j∉R.map (·.1)))) G):Nf true (.int j) (.kg (bO R)) G Q:=by
 cases hR:R with
 | nil =>
  subst hR
  exact⟨⟨j,rfl⟩,by simpa using q⟩
 | cons r R' =>
  rw [← hR]
  have ne:bO R≠[]:=by rw [hR]; simp [bO]
  rw [LJ (fun z=>ne (by injection z))]
  refine⟨ne,gf (κ:=Int) R j,?_⟩
  have e:(!(look (bO R) (.int j)).isSome)=decide (j∉R.map (·.1)):=by
   rw [show D.int j=enc j from rfl,jB,lT]
   unfold qe
   rw [lT,o1,decide_eq_true_iff,rV,← Fe,List.find?_isSome]
   simp
  rw [if_pos rfl,e]; exact q
noncomputable def eqT(p n:Nat)(t:T3):List Int:=eqv p n t.a.toNat t.b.toNat t.c.toNat
noncomputable def uP(p:Nat)(rows:Rows):List (Int×List Int):=(((names rows).map (uy rows)).map (eqT p (cW rows).length)).foldl (sF p) []
noncomputable def FU:iT :=
 (cF (iM (cz gb (aK (aw 1) bL)))
 (cF (bQ (mD nF (aK (cz gH (aK (aw 0) bL)) bL)) (aI 2))
 (cF (bQ (cz rW (aK (gz (eI 1 [2,1] (lK (cz gu (aK (aw 0) bL))) (aI 0) none (cz j4 (aK (aw 0) (aK (aw 1) (aK (aw 2) bL)))))) (aK (gz (aw 1)) bL))) (aI 3))
 (dH (gz (eI 1 [3,2,1] (mP (aw 2)) (aI 0) (some (gJ (bg (Nf true) (aw 0) (aw 1)))) (cz iK (aK (aw 1) (aK (aw 0) (aK (aw 2) (aK (aw 3) bL)))))))))))
noncomputable def So(p:Nat)(rows:Rows):List (List Int):=(frees (uP p rows) (cW rows).length).map (cf p (cW rows).length (uP p rows))
theorem qR{p:Nat}(hp:Pr p)(rows:Rows):Red p (cW rows).length (uP p rows)/\∀ x,C2 p ((uP p rows).map (·.2)) x↔C2 p (((names rows).map (uy rows)).map (eqT p (cW rows).length)) x:=by
 obtain⟨a,b⟩:=PS hp (((names rows).map (uy rows)).map (eqT p (cW rows).length)) [] LD fun e he=>by
  obtain⟨t,_,rfl⟩:=List.mem_map.mp he
  exact Mo hp
 exact⟨a,fun x=>(b x).trans ⟨fun z=>z.2,fun z=>⟨fun e he=>(by cases he),z⟩⟩⟩
noncomputable def oG:oe:=fun ds G Q _=>∃ (rows:Rows) (p:Nat),ds=[enc rows,.int (p:Nat)]/\(Dr rows/\NB rows/\rows≠[])/\Pr p/\Q (enc (So p rows)) G
theorem RV(ds:List D)(G:Gp)(Q:DK)(h:oG ds G Q fun _ _=>False):FU (fun _ _=>False) (ends Q) (bU 4 ds) G:=by
 obtain⟨rows,p,rfl,⟨dr,nb,kD⟩,hp,qq⟩:=h
 have p0:=hp.pos
 have p1:=PB hp
 have bf:=iA dr
 have nf:=wL dr
 unfold FU
 simp only [ends,bU,au,bb,ak,aG,aJ,aT,bh,uR,iM,cz,aK,aw,ae,aa,bL,cQ,bQ,mD,aI,ar,ai,gz,eI,dH,gE,eW]
 refine⟨p,rfl,by rcases hp with rfl | rfl | rfl <;> simp [P3],?_⟩
 refine⟨rows,rfl,⟨dr,nb,kD⟩,?_⟩
 refine kP (IsL.enc (cW rows)) ?_
 simp only [ah,fO]
 refine⟨rows,rfl,⟨dr,nb,kD⟩,?_⟩
 obtain⟨hR,_⟩:=qR hp rows
 unfold So at qq
 have inn:∀ t∈(names rows).map (uy rows),(0<=t.a/\t.a < (cW rows).length)/\(0<=t.b/\t.b < (cW rows).length)/\(0<=t.c/\t.c < (cW rows).length):=fun t ht=>by
  obtain⟨m,hm,rfl⟩:=List.mem_map.mp ht
  have:=tJ dr (ns:=aJ (cW rows).length 0) (by simp) hm
  have a:=this.a
  have b:=this.b
  have c:=this.c
  rw [bK] at a b c
  exact⟨a,b,c⟩
 have es:uP p rows=(((names rows).map (uy rows)).map (eqT p (cW rows).length)).foldl (sF p) []:=rfl
 have ll:((names rows).map (uy rows)).length<=100:=by rw [ah]; lia
 have hn:(cW rows).length<=100:=by lia
 generalize uP p rows=R at *
 generalize (names rows).map (uy rows)=ts at *
 generalize (cW rows).length=n at *
 refine gU ⟨zq (by rw [ah]; lia),?_⟩
 refine gF (xs:=ts) (fun pre acc τ G'=>G=G'/\(∃ u,τ=[u,some (.int (n:Nat)),some (.int (p:Nat))])/\acc=(pre.map (eqT p n)).map enc) ⟨rfl,⟨_,rfl⟩,rfl⟩ (fun _ _ _ _ _=>trivial) ?_ ?_
 ·rintro pre t post acc τ G' N e ⟨rfl,⟨u,rfl⟩,rfl⟩ hN
  obtain⟨t1,t2,t3⟩:=inn t (by rw [e]; simp)
  simp only [aI,cz,aK,aw,lO,ai,aa,ae,bL]
  refine⟨p,n,t.a.toNat,t.b.toNat,t.c.toNat,?_,⟨hp,hn,by lia,by lia,by lia⟩,hN _ _ _ ⟨rfl,⟨_,rfl⟩,?_⟩⟩
  ·rw [zb t1.1,zb t2.1,zb t3.1]
  ·rw [aE,aE]; rfl
 rintro acc τ G' ⟨rfl,⟨u,rfl⟩,rfl⟩ pa fa
 refine iJ (xs:=ts.map (eqT p n)) (.new fa) fa aO ?_
 refine mS ?_
 refine⟨p,n,_,rfl,⟨hp,hn,by rw [ah]; exact ll,fun e he=>?_⟩,?_⟩
 ·obtain⟨t,_,rfl⟩:=List.mem_map.mp he
  exact Mo hp
 rw [← es]
 simp only [aX]
 refine⟨by lia,by lia,zq (by simp [dR]; lia),?_⟩
 refine vW (fun pre acc τ G'=>G=G'/\(∃ u,τ=[u,some (.kg (bO R)),some (.int (n:Nat)),some (.int (p:Nat))])/\acc=((frees R pre.length).map (cf p n R)).map enc) ⟨rfl,⟨_,rfl⟩,rfl⟩ (fun _ _ _ _ _=>trivial) ?_ ?_
 ·rintro pre x post acc τ G' N e ⟨rfl,⟨u,rfl⟩,rfl⟩ hN
  obtain⟨rfl,lG⟩:=jN e
  simp only [aI,ai,cz,aK,aw,ae,aa,bL,dD,bg]
  refine QM ?_
  have ef:frees R (pre.length+1)=frees R pre.length++(if (pre.length:Int)∉R.map (·.1) then [pre.length] else []):=by
   unfold frees
   rw [lB,cZ,km,jF]
   simp only [decide_eq_true_iff]
  by_cases c:(pre.length:Int)∈R.map (·.1)
  ·simp only [c,not_true_eq_false,decide_false,bS,aF,if_false]
   refine hN _ _ _ ⟨rfl,⟨_,rfl⟩,?_⟩
   rw [aq,bp,ef,if_neg (fun z=>z c),cc]
  ·simp only [c,not_false_eq_true,decide_true,bS,if_true]
   refine⟨p,n,pre.length,R,rfl,⟨hp,hn,by lia,hR⟩,hN _ _ _ ⟨rfl,⟨_,rfl⟩,?_⟩⟩
   rw [aq,bp,ef,if_pos c,aE,aE]; rfl
 ·rintro acc τ G' ⟨rfl,⟨u,rfl⟩,rfl⟩ pb fb
  have er:(dR 0 n).length=n:=by simp [dR]
  rw [er]
  exact iJ (xs:=(frees R n).map (cf p n R)) (.new fb) fb aO qq
noncomputable def xy:iT :=
 (cF (bQ (dC (.int 1)) (aI 2))
 (cF (fW (mP (aw 1)) (aI 3) (bQ (bg sI (aw 2) (aw 0)) (aI 2)))
 (dH (gz (aw 2)))))
noncomputable def kU:oe:=fun ds G Q _=>∃ p k:Nat,ds=[.int (p:Nat),.int (k:Nat)]/\(Pr p/\k<=1000)/\Q (.int ((p:Int) ^ k)) G
theorem xX(ds:List D)(G:Gp)(Q:DK)(h:kU ds G Q fun _ _=>False):xy (fun _ _=>False) (ends Q) (bU 4 ds) G:=by
 obtain⟨p,k,rfl,⟨hp,hk⟩,qq⟩:=h
 have p1:=PB hp
 unfold xy
 simp only [ends,bU,au,bb,ak,aG,aJ,aT,bh,cQ,bQ,dC,aI,ar,ai]
 refine fI (fun τ G'=>G=G'/\∃ a b c,τ=[a,b,some (.int ((p:Int) ^ k)),c]) ?_ ?_
 ·intro N hN
  simp only [fW,gE,aw,ae,aa,fO,aX]
  refine⟨by lia,by lia,?_⟩
  refine w4 (fun pre τ G'=>G=G'/\∃ c,τ=[some (.int (p:Nat)),some (.int (k:Nat)),some (.int ((p:Int) ^ pre.length)),c]) ⟨rfl,_,rfl⟩ (fun _ _ _ _=>trivial) ?_ ?_
  ·rintro pre x post τ G' N2 e ⟨rfl,c,rfl⟩ kO
   simp only [aI,bQ,bg,aw,ar,ai,ae,aa,iu]
   refine⟨.inr ⟨by lia,by lia⟩,kO _ _ ⟨rfl,some x,?_⟩⟩
   rw [aq,bp,Int.pow_succ]
  ·rintro τ G' ⟨rfl,c,rfl⟩
   refine hN _ _ ⟨rfl,some (.int (p:Nat)),some (.int (k:Nat)),c,?_⟩
   simp [dR]
 ·rintro _ _ ⟨rfl,a,b,c,rfl⟩
  simp only [dH,gz,aw,ae,aa]
  exact mS qq
noncomputable def lU:iT :=
 (dH (gz (cz kU (aK (aw 1) (aK (mD nF (aK (cz oG (aK (aw 0) (aK (aw 1) bL))) bL)) bL)))))
noncomputable def gT:oe:=fun ds G Q _=>∃ (rows:Rows) (p:Nat),ds=[enc rows,.int (p:Nat)]/\(Dr rows/\NB rows/\rows≠[])/\Pr p/\Q (.int ((p:Int) ^ (So p rows).length)) G
theorem MF{p:Nat}{rows:Rows}(dr:Dr rows):(So p rows).length<=100:=by
 unfold So frees
 rw [ah]
 refine cG (fC _ _) ?_
 rw [d4]
 have:=iA dr
 lia
theorem sU(ds:List D)(G:Gp)(Q:DK)(h:gT ds G Q fun _ _=>False):lU (fun _ _=>False) (ends Q) (bU 2 ds) G:=by
 obtain⟨rows,p,rfl,hd,hp,qq⟩:=h
 have bf:=MF (p:=p) hd.1
 unfold lU
 simp only [dH,gz,cz,aK,aw,bU,au,bb,ak,aG,aT,bh,ae,aa,mD,bL,ends]
 refine⟨rows,p,rfl,hd,hp,?_⟩
 refine kP (IsL.enc (So p rows)) ?_
 rw [ah]
 exact⟨p,_,rfl,⟨hp,by lia⟩,mS qq⟩
end xY
end K2
end
section
namespace K2
open PySem (Str)
open Enc (enc)
namespace xY
open K2.P
open K2.Fg (fR)
open K2.Bn (NB gH eQ dq dM cW eq_int eT iA)
open K2.K8 (gu uy tJ P3 gb In)
noncomputable def xD:iT :=
 (cF (mZ (OV (yp (gJ (Oe "list" (aw 0)))) (gJ (bg (xI true) (mD nF (aK (aw 0) bL)) (aw 1)))) (dH (gz (dC (.bl false)))) eY)
 (dH (gz (mD WA (aK (eI 1 [2] (lK (aw 0)) (aI 0) none (CS (cz fR (aK (aw 0) bL)) (KN XB XA (dC (.int 0)) (aw 0) (aw 1)))) bL)))))
noncomputable def nT:oe:=fun ds G Q _=>∃ (p n:Nat) (a:List Int),ds=[enc a,.int (n:Nat),.int (p:Nat)]/\(wt p n a/\n<=100)/\Q (.bl true) G
theorem ID(ds:List D)(G:Gp)(Q:DK)(h:nT ds G Q fun _ _=>False):xD (fun _ _=>False) (ends Q) (bU 3 ds) G:=by
 obtain⟨p,n,a,rfl,⟨ha,hn⟩,qq⟩:=h
 unfold xD
 simp only [ends,bU,au,bb,ak,aG,aT,bh,oI,eT,OV,yp,dH,gz,dC,eY,mD,aK,eI,bL,eW,aw,aa,if_true,dD,bg,ae,vU]
 refine L8 (IsL.enc a) ?_
 simp only [bS]
 rw [if_neg (by simp)]
 refine kP (IsL.enc a) ?_
 refine⟨_,_,.int _,.int _,?_⟩
 rw [eq_int,ah,ha.1]
 simp only [decide_true,bP,if_true,bS,aF,if_false]
 refine gU ⟨zq (by rw [ah,ha.1]; lia),?_⟩
 refine gF (xs:=a) (fun pre acc τ G'=>G=G'/\(∃ u,τ=[u,some (.int (p:Nat))])/\acc=(aJ pre.length true).map D.bl) ⟨rfl,⟨_,rfl⟩,rfl⟩ (fun _ _ _ _ _=>trivial) ?_ ?_
 ·rintro pre x post acc τ G' N e ⟨rfl,⟨u,rfl⟩,rfl⟩ hN
  have hx:=ha.2 x (by rw [e]; simp)
  simp only [aI,ai,rQ,cz,aK,aw,aa,bL]
  refine⟨x,rfl,?_⟩
  simp only [KN,dC,aw,aa,ae,bS,if_true]
  show XB (.int 0) (.int x) _ _
  simp only [yC]
  refine⟨_,rfl,?_⟩
  simp only [hx.1,decide_true,if_true]
  show XA (.int x) (.int (p:Nat)) _ _
  simp only [yB,hx.2,decide_true]
  refine hN _ _ _ ⟨rfl,⟨_,rfl⟩,?_⟩
  rw [aq,bp,xj,aE]; rfl
 ·rintro acc τ G' ⟨rfl,⟨u,rfl⟩,rfl⟩ pa fa
  refine⟨_,mO (IsL.ref aO),yP (.new fa) ?_⟩
  rw [List.all_replicate]
  simpa using qq
noncomputable def DH:iT :=
 (cF (bQ (dC (.int 1)) (aI 2))
 (cF (fW (mP (aw 1)) (aI 3) (bQ (bg sI (aw 2) (aw 0)) (aI 2)))
 (dH (gz (aw 2)))))
noncomputable def md:oe:=kU
theorem EV(ds:List D)(G:Gp)(Q:DK)(h:md ds G Q fun _ _=>False):DH (fun _ _=>False) (ends Q) (bU 4 ds) G:=xX ds G Q h
noncomputable def xE:iT :=
 (dH (gz (eI 2 [1,2,0,3] (Ko (aw 0) (aw 1)) (mj (fB (aI 0) (fB (aI 1) lM))) none (bg lI (bg tL (bg sI (aw 0) (bg jt (aw 2) (aw 3))) (bg sI (aw 1) (bg jt (aw 4) (aw 3)))) (aw 5)))))
noncomputable def Sm(a:List Int):Prop:=∀ v∈a,-100<=v/\v<=100
theorem Sm.at'{a:List Int}(h:Sm a)(k:Nat):-100<=a.getD k 0/\a.getD k 0<=100:=by
 rw [az]
 cases e:a[k]? with
 | none=>exact⟨by decide,by decide⟩
 | some v=>exact h v (di e)
noncomputable def nU:oe:=fun ds G Q _=>∃ (p n k:Nat) (r s:List Int),ds=[enc r,enc s,.int (k:Nat),.int (p:Nat)]/\(Pr p/\n<=100/\k < n)/\(r.length=n/\s.length=n/\Sm r/\Sm s)/\Q (enc (Ke p k s r)) G
theorem IE(ds:List D)(G:Gp)(Q:DK)(h:nU ds G Q fun _ _=>False):xE (fun _ _=>False) (ends Q) (bU 4 ds) G:=by
 obtain⟨p,n,k,r,s,rfl,⟨hp,hn,hk⟩,⟨lr,ls,sr,ss⟩,qq⟩:=h
 have p0:=hp.pos
 unfold xE
 simp only [dH,gz,eI,Ko,aw,bU,au,bb,ak,aG,aT,bh,aa,ae,ends]
 refine CC (IsL.enc r) (IsL.enc s) fun ok cT=>?_
 rw [show r.map (enc:Int->D)=r.map D.int from rfl,show s.map (enc:Int->D)=s.map D.int from rfl,zf]
 refine⟨zq (by rw [ah,wd,lr,ls]; lia),?_⟩
 have b1:=sr.at' k
 have b2:=ss.at' k
 refine gF (xs:=r.zip s) (fun pre acc τ G'=>G=G'/\(∃ u v,τ=[u,v,some (enc s),some (.int (k:Nat)),some (enc r),some (.int (p:Nat))])/\acc=(pre.map fun x=>(x.1 * s.getD k 0 - x.2 * r.getD k 0) % (p:Int)).map D.int) ⟨rfl,⟨_,_,rfl⟩,rfl⟩ (fun _ _ _ G' h=>cT _ (h.1 ▸ ig.refl _)) ?_ ?_
 ·rintro pre x post acc τ G' N e ⟨rfl,⟨u,v,rfl⟩,rfl⟩ hN
  simp only [mj,fB,aI,lM,bg,aw,ai,ar,aa,ae]
  refine gv (IsL.enc s) (xN (by rw [ls]; exact hk)) ?_
  simp only [iu]
  refine⟨.inr ⟨by lia,by lia⟩,gv (IsL.enc r) (xN (by rw [lr]; exact hk)) ?_⟩
  simp only [iu,iq,eS]
  refine⟨.inr ⟨by lia,by lia⟩,by lia,hN _ _ _ ⟨rfl,⟨_,_,rfl⟩,?_⟩⟩
  rw [aE,aE]; rfl
 ·rintro acc τ G' ⟨rfl,⟨u,v,rfl⟩,rfl⟩ pa fa
  refine iJ (xs:=(r.zip s).map fun x=>(x.1 * s.getD k 0 - x.2 * r.getD k 0) % (p:Int)) (.new fa) fa aO ?_
  have e:(r.zip s).map (fun x=>(x.1 * s.getD k 0 - x.2 * r.getD k 0) % (p:Int))=Ke p k s r:=by
   unfold Ke
   rw [← iC]; rfl
  rw [e]; exact qq
noncomputable def xF:iT :=
 (cF (fW (rz (aw 0)) (mj (fB (aI 1) (fB (aI 2) lM))) (mZ (gJ (bg (xI true) (aw 2) (dC (.int 0)))) (dH (gz (aw 1))) eY))
 (dH (gz (yn FX (dC (.int 1))))))
noncomputable def nV:oe:=fun ds G Q _=>∃ (a:List Int) (f:Nat),ds=[enc a]/\(f < a.length/\a.length<=100/\(∀ k,k < f->a.getD k 0=0)/\a.getD f 0≠0)/\Q (.int (f:Nat)) G
theorem Fv:∀ {a:List Int} {k:Nat} {pre post:List (Int×Nat)} {x:Int×Nat},a.zipIdx k=pre++x :: post->x.2=k+pre.length/\x.1=a.getD pre.length 0/\pre.length < a.length
 | [],k,pre,post,x,h=>by cases pre <;> cases h
 | b :: a,k,[],post,x,h=>by
  rw [tE] at h
  cases h
  exact⟨rfl,rfl,by simp⟩
 | b :: a,k,y :: pre,post,x,h=>by
  rw [tE] at h
  injection h with h1 h2
  obtain⟨e1,e2,e3⟩:=Fv h2
  exact⟨by rw [e1,ak]; lia,e2,by simpa using e3⟩
theorem IF(ds:List D)(G:Gp)(Q:DK)(h:nV ds G Q fun _ _=>False):xF (fun _ _=>False) (ends Q) (bU 3 ds) G:=by
 obtain⟨a,f,rfl,⟨hf,hl,hz,hnz⟩,qq⟩:=h
 unfold xF
 rw [oI]
 simp only [fW,rz,aw,bU,au,bb,ak,aG,aJ,aT,bh,aa,ends]
 refine kZ ?_
 rw [show a.map (enc:Int->D)=a.map D.int from rfl,w9]
 refine fZ (xs:=a.zipIdx 0) (fun pre τ G'=>(G=G'/\pre.length<=f)/\∃ u v,τ=[some (enc a),u,v]) ⟨⟨rfl,cJ _⟩,_,_,rfl⟩ (fun _ _ _ _=>trivial) ?_ ?_
 ·rintro pre x post τ G' N e ⟨⟨rfl,hle⟩,u,v,rfl⟩ hN
  obtain⟨e1,e2,e3⟩:=Fv e
  simp only [mj,fB,aI,lM,ar,ai,eT,dH,gz,aw,ae,aa,eY,dD,bg,dC]
  refine⟨_,_,.int _,.int _,?_⟩
  rw [eq_int,e1,e2]
  by_cases c:pre.length=f
  ·rw [c,decide_eq_false hnz]
   simp only [cY,if_true,fT,bS]
   exact mS qq
  ·rw [hz _ (by lia)]
   simp only [decide_true,bP,if_true,bS,aF,if_false]
   exact hN _ _ ⟨⟨rfl,by rw [aq,bp]; lia⟩,_,_,rfl⟩
 ·rintro τ G' ⟨⟨rfl,hle⟩,u,v,rfl⟩
  rw [List.length_zipIdx] at hle
  exact absurd hf (by lia)
end xY
end K2
end
section
namespace K2
open PySem (Str)
open Enc (enc)
namespace xY
open K2.P
open K2.Fg (fR)
open K2.Bn (NB gH eQ dq dM cW eq_int eT iA)
noncomputable def vg(n:Nat)(t:T3):List Int:=Ff n t.a.toNat t.b.toNat t.c.toNat
noncomputable def InT(n:Nat)(t:T3):Prop:=(0<=t.a/\t.a < n)/\(0<=t.b/\t.b < n)/\(0<=t.c/\t.c < n)
theorem Wm{n a b c:Nat}(ha:a < n)(hb:b < n)(hc:c < n):Sm (Ff n a b c):=by
 rw [Mp ha hb hc]
 intro v hv
 obtain⟨k,_,rfl⟩:=List.mem_map.mp hv
 repeat' split
 all_goals lia
theorem VS{p k:Nat}(hp:Pr p){s r:List Int}:Sm (Ke p k s r):=by
 intro v hv
 unfold Ke at hv
 rw [← iC] at hv
 obtain⟨x,_,rfl⟩:=List.mem_map.mp hv
 have:=hp.pos
 have:=PB hp
 have h1:=dZ (x.1 * s.getD k 0 - x.2 * r.getD k 0) (show (p:Int)≠0 by lia)
 have h2:=dE (x.1 * s.getD k 0 - x.2 * r.getD k 0) (show (0:Int) < p by lia)
 show -100<=(x.1 * s.getD k 0 - x.2 * r.getD k 0) % (p:Int)/\(x.1 * s.getD k 0 - x.2 * r.getD k 0) % (p:Int)<=100
 lia
noncomputable def Uu(o:Option (List Int)):D:=match o with
 | none=>.du
 | some s=>enc s
theorem S2{p k m:Nat}{L:List (List Int)}:rk p k (m+1) L=(match L.find? (qw p k) with
  | none=>0
  | some _=>1)+rk p (k+1) m (match L.find? (qw p k) with
  | none=>L
  | some s=>(L.eraseP (qw p k)).map (Ke p k s)):=by
 rw [rk]
 cases L.find? (qw p k) <;> simp
noncomputable def WU(p k:Nat)(L:List (List Int)):List (List Int):=match L.find? (qw p k) with
  | none=>L
  | some s=>(L.eraseP (qw p k)).map (Ke p k s)
noncomputable def ZS(p k:Nat)(L:List (List Int)):Nat:=match L.find? (qw p k) with
  | none=>0
  | some _=>1
noncomputable def lk(p:Nat)(L:List (List Int)):Nat->List (List Int)
 | 0=>L
 | k+1=>WU p k (lk p L k)
noncomputable def S3(p:Nat)(L:List (List Int)):Nat->Nat
 | 0=>0
 | k+1=>S3 p L k+ZS p k (lk p L k)
theorem PY{p:Nat}{L:List (List Int)}:∀ (k m:Nat),S3 p L k+rk p k m (lk p L k)=S3 p L (k+m)
 | k,0=>by rw [rk]; rfl
 | k,m+1=>by
  rw [S2,← Nat.add_assoc]
  have:=PY (p:=p) (L:=L) (k+1) m
  rw [show k+1+m=k+(m+1) by lia] at this
  rw [← this]; rfl
theorem Vr{p n:Nat}{L:List (List Int)}:rk p 0 n L=S3 p L n:=by
 have:=PY (p:=p) (L:=L) 0 n
 rw [fT] at this
 rw [← this]
 show _=0+_
 rw [fT]; rfl
noncomputable def Good(n:Nat)(L:List (List Int)):Prop:=L.length<=100/\∀ r∈L,r.length=n/\Sm r
theorem Qp{p n k:Nat}(hp:Pr p){L:List (List Int)}(h:Good n L):Good n (WU p k L):=by
 unfold WU
 cases hf:L.find? (qw p k) with
 | none=>exact h
 | some s =>
  have hs:=h.2 s (g8 hf)
  refine⟨by rw [ah]; exact cG (we) h.1,fun r hr=>?_⟩
  obtain⟨r0,h0,rfl⟩:=List.mem_map.mp hr
  have:=h.2 r0 (Pd h0)
  exact⟨by unfold Ke; rw [yv,this.1,hs.1]; simp,VS hp⟩
theorem LV{p n:Nat}(hp:Pr p){L:List (List Int)}(h:Good n L):∀ k,Good n (lk p L k)
 | 0=>h
 | k+1=>Qp hp (LV hp h k)
noncomputable def xB:iT :=
 (cF (bQ (nE bL) (aI 3))
 (cF (fW (lK (aw 0)) (mj (fB (aI 4) (fB (aI 5) (fB (aI 6) lM)))) (cF (bQ (eI 1 [4,5,6] (mP (aw 1)) (aI 0) none (bg tL (bg tL (bg sI (dC (.int 2)) (mD cInt (aK (bg (xI false) (aw 0) (aw 1)) bL))) (mD cInt (aK (bg (xI false) (aw 0) (aw 2)) bL))) (mD cInt (aK (bg (xI false) (aw 0) (aw 3)) bL)))) (aI 7))
 (iM (xV yf mi (aw 3) (aK (gz (aw 7)) bL)))))
 (cF (bQ (dC (.int 0)) (aI 8))
 (cF (fW (mP (aw 1)) (aI 9) (cF (bQ (dC .du) (aI 10))
 (cF (bQ (nE bL) (aI 11))
 (cF (fW (lK (aw 3)) (aI 7) (mZ (KO (gJ (yn (vj false) (aw 10))) (gJ (bg (xI true) (bg lI (bg jt (aw 7) (aw 9)) (aw 2)) (dC (.int 0))))) (bQ (aw 7) (aI 10)) (iM (xV yf mi (aw 11) (aK (gz (aw 7)) bL)))))
 (cF (mZ (gJ (yn (vj true) (aw 10))) (cF (bQ (bg qv (aw 8) (dC (.int 1))) (aI 8))
 (bQ (eI 1 [10,9,2] (lK (aw 11)) (aI 0) none (cz nU (aK (aw 0) (aK (aw 1) (aK (aw 2) (aK (aw 3) bL)))))) (aI 11))) eY)
 (bQ (aw 11) (aI 3)))))))
 (dH (gz (aw 8)))))))
noncomputable def nR:oe:=fun ds G Q _=>∃ (p n:Nat) (ts:List T3),ds=[enc ts,.int (n:Nat),.int (p:Nat)]/\(Pr p/\n<=100/\ts.length<=100/\∀ t∈ts,InT n t)/\Q (.int (rk p 0 n (ts.map (vg n)):Nat)) G
theorem IB(ds:List D)(G:Gp)(Q:DK)(h:nR ds G Q fun _ _=>False):xB (fun _ _=>False) (ends Q) (bU 12 ds) G:=by
 obtain⟨p,n,ts,rfl,⟨hp,hn,hl,NV⟩,qq⟩:=h
 have p0:=hp.pos
 unfold xB
 simp only [ends,bU,au,bb,ak,aG,aJ,aT,bh,cQ,bQ,nE,bL,aI,ar,ai]
 refine⟨by decide,fun pl fl=>?_⟩
 have good:Good n (ts.map (vg n)):=⟨by rw [ah]; exact hl,fun r hr=>by
  obtain⟨t,ht,rfl⟩:=List.mem_map.mp hr
  obtain⟨h1,h2,h3⟩:=NV t ht
  exact⟨vP,Wm (by lia) (by lia) (by lia)⟩⟩
 refine fI (fun τ G'=>(ig G G'/\G' pl=some (.lst ((ts.map (vg n)).map enc)))/\∃ a b c d,τ=[some (enc ts),some (.int (n:Nat)),some (.int (p:Nat)),some (.ref pl),a,b,c,d,none,none,none,none]) ?_ ?_
 ·intro N hN
  simp only [fW,eW,aw,aa]
  refine gU ?_
  refine fZ (xs:=ts) (fun pre τ G'=>(ig G G'/\G' pl=some (.lst ((pre.map (vg n)).map enc)))/\∃ a b c d,τ=[some (enc ts),some (.int (n:Nat)),some (.int (p:Nat)),some (.ref pl),a,b,c,d,none,none,none,none]) ⟨⟨.new fl,aO⟩,_,_,_,_,rfl⟩ (fun _ _ _ _=>trivial) ?_ ?_
  ·rintro pre t post τ G' N2 e ⟨⟨le,gl⟩,a,b,c,d,rfl⟩ kO
   obtain⟨h1,h2,h3⟩:=NV t (by rw [e]; simp)
   have ahO:pre.length<=100:=by
    have:ts.length=pre.length+(t :: post).length:=by rw [e,aq]
    lia
   simp only [mj,lO,fB,aI,lM,ar,ai,cQ,bQ,eI,iM,xV,aw,ae,aa,nM,aK,gz,bL,iZ,gE,fO,aX]
   refine⟨by lia,by lia,zq (by simp [dR]; lia),?_⟩
   refine vW (fun pr acc τ G2=>G'=G2/\(∃ u,τ=[u,some (.int t.a),some (.int t.b),some (.int t.c)])/\acc=((bq pr.length).map fun k:Nat=>2 * (if k=t.a.toNat then 1 else 0) - (if k=t.b.toNat then 1 else 0) - (if k=t.c.toNat then (1:Int) else 0)).map D.int) ⟨rfl,⟨_,rfl⟩,rfl⟩ (fun _ _ _ _ _=>trivial) ?_ ?_
   ·rintro pr x po acc τ G2 N3 e3 ⟨rfl,⟨u,rfl⟩,rfl⟩ tV
    obtain⟨rfl,lG⟩:=jN e3
    simp only [aI,bg,dC,mD,aK,aw,ai,aa,ae,bL]
    refine⟨_,_,.int _,.int _,?_⟩
    rw [eq_int]
    simp only [cInt,aF,if_false,iu,iq]
    refine⟨.inl ⟨by decide,by decide⟩,_,_,.int _,.int _,?_⟩
    rw [eq_int]
    simp only [aF,if_false]
    refine⟨_,_,.int _,.int _,?_⟩
    rw [eq_int]
    simp only [aF,if_false]
    refine tV _ _ _ ⟨rfl,⟨_,rfl⟩,?_⟩
    rw [aq,bp,lB,aE,aE]
    have q:∀ z:Int,0<=z->((pr.length:Int)=z↔pr.length=z.toNat):=fun z hz=>by lia
    simp only [au,bb,decide_eq_true_iff,q t.a h1.1,q t.b h2.1,q t.c h3.1,aF,if_false]
   ·rintro acc τ G2 ⟨rfl,⟨u,rfl⟩,rfl⟩ pr fr
    have er:(dR 0 n).length=n:=by simp [dR]
    rw [er,← Mp (n:=n) (a:=t.a.toNat) (b:=t.b.toNat) (c:=t.c.toNat) (by lia) (by lia) (by lia)]
    have ZU:pl≠pr:=fun z=>by rw [← z,gl] at fr; cases fr
    refine⟨by rw [dU ZU,gl]; trivial,?_⟩
    refine iJ (xs:=Ff n t.a.toNat t.b.toNat t.c.toNat) (.new fr) fr aO ?_
    simp only [gl]
    refine⟨Dv (by rw [ah,ah]; lia),kO _ _ ⟨⟨le.put fl,?_⟩,_,_,_,_,rfl⟩⟩
    rw [aO,aE,aE]; rfl
  ·rintro τ G' ⟨h1,a,b,c,d,rfl⟩
   exact hN _ _ ⟨h1,_,_,_,_,rfl⟩
 ·rintro _ G1 ⟨⟨le1,gl1⟩,a,b,c,d,rfl⟩
  simp only [cQ,bQ,dC,aI,ar,ai]
  rw [Vr] at qq
  generalize ts.map (vg n)=L0 at *
  refine fI (fun τ G'=>ig G G'/\∃ x0 x1 x2 x3 x4 x5 x6 x7 x9 WQ WO,τ=[x0,x1,x2,x3,x4,x5,x6,x7,some (.int (S3 p L0 n:Nat)),x9,WQ,WO]) ?_ ?_
  ·intro N hN
   simp only [fW,gE,aw,ae,aa,fO,aX]
   refine⟨by lia,by lia,?_⟩
   refine w4 (fun pre τ G'=>∃ pc,(ig G G'/\G' pc=some (.lst ((lk p L0 pre.length).map enc)))/\∃ x4 x5 x6 x7 x9 WQ WO,τ=[some (enc ts),some (.int (n:Nat)),some (.int (p:Nat)),some (.ref pc),x4,x5,x6,x7,some (.int (S3 p L0 pre.length:Nat)),x9,WQ,WO]) ⟨pl,⟨le1,gl1⟩,_,_,_,_,_,_,_,rfl⟩ (fun _ _ _ _=>trivial) ?_ ?_
   ·rintro pre x post τ G' N2 e ⟨pc,⟨le,gc⟩,x4,x5,x6,x7,x9,WQ,WO,rfl⟩ kO
    obtain⟨rfl,lG⟩:=jN e
    have gd:=LV hp good pre.length
    rw [aq,bp,show lk p L0 (pre.length+1)=WU p pre.length (lk p L0 pre.length) from rfl,show S3 p L0 (pre.length+1)=S3 p L0 pre.length+ZS p pre.length (lk p L0 pre.length) from rfl] at kO
    generalize lk p L0 pre.length=L at *
    generalize S3 p L0 pre.length=rr at *
    generalize pre.length=k at *
    simp only [aI,ar,ai,cQ,bQ,dC,nE,bL,aG]
    refine⟨by decide,fun pr fr=>?_⟩
    have npr:pr≠pc:=fun z=>by rw [z,gc] at fr; cases fr
    have frG:G pr=none:=le.free fr
    refine fI (fun τ G2=>(ig G G2/\G2 pr=some (.lst ((L.eraseP (qw p k)).map enc)))/\∃ x4 x5 x6 x7,τ=[some (enc ts),some (.int (n:Nat)),some (.int (p:Nat)),some (.ref pc),x4,x5,x6,x7,some (.int (rr:Nat)),some (.int (k:Nat)),some (Uu (L.find? (qw p k))),some (.ref pr)]) ?_ ?_
    ·intro N3 tV
     simp only [fW,eW,aw,ae,aa]
     rw [Md,dU (eC npr),gc]
     refine fZ (xs:=L) (fun pre τ G2=>(ig G G2/\G2 pc=some (.lst (L.map enc))/\G2 pr=some (.lst ((pre.eraseP (qw p k)).map enc)))/\∃ x4 x5 x6 x7,τ=[some (enc ts),some (.int (n:Nat)),some (.int (p:Nat)),some (.ref pc),x4,x5,x6,x7,some (.int (rr:Nat)),some (.int (k:Nat)),some (Uu (pre.find? (qw p k))),some (.ref pr)]) ⟨⟨le.trans (.new fr),by rw [dU (eC npr)]; exact gc,aO⟩,_,_,_,_,rfl⟩ (fun _ _ _ h=>h.1.2.1) ?_ ?_
     ·rintro pre r post τ G2 N4 e4 ⟨⟨NH,gc2,TV⟩,y4,y5,y6,y7,rfl⟩ W7
      obtain⟨lr,sr⟩:=gd.2 r (by rw [e4]; simp)
      have gl:=gd.1
      have pl2:pre.length<=100:=by
       have:L.length=pre.length+(r :: post).length:=by rw [e4,aq]
       lia
      have app:pre.find? (qw p k)≠none\/qw p k r=false->∀ K:lX,K.nx=N4->iM (xV yf mi (aw 11) (aK (gz (aw 7)) bL)) (fun _ _=>False) K [some (enc ts),some (.int (n:Nat)),some (.int (p:Nat)),some (.ref pc),y4,y5,y6,some (enc r),some (.int (rr:Nat)),some (.int (k:Nat)),some (Uu (pre.find? (qw p k))),some (.ref pr)] G2:=fun hc K hK=>by
       simp only [iM,xV,aw,ae,aa,yf,TV,aK,gz,bL,iZ,true_and]
       refine mS ?_
       simp only [TV,hK]
       refine⟨Dv (by rw [ah]; have:=we (p:=qw p k) (l:=pre); lia),?_⟩
       refine W7 _ _ ⟨⟨NH.put frG,by rw [dU (eC npr)]; exact gc2,?_⟩,y4,y5,y6,some (enc r),?_⟩
       ·rw [aO]
        congr 2
        rcases hc with hc | hc
        ·obtain⟨s,hs⟩:=Option.ne_none_iff_exists'.mp hc
         rw [OJ (IT hs) _ (g8 hs),aE]; rfl
        ·by_cases Hm:pre.find? (qw p k)=none
         ·rw [MP _ (fun b hb=>by simpa using List.find?_eq_none.mp Hm b hb),qz (fun b hb=>by simpa using List.find?_eq_none.mp Hm b hb),OI (by rw [hc]; simp),List.eraseP_nil,aE]; rfl
         ·obtain⟨s,hs⟩:=Option.ne_none_iff_exists'.mp Hm
          rw [OJ (IT hs) _ (g8 hs),aE]; rfl
       ·rw [mx]
        rcases hc with hc | hc
        ·obtain⟨s,hs⟩:=Option.ne_none_iff_exists'.mp hc
         rw [hs]; rfl
        ·rw [uw (by rw [hc]; simp),List.find?_nil]; simp
      have test:∀ Rr:Bool->Gp->Prop,Rr ((pre.find? (qw p k)).isNone&&qw p k r) G2->KO (gJ (yn (vj false) (aw 10))) (gJ (bg (xI true) (bg lI (bg jt (aw 7) (aw 9)) (aw 2)) (dC (.int 0)))) (fun _ _=>False) [some (enc ts),some (.int (n:Nat)),some (.int (p:Nat)),some (.ref pc),y4,y5,y6,some (enc r),some (.int (rr:Nat)),some (.int (k:Nat)),some (Uu (pre.find? (qw p k))),some (.ref pr)] G2 Rr:=by
       intro Rr hRr
       cases hf:pre.find? (qw p k) with
       | some s =>
        rw [hf] at hRr
        simp only [KO,Uu,dD,bg,aw,ae,aa,dC,yn]
        exact hRr
       | none =>
        rw [hf] at hRr
        simp only [KO,Uu,dD,bg,aw,ae,aa,dC,yn,vj,cY,bS,if_true]
        refine gv (IsL.enc r) (xN (by rw [lr]; exact lG)) ?_
        simp only [eS]
        refine⟨by lia,_,_,.int _,.int _,?_⟩
        rw [eq_int]
        have:(!decide (r.getD k 0 % (p:Int)=0))=qw p k r:=by
         unfold qw
         rw [o1,rV,decide_eq_false_iff_not,bne_iff_ne]
        rw [if_pos rfl,this]
        exact hRr
      simp only [aI,ar,ai]
      rw [eT]
      refine test _ ?_
      cases hb:((pre.find? (qw p k)).isNone&&qw p k r) with
      | false =>
       rw [if_neg e7]
       refine app ?_ _ rfl
       rw [Bool.and_eq_false_iff] at hb
       rcases hb with hb | hb
       ·exact .inl fun z=>by rw [z] at hb; cases hb
       ·exact .inr hb
      | true =>
       rw [if_pos rfl]
       rw [aP,Option.isNone_iff_eq_none] at hb
       obtain⟨hf,hpv⟩:=hb
       simp only [bQ,aw,ae,aa,aI,ar,ai]
       refine W7 _ _ ⟨⟨NH,gc2,?_⟩,y4,y5,y6,some (enc r),?_⟩
       ·rw [TV]
        congr 2
        rw [MP _ (fun b hb=>by simpa using List.find?_eq_none.mp hf b hb),qz (fun b hb=>by simpa using List.find?_eq_none.mp hf b hb),OH hpv,cc]
       ·rw [mx,hf,lZ hpv]; rfl
     ·rintro τ G2 ⟨⟨NH,gc2,TV⟩,y4,y5,y6,y7,rfl⟩
      exact tV _ _ ⟨⟨NH,TV⟩,_,_,_,_,rfl⟩
    ·rintro _ G2 ⟨⟨NH,TV⟩,y4,y5,y6,y7,rfl⟩
     rw [oI]
     cases hf:L.find? (qw p k) with
     | none =>
      simp only [Uu,eT,cQ,bQ,bg,aw,ae,aa,dC,aI,eI,ar,ai,eW,iw,eY,dD,yn,vj,bP,bS,aF,if_false]
      unfold WU ZS at kO
      rw [hf] at kO
      rw [qz (fun b hb=>by simpa using List.find?_eq_none.mp hf b hb)] at TV
      exact kO _ _ ⟨pr,⟨NH,TV⟩,_,_,_,_,_,_,_,rfl⟩
     | some s =>
      obtain⟨ls,ss⟩:=gd.2 s (g8 hf)
      unfold WU ZS at kO
      rw [hf] at kO
      simp only [Uu,eT,cQ,bQ,bg,aw,ae,aa,dC,aI,eI,ar,ai,eW,iw,eY,dD,yn]
      show vj true (enc s) G2 _
      unfold vj
      simp only [YX,bS,if_true]
      rw [← YX]
      refine QQ (IsL.ref TV) fun ok cT=>?_
      have ge:=we (p:=qw p k) (l:=L)
      refine⟨zq (by rw [ah]; have:=gd.1; lia),?_⟩
      refine gF (xs:=L.eraseP (qw p k)) (fun pre acc τ G3=>G2=G3/\(∃ u,τ=[u,some (enc s),some (.int (k:Nat)),some (.int (p:Nat))])/\acc=(pre.map (Ke p k s)).map enc) ⟨rfl,⟨_,rfl⟩,rfl⟩ (fun _ _ _ G' h=>cT _ (h.1 ▸ ig.refl _)) ?_ ?_
      ·rintro pre r post acc τ G3 N4 e4 ⟨rfl,⟨u,rfl⟩,rfl⟩ W7
       obtain⟨lr,sr⟩:=gd.2 r (Pd (by rw [e4]; simp))
       simp only [aI,cz,aK,aw,ai,aa,ae,bL]
       refine⟨p,n,k,r,s,rfl,⟨hp,hn,lG⟩,⟨lr,ls,sr,ss⟩,W7 _ _ _ ⟨rfl,⟨_,rfl⟩,?_⟩⟩
       rw [aE,aE]; rfl
      ·rintro acc τ G3 ⟨rfl,⟨u,rfl⟩,rfl⟩ pq fq
       exact kO _ _ ⟨pq,⟨NH.trans (.new fq),aO⟩,_,_,_,_,_,_,_,rfl⟩
   ·rintro τ G' ⟨pc,⟨le,gc⟩,x4,x5,x6,x7,x9,WQ,WO,rfl⟩
    have er:(dR 0 n).length=n:=by simp [dR]
    rw [er]
    exact hN _ _ ⟨le,_,_,_,_,_,_,_,_,_,_,_,rfl⟩
  ·rintro _ G' ⟨le,x0,x1,x2,x3,x4,x5,x6,x7,x9,WQ,WO,rfl⟩
   simp only [dH,gz,aw,ae,aa]
   exact yP le qq
end xY
end K2
end
section
namespace K2
open PySem (Str)
open Enc (enc)
namespace xY
open K2.P K2.Fg
open K2.Bn (NB eT)
theorem LI{α:Type} [DecidableEq α] [Enc α]{neg:Bool}{x:α}{xs:List α}{a:Nat}{G:Gp}{Q:DK}(hd:Enc.dep α<=7)(h:G a=some (.lst (xs.map enc)))(q:Q (.bl (if neg then !decide (x∈xs) else decide (x∈xs))) G):R9 neg (enc x) (.ref a) G Q:=by
 unfold R9
 simp only [h]
 refine⟨_,_,Enc.sn G 8 x (by lia),zu G 7 hd xs,?_⟩
 rw [Ug]; exact q
noncomputable def f0(n:Int):Nat->Int
 | 0=>n
 | k+1=>(f0 n k+1) % 999
theorem Mn{n:Int}(h1:0<=n)(h2:n < 999):∀ k:Nat,f0 n k=(n+k) % 999
 | 0=>by show n=_; lia
 | k+1=>by
  show (f0 n k+1) % 999=_
  rw [Mn h1 h2 k]
  lia
theorem TZ{n:Int}{ns:List Int}(h1:0<=n)(h2:n < 999)(hl:ns.length<=500):∃ k,k<=ns.length/\f0 n k∉ns:=by
 apply cj
 intro TL
 have rE:∀ k,k<=ns.length->f0 n k∈ns:=fun k hk=>cj fun z=>TL ⟨k,hk,z⟩
 have nd:((bq (ns.length+1)).map fun k=>f0 n k).Nodup:=by
  refine List.pairwise_iff_getElem.mpr fun i j hi hj I0=>?_
  simp only [ah,d4] at hi hj
  rw [dJ,dJ,lD,lD,Mn h1 h2,Mn h1 h2]
  lia
 have:=K17.UE _ ns nd fun x hx=>by
  obtain⟨k,hk,rfl⟩:=List.mem_map.mp hx
  exact rE k (by have:=List.mem_range.mp hk; lia)
 simp at this
 lia
theorem YU{n:Int}(h1:0<=n)(h2:n < 999)(k:Nat):0<=f0 n k/\f0 n k < 999:=by
 rw [Mn h1 h2]; lia
noncomputable def BN(sL:List Int):Prop:=∀ x∈sL,0<=x/\x < 999
structure MK(sL:List Int)(L:List T3):Prop where
 nm:∀ p∈L,p.a - 1∈sL
 nd:(L.map T3.s).Nodup
 way:∀ p∈L,p.b=0\/p.b=1
 hand:∀ p∈L,p.c=1\/p.c=-1
 J9:∀ p∈L,(⟨p.a,1 - p.b,p.c⟩:T3)∈L
 len:L.length=2 * sL.length
theorem MK.perm{sL:List Int}{L L':List T3}(h:MK sL L)(p:L'.Perm L):MK sL L' :=
 ⟨fun x hx=>h.nm x (p.mem_iff.mp hx),(p.map _).nodup_iff.mpr h.nd,fun x hx=>h.way x (p.mem_iff.mp hx),fun x hx=>h.hand x (p.mem_iff.mp hx),
  fun x hx=>p.mem_iff.mpr (h.J9 x (p.mem_iff.mp hx)),by rw [p.length_eq]; exact h.len⟩
theorem MK.more{sL:List Int}{L:List T3}(h:MK sL L){m hh:Int}(hm:m∉sL)(hc:hh=1\/hh=-1) :
  MK (sL++[m]) (⟨m+1,1,hh⟩ :: ⟨m+1,0,hh⟩ :: L):=by
 have nin:∀ w:Int,(⟨m+1,w⟩:T2)∉L.map T3.s:=by
  intro w hw
  obtain⟨p,hp,e⟩:=List.mem_map.mp hw
  have h1:p.a=m+1:=congrArg T2.a e
  have h2:=h.nm p hp
  rw [h1] at h2
  exact hm (by rw [show m=m+1 - 1 by lia]; exact h2)
 refine⟨?_,?_,?_,?_,?_,by rw [ak,ak,h.len,aq]; simp; lia⟩
 ·intro p hp
  rcases List.mem_cons.mp hp with rfl | hp
  ·simp
  ·rcases List.mem_cons.mp hp with rfl | hp
   ·simp
   ·exact d6 _ (h.nm p hp)
 ·rw [au,au,cD,cD]
  refine⟨fun z=>?_,nin 0,h.nd⟩
  rcases List.mem_cons.mp z with z | z
  ·have:=congrArg T2.b z; exact absurd this (by show ¬ (1:Int)=0; decide)
  ·exact nin 1 z
 ·intro p hp
  rcases List.mem_cons.mp hp with rfl | hp
  ·exact .inr rfl
  ·rcases List.mem_cons.mp hp with rfl | hp
   ·exact .inl rfl
   ·exact h.way p hp
 ·intro p hp
  rcases List.mem_cons.mp hp with rfl | hp
  ·exact hc
  ·rcases List.mem_cons.mp hp with rfl | hp
   ·exact hc
   ·exact h.hand p hp
 ·intro p hp
  rcases List.mem_cons.mp hp with rfl | hp
  ·exact ao _ (ay ..)
  ·rcases List.mem_cons.mp hp with rfl | hp
   ·exact ay ..
   ·exact ao _ (ao _ (h.J9 p hp))
theorem QW{G G':Gp}{p0 pn:Nat}{as:List Nat}{rs:Rows}{o:GO}(h:HR G G' p0 as rs)(h1:G pn=none)(h2:pn≠p0)(h3:pn∉as):HR G (fK G' pn o) p0 as rs :=
 ⟨h.le.put h1,h.fp,by rw [dU (eC h2)]; exact h.gp,h.np,h.nd,h.fr,h.len,fun i b r hb hr=>by
  rw [dU (by rintro rfl; exact h3 (di hb))]; exact h.at' i b r hb hr⟩
noncomputable def xC:iT :=
 (cF (bQ (eI 1 [] (mP (aw 1)) (aI 0) none (nE bL)) (aI 2))
 (cF (bQ (nE bL) (aI 3))
 (cF (fW (lK (aw 0)) (aI 4) (cF (bQ (bg lI (aw 4) (dC (.int 999))) (aI 5))
 (cF (Ry (gJ (bg (R9 false) (aw 5) (aw 3))) (bQ (bg lI (bg qv (aw 5) (dC (.int 1))) (dC (.int 999))) (aI 5)))
 (cF (bQ (bg tu (aw 4) (dC (.int 1998))) (aI 6))
 (cF (mZ (gJ (bg (xI false) (bg lI (aw 4) (dC (.int 2))) (dC (.int 1)))) (bQ (bg lI (bg sI (bg lI (bg sI (bg qv (aw 4) (bg sI (dC (.int 7919)) (mD nF (aK (aw 3) bL)))) (dC (.int 48271))) (dC (.int 2147483647))) (dC (.int 69621))) (dC (.int 2147483629))) (aI 6)) eY)
 (cF (iM (xV yf mi (aw 3) (aK (aw 5) bL)))
 (cF (bQ (bg tL (dC (.int 1)) (bg sI (dC (.int 2)) (bg lI (aw 6) (dC (.int 2))))) (aI 7))
 (cF (bQ (bg tu (aw 6) (dC (.int 2))) (aI 6))
 (fW (mP (dC (.int 2))) (aI 8) (cF (bQ (bg jt (aw 2) (bg lI (aw 6) (aw 1))) (aI 9))
 (cF (bQ (bg tu (aw 6) (aw 1)) (aI 6))
 (cF (bQ (bg lI (aw 6) (bg qv (mD nF (aK (aw 9) bL)) (dC (.int 1)))) (aI 10))
 (cF (bQ (bg tu (aw 6) (bg qv (mD nF (aK (aw 9) bL)) (dC (.int 1)))) (aI 6))
 (iM (xV yf yI (aw 9) (aK (aw 10) (aK (ko (aK (bg qv (aw 5) (dC (.int 1))) (aK (aw 8) (aK (aw 7) bL)))) bL)))))))))))))))))
 (dH (gz (aw 2))))))
noncomputable def nS:oe:=fun ds G Q _=>∃ (d:D) (cs:List Int) (k:Int),ds=[d,.int k]/\IsL G d (cs.map D.int)/\(cs.length<=12/\1<=k/\k<=3)/\∀ rows:Rows,Dr rows->NB rows->rows≠[]->Q (enc rows) G
theorem IC(ds:List D)(G:Gp)(Q:DK)(h:nS ds G Q fun _ _=>False):xC (fun _ _=>False) (ends Q) (bU 11 ds) G:=by
 obtain⟨d,cs,k,rfl,hd,⟨hc,hk1,hk3⟩,q⟩:=h
 unfold xC
 simp only [ends,bU,au,bb,ak,aG,aJ,aT,bh,cQ,bQ,eI,aI,ar,ai,nE,bL,gE,aw,ae,aa,fO]
 refine⟨by lia,by lia,zq (by unfold dR; rw [ah,d4]; lia),?_⟩
 unfold dR
 refine gF (xs:=bq k.toNat) (fun pre acc τ G'=>(∃ a,τ=[a])/\∃ as:List Nat,acc=as.map D.ref/\as.length=pre.length/\as.Nodup/\(∀ a∈as,G a=none/\G' a=some (.lst []))/\ig G G') ⟨⟨_,rfl⟩,[],rfl,rfl,dh,(fun a h=>by cases h),.refl G⟩ (fun _ _ _ _ _=>trivial) ?_ ?_
 ·rintro pre x post acc τ G' N e ⟨⟨a,rfl⟩,as,rfl,hl,hn,ha,le⟩ hN
  simp only [aI,nE,bL,aG,ai]
  refine⟨by decide,fun p hp=>?_⟩
  refine hN _ _ _ ⟨⟨_,rfl⟩,as++[p],by simp,by simp [hl],?_,?_,le.trans (.new hp)⟩
  ·rw [cm]
   refine⟨hn,by simp,fun a h b hb e=>?_⟩
   rw [lC] at hb
   subst hb e
   rw [(ha a h).2] at hp; cases hp
  ·intro a h0
   rcases List.mem_append.mp h0 with h | h
   ·refine⟨(ha a h).1,?_⟩
    rw [dU (fun z=>by rw [← z,(ha a h).2] at hp; cases hp)]
    exact(ha a h).2
   ·rw [lC] at h
    subst h
    exact⟨le.free hp,aO⟩
 rintro acc τ G1 ⟨⟨a,rfl⟩,as,rfl,hl,hn,ha,le⟩ p0 Mh
 rw [d4] at hl
 have TJ:HR G (fK G1 p0 (.lst (as.map D.ref))) p0 as (aJ as.length []):=by
  refine⟨le.trans (.new Mh),le.free Mh,aO,fun z=>?_,hn,fun a h=>(ha a h).1,by simp,fun i b r hb hr=>?_⟩
  ·rw [(ha p0 z).2] at Mh; cases Mh
  ·have Hs:=di hb
   have:r=[]:=by
    have:=di hr
    exact List.eq_of_mem_replicate this
   subst this
   rw [dU (by rintro rfl; rw [(ha b Hs).2] at Mh; cases Mh)]
   exact(ha b Hs).2
 have mi0:MK [] (aJ as.length ([]:List T3)).flatten:=by
  have:(aJ as.length ([]:List T3)).flatten=[]:=by simp
  rw [this]
  exact⟨(fun p h=>by cases h),dh,(fun p h=>by cases h),(fun p h=>by cases h),(fun p h=>by cases h),rfl⟩
 generalize fK G1 p0 (.lst (as.map D.ref))=G2 at *
 refine⟨by decide,fun pn QX=>?_⟩
 have n0:pn≠p0:=fun z=>by rw [z,TJ.gp] at QX; cases QX
 have nas:pn∉as:=fun z=>by
  obtain⟨i,hi,e⟩:=da z
  have:=TJ.at' i pn [] (by rw [ag hi,e]) (by rw [gK,if_pos hi])
  rw [this] at QX; cases QX
 have gn:G pn=none:=TJ.le.free QX
 refine fI (fun τ G'=>(∃ x1 x2 x3 x4 x5 x6 x7,τ=[some d,some (.int k),some (.ref p0),some (.ref pn),x1,x2,x3,x4,x5,x6,x7])/\∃ rs sL,HR G G' p0 as rs/\(MK sL rs.flatten/\BN sL)/\sL.length=cs.length) ?_ ?_
 ·intro N hN
  simp only [fW,eW,aw,aa]
  refine TH hd (TJ.le.trans (.new QX)) fun ok cT=>?_
  refine fZ (xs:=cs) (fun pre τ G'=>(∃ x1 x2 x3 x4 x5 x6 x7,τ=[some d,some (.int k),some (.ref p0),some (.ref pn),x1,x2,x3,x4,x5,x6,x7])/\∃ rs sL,HR G G' p0 as rs/\(MK sL rs.flatten/\BN sL)/\sL.length=pre.length/\G' pn=some (.lst (sL.map enc))) ⟨⟨_,_,_,_,_,_,_,rfl⟩,_,[],QW TJ gn n0 nas,⟨mi0,fun x h=>by cases h⟩,rfl,by rw [aO]; rfl⟩ (fun _ _ _ h=>by obtain⟨_,_,_,h,_⟩:=h; exact cT _ h.le) ?_ ?_
  ·rintro pre c post τ G' N2 e ⟨⟨x1,x2,x3,x4,x5,x6,x7,rfl⟩,rs,sL,hr,⟨mk,bn⟩,hnl,YL⟩ kO
   have NT:pre.length < 12:=by have:=congrArg dP e; simp at this; lia
   simp only [aI,ar,ai,cQ,bQ,bg,aw,ae,aa,dC,eS]
   refine⟨by decide,?_⟩
   have c1:0<=c % 999:=dZ _ (by decide)
   have c2:c % 999 < 999:=dE _ (by decide)
   generalize c % 999=n at *
   refine fI (fun τ G3=>G'=G3/\∃ m:Int,(m∉sL/\0<=m/\m < 999)/\τ=[some d,some (.int k),some (.ref p0),some (.ref pn),some (.int c),some (.int m),x3,x4,x5,x6,x7]) ?_ ?_
   ·intro N3 tV
    obtain⟨kk,hk,qm⟩:=TZ (ns:=sL) c1 c2 (by lia)
    have main:∀ (j:Nat),j<=kk->Fw (gJ (bg (R9 false) (aw 5) (aw 3))) (bQ (bg lI (bg qv (aw 5) (dC (.int 1))) (dC (.int 999))) (aI 5)) (j+1) (fun _ _=>False) { nx:=N3,rt:=Q,bk:=N,ct:=N2 } [some d,some (.int k),some (.ref p0),some (.ref pn),some (.int c),some (.int (f0 n (kk - j))),x3,x4,x5,x6,x7] G':=by
     intro j
     induction j with
     | zero =>
      intro _
      show Fw _ _ (0+1) _ _ _ _
      rw [Fw]
      simp only [bQ,bg,aw,ae,aa,dC,aI,ar,ai,iw,eS,dD]
      refine LI (x:=f0 n (kk - 0)) (by decide) YL ?_
      simp only [aF,Sx,qm,decide_false,cY,if_false,bS]
      exact tV _ _ ⟨rfl,_,⟨qm,YU c1 c2 _⟩,rfl⟩
     | succ j ih =>
      intro hj
      rw [Fw]
      simp only [bQ,bg,aw,ae,aa,dC,aI,ar,ai,iw,eS,dD]
      refine LI (x:=f0 n (kk - (j+1))) (by decide) YL ?_
      by_cases hm:f0 n (kk - (j+1))∈sL
      ·simp only [aF,hm,decide_true,bP,if_false,bS,if_true]
       refine⟨by decide,?_⟩
       have e:(f0 n (kk - (j+1))+1) % 999=f0 n (kk - j):=by
        rw [show kk - j=(kk - (j+1))+1 by lia]; rfl
       rw [e]
       exact ih (by lia)
      ·simp only [aF,hm,decide_false,cY,if_false,bS]
       exact tV _ _ ⟨rfl,_,⟨hm,YU c1 c2 _⟩,rfl⟩
    have:=main kk (aM _)
    rw [E3] at this
    exact⟨kk+1,this⟩
   rintro _ _ ⟨rfl,m,⟨hm,bm⟩,rfl⟩
   simp only [cQ,bQ,bg,aw,ae,aa,dC,aI,ar,ai,jb]
   refine⟨by decide,by decide,?_⟩
   refine fI (fun τ G3=>G'=G3/\∃ re:Int,τ=[some d,some (.int k),some (.ref p0),some (.ref pn),some (.int c),some (.int m),some (.int re),x4,x5,x6,x7]) ?_ ?_
   ·intro N3 tV
    simp only [eT,bQ,bg,aw,ae,aa,dC,mD,aK,bL,aI,ar,ai,eY,dD,eS]
    refine⟨by decide,LM (α:=Int) (by decide) ?_⟩
    rw [bS,if_neg e7]
    by_cases h:c % 2=1
    ·rw [if_pos (decide_eq_true h)]
     simp only [Ie,YL,iu,iw,eS]
     refine⟨.inl ⟨by decide,by decide⟩,.inr ⟨by decide,by decide⟩,by decide,.inr ⟨by decide,by decide⟩,by decide,?_⟩
     exact tV _ _ ⟨rfl,_,rfl⟩
    ·rw [if_neg (by simp [h])]
     exact tV _ _ ⟨rfl,_,rfl⟩
   rintro _ _ ⟨rfl,re,rfl⟩
   simp only [uR,iM,xV,aw,ae,aa,nM,YL,aK,bL,cQ,bQ,bg,dC,aI,ar,ai,jb,eS,iu,iq,iZ,true_and]
   refine⟨Dv (by rw [ah]; lia),by decide,.inl ⟨by decide,by decide⟩,by decide,by decide,?_⟩
   have hr1:HR G (fK G' pn (.lst (sL.map enc++[D.int m]))) p0 as rs:=QW hr gn n0 nas
   have gp1:fK G' pn (.lst (sL.map enc++[D.int m])) pn=some (.lst ((sL++[m]).map enc)):=by rw [aO,aE]; rfl
   have h01:1 - 2 * (re % 2)=1\/1 - 2 * (re % 2)=-1:=by lia
   have more:=mk.more hm h01
   generalize 1 - 2 * (re % 2)=hh at *
   generalize re / 2=re1 at *
   generalize fK G' pn (.lst (sL.map enc++[D.int m]))=G3 at *
   simp only [fW]
   simp only [gE,dC,fO]
   refine⟨by decide,by decide,?_⟩
   unfold dR
   refine fZ (xs:=bq (2:Int).toNat) (fun pw τ G4=>∃ S1 re,(∃ e f g,τ=[some d,some (.int k),some (.ref p0),some (.ref pn),some (.int c),some (.int m),some (.int re),some (.int hh),e,f,g])/\HR G G4 p0 as S1/\G4 pn=some (.lst ((sL++[m]).map enc))/\S1.flatten.Perm ((pw.map fun (i:Nat)=>(⟨m+1,0+(i:Int),hh⟩:T3)).reverse++rs.flatten)) ⟨rs,re1,⟨_,_,_,rfl⟩,hr1,gp1,.refl _⟩ (fun _ _ _ _=>trivial) ?_ ?_
   ·rintro pw w ahM τ G4 N3 e3 ⟨S1,Xx,⟨f1,f2,f3,rfl⟩,V5,gp3,hp3⟩ tV
    have hw:w < 2:=List.mem_range.mp (show w∈bq 2 by show w∈bq (2:Int).toNat; rw [e3]; simp)
    simp only [aI,ar,ai,cQ,bQ,bg,aw,ae,aa,mD,aK,bL,dC,iM,xV,ko,ak,aG,iw,jb,eS]
    refine⟨by lia,?_⟩
    have j1:0<=Xx % k:=dZ _ (by lia)
    have j2:Xx % k < k:=dE _ (by lia)
    generalize Xx % k=j at *
    have hj:j.toNat < as.length:=by lia
    have ea:as[j.toNat]?=some as[j.toNat]:=ag hj
    have er:S1[j.toNat]?=some (S1[j.toNat]'(by have:=V5.len; lia)):=ag _
    generalize as[j.toNat]=a at *
    generalize (S1[j.toNat]'(by have:=V5.len; lia))=r at *
    have ga:=V5.at' _ _ _ ea er
    refine gv (x:=.ref a) (IsL.ref V5.gp) (by
     rw [kQ _ j1 (by rw [ah]; lia)]
     rw [dJ]
     have:=List.getElem?_eq_some_iff.mp ea
     rw [this.2]) ?_
    have hrl:r.length<=1000:=by
     have h1:=GQ (di er)
     have h2:=hp3.length_eq
     rw [aq,iP,ah,mk.len] at h2
     have h3:=congrArg dP e3
     rw [d4,aq,ak] at h3
     have h4:(2:Int).toNat=2:=rfl
     lia
    simp only [nM,Ie,iw,jb,ga,ah,eS,rm,true_and]
    refine⟨by lia,by lia,by lia,by lia,by lia,?_⟩
    generalize Xx / k=re3 at *
    have i1:0<=re3 % ((r.length:Int)+1):=dZ _ (by lia)
    have i2:re3 % ((r.length:Int)+1) < (r.length:Int)+1:=dE _ (by lia)
    generalize re3 % ((r.length:Int)+1)=i at *
    refine⟨by decide,i1,by lia,Dv hrl,?_⟩
    have ein:(r.map enc).take i.toNat++D.tup [.int (m+1),.int (0+(w:Int)),.int hh] :: (r.map enc).drop i.toNat=(r.take i.toNat++(⟨m+1,0+(w:Int),hh⟩:T3) :: r.drop i.toNat).map enc:=by
     rw [aE,au,OG,List.map_drop]; rfl
    rw [ein]
    have han:pn≠a:=fun z=>nas (z ▸ di ea)
    refine tV _ _ ⟨_,_,⟨_,_,_,rfl⟩,V5.put ea,by rw [dU han]; exact gp3,?_⟩
    refine(FH (PC _ _ _) S1 _ er).trans ?_
    rw [aE,yu]
    exact .cons _ hp3
   ·rintro τ G4 ⟨S1,Xx,⟨f1,f2,f3,rfl⟩,V5,gp3,hp3⟩
    refine kO _ _ ⟨⟨_,_,_,_,_,_,_,rfl⟩,S1,sL++[m],V5,⟨more.perm hp3,fun x hx=>by
     rcases List.mem_append.mp hx with hx | hx
     ·exact bn x hx
     ·rw [List.mem_singleton.mp hx]; exact bm⟩,by simp [hnl],gp3⟩
  ·rintro τ G' ⟨⟨x1,x2,x3,x4,x5,x6,x7,rfl⟩,rs,sL,hr,⟨mk,bn⟩,hnl,YL⟩
   exact hN _ _ ⟨⟨_,_,_,_,_,_,_,rfl⟩,rs,sL,hr,⟨mk,bn⟩,hnl⟩
 ·rintro _ G' ⟨⟨x1,x2,x3,x4,x5,x6,x7,rfl⟩,rs,sL,hr,⟨mk,bn⟩,hnl⟩
  simp only [dH,gz,aw,ae,aa]
  refine hr.fz (q rs ⟨mk.nd,mk.way,mk.hand,mk.J9,by rw [mk.len]; lia,?_⟩ (fun p hp=>?_) fun z=>?_)
  ·rw [← hr.len,hl]; lia
  ·have:=bn _ (mk.nm p hp); lia
  ·have:=hr.len
   rw [z,aG] at this; lia
end xY
end K2
end
section
namespace K2
open PySem (Str)
open Enc (enc)
namespace xY
open K2.P
open K2.Fg (hU tD fR)
open K2.Bn (NB gH eQ dq dM cW eq_int eT iA EA)
open K2.K8 (gu uy tJ P3 RT ja iE sE A5 qP kp In)
variable {rows:Rows}
theorem VX{n:Nat}{t:T3}(h:InT n t){p:Nat}(x:List Int):kp x (p:Int) t=decide (dot (vg n t) x % (p:Int)=0):=by
 unfold kp vg
 obtain⟨h1,h2,h3⟩:=h
 rw [T5 (by lia) (by lia) (by lia)]; rfl
theorem SQ(d:Dr rows){m:Int}(hm:m∈names rows):InT (cW rows).length (uy rows m):=by
 have:=tJ d (ns:=aJ (cW rows).length 0) (by simp) hm
 have a:=this.a
 have b:=this.b
 have c:=this.c
 rw [bK] at a b c
 exact⟨a,b,c⟩
noncomputable def Bu(rows:Rows):List T3:=(sE rows).map fun p=>uy rows p.a
theorem Dj(d:Dr rows):∀ t∈Bu rows,InT (cW rows).length t:=fun t ht=>by
 obtain⟨x,hx,rfl⟩:=List.mem_map.mp ht
 obtain⟨h1,h2⟩:=List.mem_filter.mp hx
 exact SQ d (qP d h1 (by simpa using h2))
theorem FG(d:Dr rows){p:Nat}(hp:Pr p)(x:List Int):C2 p ((uP p rows).map (·.2)) x↔C2 p ((Bu rows).map (vg (cW rows).length)) x:=by
 rw [(qR hp rows).2]
 have h:=A5 d fun t=>decide (dot (vg (cW rows).length t) x % (p:Int)=0)
 have e1:C2 p (((names rows).map (uy rows)).map (eqT p (cW rows).length)) x↔((names rows).map (uy rows)).all (fun t=>decide (dot (vg (cW rows).length t) x % (p:Int)=0))=true:=by
  rw [ft]
  constructor
  ·intro z t ht
   rw [decide_eq_true_iff]
   have:=z _ (aW ht)
   unfold eqT at this
   rw [Ms] at this; exact this
  ·intro z e he
   obtain⟨t,ht,rfl⟩:=List.mem_map.mp he
   have:=z t ht
   rw [decide_eq_true_iff] at this
   unfold eqT
   rw [Ms]; exact this
 have e2:C2 p ((Bu rows).map (vg (cW rows).length)) x↔(Bu rows).all (fun t=>decide (dot (vg (cW rows).length t) x % (p:Int)=0))=true:=by
  rw [ft]
  constructor
  ·intro z t ht
   rw [decide_eq_true_iff]
   exact z _ (aW ht)
  ·intro z e he
   obtain⟨t,ht,rfl⟩:=List.mem_map.mp he
   have:=z t ht
   rw [decide_eq_true_iff] at this
   exact this
 rw [e1,e2,h]; rfl
theorem Ue(d:Dr rows){p:Nat}(hp:Pr p):(So p rows).length+rk p 0 (cW rows).length ((Bu rows).map (vg (cW rows).length))=(cW rows).length:=by
 unfold So
 rw [ah]
 exact N8 hp (qR hp rows).1 (fun r hr=>by
  obtain⟨t,_,rfl⟩:=List.mem_map.mp hr
  exact vP) (FG d hp)
theorem Ol(d:Dr rows){p f:Nat}(hp:Pr p)(hf:f∈frees (uP p rows) (cW rows).length):(Bu rows).all (kp (cf p (cW rows).length (uP p rows) f) (p:Int))=true:=by
 have s:=(FG d hp _).mp (Ww (qR hp rows).1 hf)
 rw [ft]
 intro t ht
 rw [VX (Dj d t ht),decide_eq_true_iff]
 exact s _ (aW ht)
theorem Hw{R:List (Int×List Int)}{n:Nat}:(frees R n).Pairwise (· < ·):=by
 unfold frees
 exact qH _ uv
theorem B5{p n:Nat}{R:List (Int×List Int)}(h:Red p n R){f:Nat}:∀ {l:List Nat},l.Nodup->f∈l->(∀ g∈l,g∈frees R n)->((l.map (cf p n R)).map fun a=>a.getD f 0).sum=1
 | g :: l,nd,hf,hl=>by
  rw [cD] at nd
  rw [au,au,fM]
  have z:∀ l:List Nat,f∉l->(∀ g∈l,g∈frees R n)->f∈frees R n->((l.map (cf p n R)).map fun a=>a.getD f 0).sum=0:=by
   intro l
   induction l with
   | nil=>intro _ _ _; rfl
   | cons g l ih =>
    intro h1 h2 h3
    rw [au,au,fM,ih (fun z=>h1 (ao _ z)) (fun q hq=>h2 q (ao _ hq)) h3]
    rw [yS h (jW.mp (h2 g ay)).1 (fun z=>h1 (z ▸ ay)) (jW.mp h3).2]; rfl
  by_cases e:g=f
  ·subst e
   rw [EC h (hl g ay),z l nd.1 (fun q hq=>hl q (ao _ hq)) (hl g ay)]; rfl
  ·have hf':f∈l:=(List.mem_cons.mp hf).resolve_left (eC e)
   rw [B5 h nd.2 hf' fun q hq=>hl q (ao _ hq),yS h (jW.mp (hl g ay)).1 (eC e) (jW.mp (hl f hf)).2]; rfl
end xY
end K2
end
section
namespace K2
open PySem (Str)
open Enc (enc)
namespace xY
open K2.P
open K2.Fg (hU tD fR)
open K2.Bn (NB gH eQ dq dM cW eq_int eT iA EA)
open K2.K8 (gu uy tJ P3 RT ja iE sE A5 qP kp In)
variable {rows:Rows}
theorem SK{p n:Nat}(hp:Pr p){a:List Int}(h:wt p n a):K8.Sm a:=fun i=>by
 have:=h.el hp i
 have:=PB hp
 unfold el at *
 unfold K8.num
 lia
theorem SM(d:Dr rows):(Bu rows).length<=100:=by
 unfold Bu
 rw [ah]
 have:=fC (fun p:T3=>p.b == 1) rows.flatten
 have:=d.mU
 unfold sE; lia
noncomputable def Vi:oe:=B9
noncomputable def P2:iT :=
 (cF (bQ (cz hU (aK (aw 0) (aK (dC (.int 0)) bL))) (aI 1))
 (cF (bQ (bg lI (bg tu (aw 1) (dC (.int 3))) (dC (.int 9))) (aI 2))
 (cF (mZ (gJ (bg (xI false) (bg lI (bg tu (aw 1) (dC (.int 81))) (dC (.int 8))) (dC (.int 1)))) (bQ (bg qv (dC (.int 9)) (bg lI (bg tu (aw 1) (dC (.int 648))) (dC (.int 4)))) (aI 2)) eY)
 (cF (bQ (cz nS (aK (Ez (aw 0) (qr (dC (.int 1))) (qr (bg qv (dC (.int 1)) (aw 2)))) (aK (bg qv (dC (.int 1)) (bg lI (bg tu (aw 1) (dC (.int 27))) (dC (.int 3)))) bL))) (aI 3))
 (cF (bQ (bg jt (ko (aK (dC (.int 3)) (aK (dC (.int 5)) (aK (dC (.int 7)) bL)))) (bg lI (aw 1) (dC (.int 3)))) (aI 4))
 (cF (Ws 5 (bQ (eI 1 [] (lK (aw 3)) (aI 0) none (gz (mD AZ (aK (aw 0) bL)))) (aI 5)))
 (cF (bQ (cz iE (aK (aw 3) bL)) (aI 6))
 (cF (bQ (mD nF (aK (cz dM (aK (aw 3) bL)) bL)) (aI 7))
 (cF (bQ (cz oG (aK (aw 5) (aK (aw 4) bL))) (aI 8))
 (cF (bQ (cz gT (aK (aw 5) (aK (aw 4) bL))) (aI 9))
 (cF (mZ (OV (gJ (bg (xI true) (aw 5) (aw 3))) (yp (gJ (Oe "list" (aw 8))))) (dH (gz (dC (.bl false)))) eY)
 (cF (mZ (gJ (bg (xI true) (mD nF (aK (aw 8) bL)) (bg tL (aw 7) (cz nR (aK (aw 6) (aK (aw 7) (aK (aw 4) bL))))))) (dH (gz (dC (.bl false)))) eY)
 (cF (fW (lK (aw 8)) (aI 10) (mZ (OV (yp (gJ (cz nT (aK (aw 10) (aK (aw 7) (aK (aw 4) bL)))))) (yp (gJ (cz ja (aK (aw 6) (aK (aw 4) (aK (aw 10) bL))))))) (dH (gz (dC (.bl false)))) eY))
 (cF (bQ (yn FX (dC (.int 1))) (aI 11))
 (cF (fW (lK (aw 8)) (aI 10) (cF (bQ (cz nV (aK (aw 10) bL)) (aI 12))
 (cF (mZ (OV (gJ (bg XB (aw 12) (aw 11))) (OV (gJ (bg (xI true) (bg jt (aw 10) (aw 12)) (dC (.int 1)))) (gJ (bg (xI true) (mD Wz (aK (eI 1 [12] (lK (aw 8)) (aI 0) none (gz (bg jt (aw 0) (aw 1)))) bL)) (dC (.int 1)))))) (dH (gz (dC (.bl false)))) eY)
 (bQ (aw 12) (aI 11)))))
 (dH (gz (CS (cz fR (aK (aw 9) bL)) (bg (xI false) (aw 9) (cz md (aK (aw 4) (aK (mD nF (aK (aw 8) bL)) bL))))))))))))))))))))))
theorem WK(ds:List D)(G:Gp)(Q:DK)(h:Vi ds G Q fun _ _=>False):P2 (fun _ _=>False) (ends Q) (bU 13 ds) G:=by
 obtain⟨ns,rfl,hl,hG,q⟩:=h
 unfold P2
 simp only [ends,bU,au,bb,ak,aG,aJ,aT,bh,cQ,bQ,cz,aK,aw,aa,dC,bL,aI,ar,ai,bg,ae]
 refine⟨ns,0,rfl,Jm _,?_⟩
 generalize tD ns 0=fi
 simp only [jb,eS]
 refine⟨by decide,by decide,by decide,?_⟩
 have m1:=dZ (fi / 3) (show (9:Int)≠0 by decide)
 have m2:=dE (fi / 3) (show (0:Int) < 9 by decide)
 generalize fi / 3 % 9=mn0 at m1 m2
 refine fI (fun τ G'=>G=G'/\∃ mn:Int,(0<=mn/\mn<=12)/\τ=[some (.fG (ns.map D.int)),some (.int fi),some (.int mn),none,none,none,none,none,none,none,none,none,none]) ?_ ?_
 ·intro N hN
  simp only [eT,bQ,bg,dC,aw,ae,aa,aI,ar,ai,jb,eS,iw,eY,dD]
  refine⟨by decide,by decide,by decide,_,_,.int _,.int _,?_⟩
  rw [eq_int]
  by_cases c:fi / 81 % 8=1
  ·simp only [aF,c,decide_true,bP,if_false,bS,if_true]
   refine⟨by decide,by decide,by decide,hN _ _ ⟨rfl,_,⟨by lia,by lia⟩,rfl⟩⟩
  ·simp only [aF,c,decide_false,cY,if_false,bS]
   exact hN _ _ ⟨rfl,_,⟨by lia,by lia⟩,rfl⟩
 rintro _ _ ⟨rfl,mn,⟨n1,n2⟩,rfl⟩
 clear m1 m2 mn0
 simp only [cQ,bQ,cz,aK,Ez,aw,aa,bg,dC,ae,bL,aI,ar,ai,ko,ak,aG,eS,g4,jb,iw,DI,kd,ie]
 rw [vV]
 intro p1 h1
 refine⟨by decide,by decide,by decide,.ref p1,cut ns (some 1) (some (1+mn)),_,rfl,IsL.ref aO,⟨?_,by lia,by lia⟩,fun rows dr nb kD=>?_⟩
 ·unfold cut
  refine cG (List.length_take_le _ _) ?_
  show (if 1+mn < 0 then (1+mn+(ns.length:Int)).toNat else min (1+mn).toNat ns.length) - min 1 ns.length<=12
  rw [if_neg (by lia)]
  lia
 generalize fK G p1 (.lst ((cut ns (some 1) (some (1+mn))).map D.int))=G2
 have ali:=dr.str
 have bf:=iA dr
 have i1:=dZ fi (show (3:Int)≠0 by decide)
 have i2:=dE fi (show (0:Int) < 3 by decide)
 generalize fi % 3=ii at i1 i2
 obtain⟨p,hp,ha⟩:∃ p:Nat,Pr p/\oz [D.int 3,D.int 5,D.int 7] ii=some (.int (p:Nat)):=by
  have:ii=0\/ii=1\/ii=2:=by lia
  rcases this with rfl | rfl | rfl
  ·exact⟨3,.inl rfl,rfl⟩
  ·exact⟨5,.inr (.inl rfl),rfl⟩
  ·exact⟨7,.inr (.inr rfl),rfl⟩
 rw [ha]
 have p0:=hp.pos
 simp only [oI,EA,bQ,eI,aI,ar,ai,ae,aa,cz,aK,aw,bL,mD,eW]
 refine⟨by decide,by decide,zq (by rw [ah]; lia),?_⟩
 refine gF (xs:=rows) (fun pre acc τ G'=>G2=G'/\(∃ a,τ=[a])/\acc=pre.map enc) ⟨rfl,⟨_,rfl⟩,rfl⟩ (fun _ _ _ _ _=>trivial) ?_ ?_
 ·rintro pre r post acc τ G' N e ⟨rfl,⟨a,rfl⟩,rfl⟩ hN
  simp only [aI,gz,mD,aK,aw,ai,aa,bL]
  refine RH (IsL.enc r) fun p3 h3=>?_
  refine iJ (.new h3) h3 aO ?_
  exact hN _ _ _ ⟨rfl,⟨_,rfl⟩,by simp⟩
 rintro acc τ G' ⟨rfl,⟨a,rfl⟩,rfl⟩ p3 h3
 refine iJ (xs:=rows) (.new h3) h3 aO ?_
 clear h3 p3 a
 refine⟨rows,rfl,⟨dr,nb,kD⟩,?_⟩
 refine⟨rows,rfl,⟨dr,nb,kD⟩,?_⟩
 refine kP (IsL.enc (cW rows)) ?_
 rw [ah]
 refine⟨rows,p,rfl,⟨dr,nb,kD⟩,hp,?_⟩
 refine⟨rows,p,rfl,⟨dr,nb,kD⟩,hp,?_⟩
 have er:((sE rows).map fun p=>uy rows p.a)=Bu rows:=rfl
 rw [er]
 have ui:=Dj dr
 have uf:=SM dr
 have bl:=Ue dr hp
 have bs:=MF (p:=p) dr
 have hR:=(qR hp rows).1
 have bk:∀ f∈frees (uP p rows) (cW rows).length,(Bu rows).all (kp (cf p (cW rows).length (uP p rows) f) (p:Int))=true:=fun f hf=>Ol dr hp hf
 have hn:(cW rows).length<=100:=by lia
 have eb:So p rows=(frees (uP p rows) (cW rows).length).map (cf p (cW rows).length (uP p rows)):=rfl
 generalize cW rows=bw at *
 generalize uP p rows=R at *
 generalize So p rows=B at *
 generalize bw.length=n at *
 generalize Bu rows=U at *
 simp only [eT,OV,dH,gz,dC,eY,if_true,yp,dD,vU,aw,ae,aa,bg]
 refine LM (by decide) ?_
 simp only [decide_true,bP,if_true,bS,aF,if_false]
 refine L8 (IsL.enc B) ?_
 simp only [bS]
 rw [if_neg (by simp),oI,eT]
 simp only [dH,gz,dC,eY,dD,bg,mD,aK,aw,ae,aa,bL,cz]
 refine kP (IsL.enc B) ?_
 refine⟨p,n,U,rfl,⟨hp,hn,uf,ui⟩,?_⟩
 simp only [iq]
 refine⟨_,_,.int _,.int _,?_⟩
 rw [eq_int,ah,decide_eq_true (show (B.length:Int)=(n:Int) - ((rk p 0 n (U.map (vg n)):Nat):Int) by lia)]
 simp only [bP,if_true,bS,aF,if_false]
 have it:(B.map enc:List D)=(frees R n).map fun f=>enc (cf p n R f):=by rw [eb,bV]; rfl
 have ml:∀ {f:Nat},f∈frees R n->f < n:=fun h=>(jW.mp h).1
 refine fI (fun τ G'=>G2=G'/\∃ x,τ=[some (.fG (ns.map D.int)),some (.int fi),some (.int mn),some (enc rows),some (.int (p:Nat)),some (enc rows),some (enc U),some (.int (n:Nat)),some (enc B),some (.int ((p:Int) ^ B.length)),x,none,none]) ?_ ?_
 ·intro N hN
  simp only [fW,eW,aw,ae,aa]
  refine gU ?_
  rw [it]
  refine fZ (xs:=frees R n) (fun pre τ G'=>G2=G'/\∃ x,τ=[some (.fG (ns.map D.int)),some (.int fi),some (.int mn),some (enc rows),some (.int (p:Nat)),some (enc rows),some (enc U),some (.int (n:Nat)),some (enc B),some (.int ((p:Int) ^ B.length)),x,none,none]) ⟨rfl,_,rfl⟩ (fun _ _ _ _=>trivial) ?_ ?_
  ·rintro pre f post τ G' N2 e ⟨rfl,x,rfl⟩ kO
   have hf:f∈frees R n:=by rw [e]; simp
   have v:=KQ hp hR (ml hf)
   simp only [aI,ar,ai,eT,OV,yp,dH,gz,dC,eY,if_true,dD,cz,aK,aw,ae,aa,bL]
   refine⟨p,n,_,rfl,⟨v,hn⟩,?_⟩
   simp only [bS,bP,aF,if_false]
   refine⟨U,(p:Nat),_,cf p n R f,rfl,IsL.enc (cf p n R f),⟨uf,by lia,SK hp v,fun t ht=>?_⟩,?_⟩
   ·obtain⟨h1,h2,h3⟩:=ui t ht
    exact⟨by rw [v.1]; exact h1,by rw [v.1]; exact h2,by rw [v.1]; exact h3⟩
   rw [bk f hf]
   simp only [bS,bP,aF,if_false]
   exact kO _ _ ⟨rfl,_,rfl⟩
  ·rintro τ G' ⟨rfl,x,rfl⟩
   exact hN _ _ ⟨rfl,_,rfl⟩
 rintro _ _ ⟨rfl,x,rfl⟩
 simp only [cQ,bQ,yn,dC,aI,ar,ai,oM]
 refine fI (fun τ G'=>∃ x y z,τ=[some (.fG (ns.map D.int)),some (.int fi),some (.int mn),some (enc rows),some (.int (p:Nat)),some (enc rows),some (enc U),some (.int (n:Nat)),some (enc B),some (.int ((p:Int) ^ B.length)),x,y,z]) ?_ ?_
 ·intro N hN
  simp only [fW,eW,aw,ae,aa]
  refine gU ?_
  rw [it]
  refine fZ (xs:=frees R n) (fun pre τ G'=>∃ la:Int,(∀ g∈(frees R n).drop pre.length,la < ((g:Nat):Int))/\∃ x z,τ=[some (.fG (ns.map D.int)),some (.int fi),some (.int mn),some (enc rows),some (.int (p:Nat)),some (enc rows),some (enc U),some (.int (n:Nat)),some (enc B),some (.int ((p:Int) ^ B.length)),x,some (.int la),z]) ⟨-1,fun g _=>by lia,_,_,rfl⟩ (fun _ _ _ _=>trivial) ?_ ?_
  ·rintro pre f post τ G' N2 e ⟨la,hla,x,z,rfl⟩ kO
   have hf:f∈frees R n:=by rw [e]; simp
   have v:=KQ hp hR (ml hf)
   have c1:=EC hR hf
   have ed:(frees R n).drop pre.length=f :: post:=by rw [e,List.drop_left]
   have lf:=hla f (by rw [ed]; simp)
   simp only [aI,ar,ai,cQ,bQ,cz,aK,aw,ae,aa,bL]
   refine⟨cf p n R f,f,rfl,⟨by rw [v.1]; exact ml hf,by rw [v.1]; exact hn,fun k hk=>Wx hR (ml hf) hk,by rw [c1]; decide⟩,?_⟩
   dsimp only
   rw [oI,eT]
   simp only [OV,dH,gz,dC,eY,bQ,aw,ae,aa,aI,ar,ai,if_true,dD,bg,mD,aK,eI,bL,eW,yC,bS]
   rw [decide_eq_false (by lia)]
   simp only [aF,if_false]
   refine gv (IsL.enc (cf p n R f)) (xN (by rw [v.1]; exact ml hf)) ?_
   refine⟨_,_,.int _,.int _,?_⟩
   rw [eq_int,c1]
   simp only [decide_true,bP,if_true,bS,aF,if_false]
   refine gU ⟨zq (by rw [ah]; lia),?_⟩
   rw [it]
   refine gF (xs:=frees R n) (fun pr acc τ G3=>G'=G3/\(∃ a,τ=[a,some (.int (f:Nat))])/\acc=((pr.map (cf p n R)).map fun a=>a.getD f 0).map D.int) ⟨rfl,⟨_,rfl⟩,rfl⟩ (fun _ _ _ _ _=>trivial) ?_ ?_
   ·rintro pr g po acc τ G3 N3 e3 ⟨rfl,⟨a,rfl⟩,rfl⟩ tV
    have hg:g∈frees R n:=by rw [e3]; simp
    simp only [aI,gz,bg,aw,ai,aa,ae]
    refine gv (IsL.enc (cf p n R g)) (xN (by rw [RE hR]; exact ml hf)) ?_
    refine mS (tV _ _ _ ⟨rfl,⟨_,rfl⟩,?_⟩)
    rw [aE,aE,aE]; rfl
   ·rintro acc τ G3 ⟨rfl,⟨a,rfl⟩,rfl⟩ pa fa
    refine⟨_,pz (IsL.ref aO),mO (IsL.ref aO),⟨?_,fun v hv=>?_⟩,?_⟩
    ·rw [ah,← eb]; lia
    ·obtain⟨b,hb,rfl⟩:=List.mem_map.mp hv
     obtain⟨g,hg,rfl⟩:=List.mem_map.mp hb
     have:=(KQ hp hR (ml hg)).el hp (f:Nat)
     have:=PB hp
     unfold el at *
     rw [aX] at *
     lia
    ·rw [B5 hR (Hw.imp fun h=>bT h) hf fun _ h=>h]
     refine⟨_,_,.int _,.int _,?_⟩
     rw [eq_int]
     simp only [decide_true,bP,if_true,bS,aF,if_false]
     refine kO _ _ ⟨(f:Nat),fun g hg=>?_,_,_,rfl⟩
     rw [aq,bp,← List.drop_drop,ed] at hg
     have pw:=Hw (R:=R) (n:=n)
     rw [e,List.pairwise_append,List.pairwise_cons] at pw
     have:=pw.2.1.1 g hg
     lia
  ·rintro τ G' ⟨la,_,x,z,rfl⟩
   exact hN _ _ ⟨_,_,_,rfl⟩
 rintro _ G9 ⟨x,y,z,rfl⟩
 simp only [dH,gz,rQ,cz,aK,aw,ae,aa,bL,bg,mD]
 refine⟨_,rfl,?_⟩
 simp only [bS,if_true]
 refine kP (IsL.enc B) ?_
 rw [ah]
 refine⟨p,B.length,rfl,⟨hp,by lia⟩,?_⟩
 refine⟨_,_,.int _,.int _,?_⟩
 rw [eq_int]
 simp only [aF,decide_true,bP,if_false]
 exact mS (q _)
end xY
end K2
end
namespace Fin
open PySem PySem.Spec PyProof.Rows L2 K2
open K2.Fg
open K2.Bn
open K2.K8
open K2.xY
open K2.P
noncomputable def top(i:Nat):Stmt:=PySem.Challenge.pw_knotwise_k53_basis.main.body.getD i (.Pass ⟨0,0,0,0⟩)
section
variable {P:ck} {w:World} {K:aj} {mg:Str->Option Value} {base:Heap}
theorem FN:cV ["_law_script","_law_k"] ["_law_script","_law_k"] (aC (top 27)):=sG
theorem HG {f:Addr} {fd:bc} (F:o3 K "_law_cell" "_law_cell" (top 27) f fd) (e8:mg "len" = none):dI P w K mg base gX 1 f fd ["_law_script","_law_k"] (dN K hU) :=
 sQ F FN IG fun _ _ _ _ _ _ hr=>have hu:=hr.units; have hu0:=hr.Py; (aH (ic (fm (Ql hu0) (bI 1) (fE gx rfl e8 kI (ax (bI 0) aR)) (fV _)) (aU (cL (cU (cS hu (bI 0) (bI 1) (fun _ _=>rfl))))) fL)
 (aU (cL (cU aS))))
theorem xt:cV ["_law_cells","_law_strings","_law_rows","_law_names","_law_cell_here","_law_name","_law_rest","_law_hand","_law_way","_law_row","_law_at"] ["_law_cells","_law_strings"] (aC (top 29)):=sG
theorem HC {f:Addr} {fd:bc} (F:o3 K "_law_made" "_law_made" (top 29) f fd) (e8:mg "len" = none) (cK:mg "range" = none):dI P w K mg base gX 1 f fd ["_law_cells","_law_strings"] (dN K nS) :=
 sQ F xt IC fun _ _ _ _ _ _ hr=>have nd:=xt.nd; have hu:=hr.units; (aH (kW ["_law_k"] (sc:=aC (top 29)) (XN:=["_law_cells","_law_strings","_law_rows","_law_names","_law_cell_here","_law_name","_law_rest","_law_hand","_law_way","_law_row","_law_at"]) (i:=2) nd rfl rfl (fP rfl cK (bI 1)) (fun _ _ _ _=>(j8 (i:=0) (show (["_law_k"]:List Str).Nodup by decide +kernel) rfl)) (fun _ _ _ _=>.none) (fun _ _ _ _=>(mh aR)))
 (aH (jO (i:=3) nd rfl (mh aR))
 (aH (eO bN rfl (fJ (bI 0)) (j8 (i:=4) nd rfl) (aH (jO (i:=5) nd rfl (cg fS (bI 4) aS))
 (aH (Ni bN (fm (VI hu) (bI 5) (bI 3) (by with_unfolding_all rfl)) (aU (jO (i:=5) nd rfl (cg fS (cg kb (bI 5) aS) aS))))
 (aH (jO (i:=6) nd rfl (cg kY (bI 4) aS))
 (aH (ic (fm (kA hu) (cg fS (bI 4) aS) aS (fV _)) (aU (jO (i:=6) nd rfl (cg fS (cg je (cg fS (cg je (cg kb (bI 4) (cg je aS (fE gx rfl e8 kI (ax (bI 3) aR)))) aS) aS) aS) aS))) fL)
 (aH (j7 (ka cx ia h8 gZ mL (bI 3) (ax (bI 5) aR)))
 (aH (jO (i:=7) nd rfl (cg jd aS (cg je aS (cg fS (bI 6) aS))))
 (aH (jO (i:=6) nd rfl (cg kY (bI 6) aS))
 (aU (eO bN rfl (fP rfl cK aS) (j8 (i:=8) nd rfl) (aH (jO (i:=9) nd rfl (cS hu (bI 2) (cg fS (bI 6) (bI 1)) (fun _ _=>rfl)))
 (aH (jO (i:=6) nd rfl (cg kY (bI 6) (bI 1)))
 (aH (jO (i:=10) nd rfl (cg fS (bI 6) (cg kb (fE gx rfl e8 kI (ax (bI 9) aR)) aS)))
 (aH (jO (i:=6) nd rfl (cg kY (bI 6) (cg kb (fE gx rfl e8 kI (ax (bI 9) aR)) aS)))
 (aU (j7 (ka cx PySem.F.slot_list_insert PySem.F.type_list_insert gZ J0 (bI 9) (ax (bI 10) (ax (iL (ax (cg kb (bI 5) aS) (ax (bI 8) (ax (bI 7) aR)))) aR)))))))))))))))))))
 (aU (cL (cU (bI 2)))))))
theorem zA:cV ["_law_row","_law_at","_law_k","_law_back"] ["_law_row","_law_at","_law_k"] (aC (top 30)):=sG
theorem Kz {f:Addr} {fd:bc} (F:o3 K "_law_bow" "_law_bow" (top 30) f fd) (e8:mg "len" = none) (cK:mg "range" = none):dI P w K mg base gX 1 f fd ["_law_row","_law_at","_law_k"] (dN K jL) :=
 sQ F zA K5 fun _ _ _ _ _ _ hr=>have nd:=zA.nd; have hu:=hr.units; (aH (eO bN rfl (fP rfl cK (fE gx rfl e8 kI (ax (bI 0) aR))) (j8 (i:=3) nd rfl) (aU (ic (fm (kA hu) (cS hu (cS hu (bI 0) (cg jd (bI 2) (bI 3)) (fun _ _=>rfl)) aS (fun _ _=>rfl)) aS (fV _)) (aU (cL (cU (jc (cS hu (bI 0) (cg jd (bI 2) (bI 3)) (fun _ _=>rfl)) kX (jz aS))))) fL)))
 (aU (cL (cU (iL (ax (bI 1) (ax aS aR)))))))
theorem uV:cV ["_law_rows","_law_homes_here","_law_at","_law_row","_law_k"] ["_law_rows"] (aC (top 31)):=sG
theorem Ep {f:Addr} {fd:bc} (F:o3 K "_law_homes" "_law_homes" (top 31) f fd) (dS:mg "enumerate" = none) (e8:mg "len" = none) (cK:mg "range" = none) {kF:Addr} {oV:bc} (tO:dI P w K mg base gX 1 kF oV ["_law_row","_law_at","_law_k"] (dN K jL)) (tP:mg "_law_bow" = some (.ref kF)) (tS:aB K (.ref kF)=true) (uj:Binds K oV ["_law_row","_law_at","_law_k"] []):dI P w K mg base gX 2 f fd ["_law_rows"] (dN K dq) :=
 sQ F uV EX fun _ _ _ _ _ _ hr=>have nd:=uV.nd; have hu:=hr.units; (aH (jO (i:=1) nd rfl r8)
 (aH (eO bN rfl (qX rfl dS (bI 0)) (j9 rfl (dv (j8 (i:=2) nd rfl) (dv (j8 (i:=3) nd rfl) iY)) (dB (dB i4))) (aH (ic (fm (kA hu) (bI 3) (mh aR) (fV _)) (aU (jI (iL (ax (bI 2) (ax aS aR))) (jJ hu (bI 1) (iL (ax (bI 2) (ax aS aR)))))) fL)
 (aU (eO bN rfl (fP rfl cK (fE gx rfl e8 kI (ax (bI 3) aR))) (j8 (i:=4) nd rfl) (aU (jI (bX tO (hr.mono (by decide)) rfl tP tS uj (ax (bI 3) (ax (bI 2) (ax (bI 4) aR)))) (jJ hu (bI 1) (jc (cS hu (bI 3) (bI 4) (fun _ _=>rfl)) kX (jz aS)))))))))
 (aU (cL (cU (bI 1))))))
theorem xw:cV ["_law_rows","_law_homes_here"] ["_law_rows"] (aC (top 32)):=sG
theorem HH {f:Addr} {fd:bc} (F:o3 K "_law_bows" "_law_bows" (top 32) f fd) (wK:mg "set" = none) (jf:mg "sorted" = none) {i6:Addr} {lq:bc} (pJ:dI P w K mg base gX 2 i6 lq ["_law_rows"] (dN K dq)) (pN:mg "_law_homes" = some (.ref i6)) (pT:aB K (.ref i6)=true) (p8:Binds K lq ["_law_rows"] []):dI P w K mg base gX 3 f fd ["_law_rows"] (dN K dM) :=
 sQ F xw IH fun _ _ _ _ _ _ hr=>have nd:=xw.nd; have hu:=hr.units; (aH (jO (i:=1) nd rfl (bX pJ (hr.mono (by decide)) rfl pN pT p8 (ax (bI 0) aR)))
 (aU (cL (cU (qY rfl hu rfl jf rfl wK (ax (iy ["_law_spot","_law_homes_here"] (sc:=aC (top 32)) (XN:=["_law_rows","_law_homes_here"]) (zN (bI 1)) (fun _ _ _ _=>(j8 (i:=0) (show (["_law_spot","_law_homes_here"]:List Str).Nodup by decide +kernel) rfl)) (fun _ _ _ _=>.none) (fun _ _ _ _=>(cS hu (bI 1) (bI 0) (fun _ _=>rfl)))) aR))))))
theorem sZ:cV ["_law_rows","_law_homes_here","_law_order","_law_found","_law_at","_law_row","_law_k","_law_over","_law_comes"] ["_law_rows"] (aC (top 33)):=sG
theorem BK {f:Addr} {fd:bc} (F:o3 K "_law_threes" "_law_threes" (top 33) f fd) (dS:mg "enumerate" = none) (e8:mg "len" = none) (cK:mg "range" = none) {i6:Addr} {lq:bc} (pJ:dI P w K mg base gX 2 i6 lq ["_law_rows"] (dN K dq)) (pN:mg "_law_homes" = some (.ref i6)) (pT:aB K (.ref i6)=true) (p8:Binds K lq ["_law_rows"] []) {jP:Addr} {mX:bc} (rg:dI P w K mg base gX 3 jP mX ["_law_rows"] (dN K dM)) (rj:mg "_law_bows" = some (.ref jP)) (rq:aB K (.ref jP)=true) (rR:Binds K mX ["_law_rows"] []) {kF:Addr} {oV:bc} (tO:dI P w K mg base gX 1 kF oV ["_law_row","_law_at","_law_k"] (dN K jL)) (tP:mg "_law_bow" = some (.ref kF)) (tS:aB K (.ref kF)=true) (uj:Binds K oV ["_law_row","_law_at","_law_k"] []):dI P w K mg base gX 4 f fd ["_law_rows"] (dN K iE) :=
 sQ F sZ BV fun _ _ _ _ _ _ hr=>have nd:=sZ.nd; have hu:=hr.units; (aH (jO (i:=1) nd rfl (bX pJ (hr.mono (by decide)) rfl pN pT p8 (ax (bI 0) aR)))
 (aH (jO (i:=2) nd rfl (bX rg (hr.mono (by decide)) rfl rj rq rR (ax (bI 0) aR)))
 (aH (jO (i:=3) nd rfl (mh aR))
 (aH (eO bN rfl (qX rfl dS (bI 0)) (j9 rfl (dv (j8 (i:=4) nd rfl) (dv (j8 (i:=5) nd rfl) iY)) (dB (dB i4))) (aU (eO bN rfl (fP rfl cK (fE gx rfl e8 kI (ax (bI 5) aR))) (j8 (i:=6) nd rfl) (aU (ic (fm (kA hu) (cS hu (cS hu (bI 5) (bI 6) (fun _ _=>rfl)) aS (fun _ _=>rfl)) aS (fV _)) (aH (jO (i:=7) nd rfl (ka cx fH gB gZ (mC hu) (bI 2) (ax (cS hu (bI 1) (iL (ax (cS hu (cS hu (bI 5) (bI 6) (fun _ _=>rfl)) aS (fun _ _=>rfl)) (ax aS aR))) (fun _ _=>rfl)) aR)))
 (aH (jO (i:=8) nd rfl (ka cx fH gB gZ (mC hu) (bI 2) (ax (bX tO (hr.mono (by decide)) rfl tP tS uj (ax (bI 5) (ax (bI 4) (ax (cg jd (bI 6) aS) aR)))) aR)))
 (aU (j7 (ka cx ia h8 gZ mL (bI 3) (ax (iL (ax (bI 7) (ax (bI 8) (ax (ka cx fH gB gZ (mC hu) (bI 2) (ax (jc (cS hu (bI 5) (bI 6) (fun _ _=>rfl)) kX (jz aS)) aR)) aR)))) aR)))))) fL)))))
 (aU (cL (cU (bI 3))))))))
theorem yg:cV ["p"] ["p"] (aC (top 15)):=sG
theorem ym {f:Addr} {fd:bc} (F:o3 K "refuse_other" "refuse_other" (top 15) f fd) {rG:Addr} (N6:mg "PRIMES" = some (.ref rG)) (oR:B4 K rG [3,5,7]=true):dI P w K mg base gX 1 f fd ["p"] (dN K gb) :=
 sQ F yg yt fun _ _ _ _ _ _ hr=>have hu:=hr.units; (aU (ic (P8 hu rfl N6 oR (bI 0)) (aU Nj) fL))
theorem FI:cV ["row","string"] ["row","string"] (aC (top 6)):=sG
theorem Hy {f:Addr} {fd:bc} (F:o3 K "spots_on" "spots_on" (top 6) f fd):dI P w K mg base gX 1 f fd ["row","string"] (dN K nP) :=
 sQ F FI Iz fun _ _ _ _ _ _ hr=>(aH (ic (vn (ky (bI 0))) (aU (cL (cU (mh (ax (iL (ax (bI 1) (ax aS aR))) aR))))) fL)
 (aU (cL (cU (iy ["passing"] (sc:=aC (top 6)) (XN:=["row","string"]) (fJ (bI 0)) (fun _ _ _ _=>(j8 (i:=0) (show (["passing"]:List Str).Nodup by decide +kernel) rfl)) (fun _ _ _ _=>.none) (fun _ _ _ _=>(jc (bI 0) kX (jz aS))))))))
theorem zC:cV ["row","string","spots","unders","bow","found","spot"] ["row","string"] (aC (top 12)):=sG
theorem KC {f:Addr} {fd:bc} (F:o3 K "bows_on" "bows_on" (top 12) f fd) {tW:Addr} {AM:bc} (Gg:dI P w K mg base gX 1 tW AM ["row","string"] (dN K nP)) (Gw:mg "spots_on" = some (.ref tW)) (GV:aB K (.ref tW)=true) (Ig:Binds K AM ["row","string"] []):dI P w K mg base gX 2 f fd ["row","string"] (dN K pD) :=
 sQ F zC K7 fun _ _ _ _ _ _ hr=>have nd:=zC.nd; have hu:=hr.units; (aH (jO (i:=2) nd rfl (bX Gg (hr.mono (by decide)) rfl Gw GV Ig (ax (bI 0) (ax (bI 1) aR))))
 (aH (kW ["spot"] (sc:=aC (top 12)) (XN:=["row","string","spots","unders","bow","found","spot"]) (i:=3) nd rfl rfl (fJ (bI 2)) (fun _ _ _ _=>(j8 (i:=0) (show (["spot"]:List Str).Nodup by decide +kernel) rfl)) (fun _ _ _ _=>(.some (fm (kA hu) (cS hu (bI 0) aS (fun _ _=>rfl)) aS (fV _)))) (fun _ _ _ _=>(bI 0)))
 (aH (jO (i:=4) nd rfl (Qh (ky (bI 3)) (cS hu (bI 3) (zO uJ aS) (fun _ _=>rfl)) (iL (ax (bI 1) (ax aS aR)))))
 (aH (jO (i:=5) nd rfl r8)
 (aH (eO bN rfl (fJ (bI 2)) (j8 (i:=6) nd rfl) (aH (ic (fm (kA hu) (cS hu (bI 6) aS (fun _ _=>rfl)) aS (fV _)) (aU (jO (i:=4) nd rfl (bI 6))) fL)
 (aU (jI (bI 4) (jJ hu (bI 5) (bI 6))))))
 (aU (cL (cU (bI 5)))))))))
theorem Cf:cV ["drawing","found","string","row"] ["drawing"] (aC (top 13)):=sG
theorem Ob {f:Addr} {fd:bc} (F:o3 K "bow_at" "bow_at" (top 13) f fd) (dS:mg "enumerate" = none) {w8:Addr} {CQ:bc} (JV:dI P w K mg base gX 2 w8 CQ ["row","string"] (dN K pD)) (J7:mg "bows_on" = some (.ref w8)) (Kk:aB K (.ref w8)=true) (KY:Binds K CQ ["row","string"] []):dI P w K mg base gX 3 f fd ["drawing"] (dN K eQ) :=
 sQ F Cf Ow fun _ _ _ _ _ _ hr=>have nd:=Cf.nd; have hu:=hr.units; (aH (jO (i:=1) nd rfl r8)
 (aH (eO bN rfl (qX rfl dS (bI 0)) (j9 rfl (dv (j8 (i:=2) nd rfl) (dv (j8 (i:=3) nd rfl) iY)) (dB (dB i4))) (aU (j7 (ka qF IK PySem.F.type_dict_update zi (Qu hu) (bI 1) (ax (cU (bX JV (hr.mono (by decide)) rfl J7 Kk KY (ax (bI 3) (ax (bI 2) aR)))) aR)))))
 (aU (cL (cU (bI 1))))))
theorem SX:cV ["drawing"] ["drawing"] (aC (top 14)):=sG
theorem TY {f:Addr} {fd:bc} (F:o3 K "bows" "bows" (top 14) f fd) (jg:mg "list" = none) (wK:mg "set" = none) (jf:mg "sorted" = none) {mW:Addr} {rP:bc} (wJ:dI P w K mg base gX 3 mW rP ["drawing"] (dN K eQ)) (wM:mg "bow_at" = some (.ref mW)) (wR:aB K (.ref mW)=true) (xg:Binds K rP ["drawing"] []):dI P w K mg base gX 4 f fd ["drawing"] (dN K gH) :=
 sQ F SX Um fun _ _ _ _ _ _ hr=>have hu:=hr.units; (aU (cL (cU (qY rfl hu rfl jf rfl wK (ax (Np rfl rfl jg (bX wJ (hr.mono (by decide)) rfl wM wR xg (ax (bI 0) aR))) aR)))))
theorem zB:cV ["factors","place","other","p","number"] ["factors","place","other","p"] (aC (top 21)):=sG
theorem KA {f:Addr} {fd:bc} (F:o3 K "cleared" "cleared" (top 21) f fd) (pL:mg "zip" = none):dI P w K mg base gX 1 f fd ["factors","place","other","p"] (dN K ku) :=
 sQ F zB K6 fun _ _ _ _ _ _ hr=>have nd:=zB.nd; have hu:=hr.units; (aH (jO (i:=4) nd rfl (cS hu (bI 0) (bI 1) (fun _ _=>rfl)))
 (aU (cL (cU (iy ["factor","less","number","p"] (sc:=aC (top 21)) (XN:=["factors","place","other","p","number"]) (DN rfl pL (bI 0) (bI 2)) (fun _ _ _ _=>(j9 rfl (dv (j8 (i:=0) (show (["factor","less","number","p"]:List Str).Nodup by decide +kernel) rfl) (dv (j8 (i:=1) (show (["factor","less","number","p"]:List Str).Nodup by decide +kernel) rfl) iY)) (dB (dB i4)))) (fun _ _ _ _=>.none) (fun _ _ _ _=>(cg fS (cg jd (bI 0) (cg je (bI 2) (bI 1))) (bI 3))))))))
theorem tj:cV ["factors","places"] ["factors"] (aC (top 19)):=sG
theorem BL {f:Addr} {fd:bc} (F:o3 K "last_place" "last_place" (top 19) f fd) (dS:mg "enumerate" = none):dI P w K mg base gX 1 f fd ["factors"] (dN K kN) :=
 sQ F tj BW fun _ _ _ _ _ _ hr=>have nd:=tj.nd; have hu:=hr.units; (aH (kW ["place","factor"] (sc:=aC (top 19)) (XN:=["factors","places"]) (i:=1) nd rfl rfl (qX rfl dS (bI 0)) (fun _ _ _ _=>(j9 rfl (dv (j8 (i:=0) (show (["place","factor"]:List Str).Nodup by decide +kernel) rfl) (dv (j8 (i:=1) (show (["place","factor"]:List Str).Nodup by decide +kernel) rfl) iY)) (dB (dB i4)))) (fun _ _ _ _=>(.some (fm (pH hu) (bI 1) aS (fV _)))) (fun _ _ _ _=>(bI 0)))
 (aU (cL (cU (Qh (ky (bI 1)) (cS hu (bI 1) (zO uJ aS) (fun _ _=>rfl)) yE)))))
theorem Ce:cV ["factors","place","p","inverse"] ["factors","place","p"] (aC (top 20)):=sG
theorem Oa {f:Addr} {fd:bc} (F:o3 K "scaled" "scaled" (top 20) f fd) (cK:mg "range" = none):dI P w K mg base gX 1 f fd ["factors","place","p"] (dN K rX) :=
 sQ F Ce Ov fun _ _ _ _ _ _ hr=>have nd:=Ce.nd; have hu:=hr.units; (aH (jO (i:=3) nd rfl (cS hu (iy ["number","factors","place","p"] (sc:=aC (top 20)) (XN:=["factors","place","p","inverse"]) (fP rfl cK (bI 2)) (fun _ _ _ _=>(j8 (i:=0) (show (["number","factors","place","p"]:List Str).Nodup by decide +kernel) rfl)) (fun _ _ _ _=>(.some (fm (kA hu) (cg fS (cg je (bI 0) (cS hu (bI 1) (bI 2) (fun _ _=>rfl))) (bI 3)) aS (fV _)))) (fun _ _ _ _=>(bI 0))) aS (fun _ _=>rfl)))
 (aU (cL (cU (iy ["factor","inverse","p"] (sc:=aC (top 20)) (XN:=["factors","place","p","inverse"]) (fJ (bI 0)) (fun _ _ _ _=>(j8 (i:=0) (show (["factor","inverse","p"]:List Str).Nodup by decide +kernel) rfl)) (fun _ _ _ _=>.none) (fun _ _ _ _=>(cg fS (cg je (bI 0) (bI 1)) (bI 2))))))))
theorem Cd:cV ["equations","p","by_place","equation","left","place","last"] ["equations","p"] (aC (top 22)):=sG
theorem N9 {f:Addr} {fd:bc} (F:o3 K "solved" "solved" (top 22) f fd) (jg:mg "list" = none) {w7:Addr} {CP:bc} (zS:dI P w K mg base gX 1 w7 CP ["factors","place","other","p"] (dN K ku)) (zY:mg "cleared" = some (.ref w7)) (Ap:aB K (.ref w7)=true) (A3:Binds K CP ["factors","place","other","p"] []) {pX:Addr} {vS:bc} (Bz:dI P w K mg base gX 1 pX vS ["factors"] (dN K kN)) (BC:mg "last_place" = some (.ref pX)) (BI:aB K (.ref pX)=true) (BQ:Binds K vS ["factors"] []) {AH:Addr} {HU:bc} (Nv:dI P w K mg base gX 1 AH HU ["factors","place","p"] (dN K rX)) (Nz:mg "scaled" = some (.ref AH)) (NK:aB K (.ref AH)=true) (Oj:Binds K HU ["factors","place","p"] []):dI P w K mg base gX 2 f fd ["equations","p"] (dN K rW) :=
 sQ F Cd Ou fun _ _ _ _ _ _ hr=>have nd:=Cd.nd; have hu:=hr.units; (aH (jO (i:=2) nd rfl r8)
 (aH (eO bN rfl (fJ (bI 0)) (j8 (i:=3) nd rfl) (aH (jO (i:=4) nd rfl (bI 3))
 (aH (Qa (j:=5) (k:=4) bN rfl nd (bI 2) rfl rfl (bX zS (hr.mono (by decide)) rfl zY Ap A3 (ax (bI 4) (ax (bI 5) (ax (cS hu (bI 2) (bI 5) (fun _ _=>rfl)) (ax (bI 1) aR))))))
 (aH (jO (i:=6) nd rfl (bX Bz (hr.mono (by decide)) rfl BC BI BQ (ax (bI 4) aR)))
 (aU (ic (Cm (bI 6)) (aH (jO (i:=4) nd rfl (bX Nv (hr.mono (by decide)) rfl Nz NK Oj (ax (bI 4) (ax (bI 6) (ax (bI 1) aR)))))
 (aH (eO bN rfl (fJ (mK (Ia rfl) rfl jg yU (ax (bI 2) aR))) (j8 (i:=5) nd rfl) (aU (jI (bX zS (hr.mono (by decide)) rfl zY Ap A3 (ax (cS hu (bI 2) (bI 5) (fun _ _=>rfl)) (ax (bI 6) (ax (bI 4) (ax (bI 1) aR))))) (jJ hu (bI 2) (bI 5)))))
 (aU (jI (bI 4) (jJ hu (bI 2) (bI 6)))))) fL))))))
 (aU (cL (cU (bI 2))))))
theorem zy:cV ["drawing","behind","row","passing","follower"] ["drawing"] (aC (top 7)):=sG
theorem Ky {f:Addr} {fd:bc} (F:o3 K "next_of" "next_of" (top 7) f fd) (pL:mg "zip" = none):dI P w K mg base gX 1 f fd ["drawing"] (dN K pC) :=
 sQ F zy K4 fun _ _ _ _ _ _ hr=>have nd:=zy.nd; have hu:=hr.units; (aH (jO (i:=1) nd rfl r8)
 (aH (eO bN rfl (fJ (bI 0)) (j8 (i:=2) nd rfl) (aU (eO bN rfl (DN rfl pL (bI 2) (cg kb (jc (bI 2) (jz aS) kX) (jc (bI 2) kX (jz aS)))) (j9 rfl (dv (j8 (i:=3) nd rfl) (dv (j8 (i:=4) nd rfl) iY)) (dB (dB i4))) (aU (jI (jc (bI 4) kX (jz aS)) (jJ hu (bI 1) (jc (bI 3) kX (jz aS))))))))
 (aU (cL (cU (bI 1))))))
theorem uW:cV ["drawing","behind","coming","spot"] ["drawing"] (aC (top 9)):=sG
theorem Er {f:Addr} {fd:bc} (F:o3 K "coming_of" "coming_of" (top 9) f fd) {w6:Addr} {CO:bc} (JU:dI P w K mg base gX 1 w6 CO ["drawing"] (dN K pC)) (J4:mg "next_of" = some (.ref w6)) (Kj:aB K (.ref w6)=true) (KW:Binds K CO ["drawing"] []):dI P w K mg base gX 2 f fd ["drawing"] (dN K me) :=
 sQ F uW EY fun _ _ _ _ _ _ hr=>have nd:=uW.nd; have hu:=hr.units; (aH (jO (i:=1) nd rfl (bX JU (hr.mono (by decide)) rfl J4 Kj KW (ax (bI 0) aR)))
 (aH (jO (i:=2) nd rfl r8)
 (aH (eO bN rfl (zN (bI 1)) (j8 (i:=3) nd rfl) (aU (jI (bI 3) (jJ hu (bI 2) (cS hu (bI 1) (bI 3) (fun _ _=>rfl))))))
 (aU (cL (cU (bI 2)))))))
theorem qS:cV ["rows","passings","row"] ["rows"] (aC (top 4)):=sG
theorem AD {f:Addr} {fd:bc} (F:o3 K "passings_of" "passings_of" (top 4) f fd):dI P w K mg base gX 1 f fd ["rows"] (dN K j3) :=
 sQ F qS A9 fun _ _ _ _ _ _ hr=>have nd:=qS.nd; (aH (jO (i:=1) nd rfl (mh aR))
 (aH (eO bN rfl (fJ (bI 0)) (j8 (i:=2) nd rfl) (aU (j7 (ka cx PySem.F.slot_list_extend PySem.F.type_list_extend gZ J1 (bI 1) (ax (bI 2) aR)))))
 (aU (cL (cU (bI 1))))))
theorem FJ:cV ["drawing"] ["drawing"] (aC (top 5)):=sG
theorem HA {f:Addr} {fd:bc} (F:o3 K "names_of" "names_of" (top 5) f fd) (jf:mg "sorted" = none) {ot:Addr} {tw:bc} (zQ:dI P w K mg base gX 1 ot tw ["rows"] (dN K j3)) (zW:mg "passings_of" = some (.ref ot)) (Am:aB K (.ref ot)=true) (A1:Binds K tw ["rows"] []):dI P w K mg base gX 2 f fd ["drawing"] (dN K nQ) :=
 sQ F FJ IA fun _ _ _ _ _ _ hr=>have hu:=hr.units; (aU (cL (cU (fE (EE rfl hu) rfl jf CW (ax (iy ["passing"] (sc:=aC (top 5)) (XN:=["drawing"]) (fJ (bX zQ (hr.mono (by decide)) rfl zW Am A1 (ax (bI 0) aR))) (fun _ _ _ _=>(j8 (i:=0) (show (["passing"]:List Str).Nodup by decide +kernel) rfl)) (fun _ _ _ _=>(.some (fm (kA hu) (cS hu (bI 0) aS (fun _ _=>rfl)) aS (fV _)))) (fun _ _ _ _=>(cS hu (bI 0) aS (fun _ _=>rfl)))) aR)))))
theorem uS:cV ["drawing","order","bow","coming","places","name","three"] ["drawing"] (aC (top 16)):=sG
theorem Ek {f:Addr} {fd:bc} (F:o3 K "places_at" "places_at" (top 16) f fd) {ua:Addr} {AW:bc} (DV:dI P w K mg base gX 4 ua AW ["drawing"] (dN K gH)) (D5:mg "bows" = some (.ref ua)) (Ec:aB K (.ref ua)=true) (EN:Binds K AW ["drawing"] []) {mW:Addr} {rP:bc} (wJ:dI P w K mg base gX 3 mW rP ["drawing"] (dN K eQ)) (wM:mg "bow_at" = some (.ref mW)) (wR:aB K (.ref mW)=true) (xg:Binds K rP ["drawing"] []) {rL:Addr} {xU:bc} (DU:dI P w K mg base gX 2 rL xU ["drawing"] (dN K me)) (D4:mg "coming_of" = some (.ref rL)) (Eb:aB K (.ref rL)=true) (EM:Binds K xU ["drawing"] []) {tY:Addr} {AO:bc} (Gi:dI P w K mg base gX 2 tY AO ["drawing"] (dN K nQ)) (Gy:mg "names_of" = some (.ref tY)) (GX:aB K (.ref tY)=true) (Ii:Binds K AO ["drawing"] []):dI P w K mg base gX 5 f fd ["drawing"] (dN K gu) :=
 sQ F uS ET fun _ _ _ _ _ _ hr=>have nd:=uS.nd; have hu:=hr.units; (aH (jO (i:=1) nd rfl (bX DV (hr.mono (by decide)) rfl D5 Ec EN (ax (bI 0) aR)))
 (aH (jO (i:=2) nd rfl (bX wJ (hr.mono (by decide)) rfl wM wR xg (ax (bI 0) aR)))
 (aH (jO (i:=3) nd rfl (bX DU (hr.mono (by decide)) rfl D4 Eb EM (ax (bI 0) aR)))
 (aH (jO (i:=4) nd rfl (mh aR))
 (aH (eO bN rfl (fJ (bX Gi (hr.mono (by decide)) rfl Gy GX Ii (ax (bI 0) aR))) (j8 (i:=5) nd rfl) (aH (jO (i:=6) nd rfl (iL (ax (cS hu (bI 2) (iL (ax (bI 5) (ax aS aR))) (fun _ _=>rfl)) (ax (cS hu (bI 2) (cS hu (bI 3) (iL (ax (bI 5) (ax aS aR))) (fun _ _=>rfl)) (fun _ _=>rfl)) (ax (cS hu (bI 2) (iL (ax (bI 5) (ax aS aR))) (fun _ _=>rfl)) aR)))))
 (aU (j7 (ka cx ia h8 gZ mL (bI 4) (ax (iL (ax (ka cx fH gB gZ (mC hu) (bI 1) (ax (cS hu (bI 6) aS (fun _ _=>rfl)) aR)) (ax (ka cx fH gB gZ (mC hu) (bI 1) (ax (cS hu (bI 6) aS (fun _ _=>rfl)) aR)) (ax (ka cx fH gB gZ (mC hu) (bI 1) (ax (cS hu (bI 6) aS (fun _ _=>rfl)) aR)) aR)))) aR))))))
 (aU (cL (cU (bI 4)))))))))
theorem qT:cV ["three","count","p","factors"] ["three","count","p"] (aC (top 18)):=sG
theorem AE {f:Addr} {fd:bc} (F:o3 K "equation_of" "equation_of" (top 18) f fd) (cK:mg "range" = none):dI P w K mg base gX 1 f fd ["three","count","p"] (dN K j4) :=
 sQ F qT Ba fun _ _ _ _ _ _ hr=>have nd:=qT.nd; have hu:=hr.units; (aH (kW ["place"] (sc:=aC (top 18)) (XN:=["three","count","p","factors"]) (i:=3) nd rfl rfl (fP rfl cK (bI 1)) (fun _ _ _ _=>(j8 (i:=0) (show (["place"]:List Str).Nodup by decide +kernel) rfl)) (fun _ _ _ _=>.none) (fun _ _ _ _=>aS))
 (aH (jI (cg kb (cS hu (bI 3) (cS hu (bI 0) aS (fun _ _=>rfl)) (fun _ _=>rfl)) aS) (jJ hu (bI 3) (cS hu (bI 0) aS (fun _ _=>rfl))))
 (aH (jI (cg jd (cS hu (bI 3) (cS hu (bI 0) aS (fun _ _=>rfl)) (fun _ _=>rfl)) aS) (jJ hu (bI 3) (cS hu (bI 0) aS (fun _ _=>rfl))))
 (aH (jI (cg jd (cS hu (bI 3) (cS hu (bI 0) aS (fun _ _=>rfl)) (fun _ _=>rfl)) aS) (jJ hu (bI 3) (cS hu (bI 0) aS (fun _ _=>rfl))))
 (aU (cL (cU (iy ["factor","p"] (sc:=aC (top 18)) (XN:=["three","count","p","factors"]) (fJ (bI 3)) (fun _ _ _ _=>(j8 (i:=0) (show (["factor","p"]:List Str).Nodup by decide +kernel) rfl)) (fun _ _ _ _=>.none) (fun _ _ _ _=>(cg fS (bI 0) (bI 1)))))))))))
theorem nX:cV ["by_place","free","count","p","numbers","place","equation"] ["by_place","free","count","p"] (aC (top 24)):=sG
theorem vN {f:Addr} {fd:bc} (F:o3 K "colouring_from" "colouring_from" (top 24) f fd) (cK:mg "range" = none):dI P w K mg base gX 1 f fd ["by_place","free","count","p"] (dN K iK) :=
 sQ F nX v8 fun _ _ _ _ _ _ hr=>have nd:=nX.nd; have hu:=hr.units; (aH (kW ["place"] (sc:=aC (top 24)) (XN:=["by_place","free","count","p","numbers","place","equation"]) (i:=4) nd rfl rfl (fP rfl cK (bI 2)) (fun _ _ _ _=>(j8 (i:=0) (show (["place"]:List Str).Nodup by decide +kernel) rfl)) (fun _ _ _ _=>.none) (fun _ _ _ _=>aS))
 (aH (jI aS (jJ hu (bI 4) (bI 1)))
 (aH (eO bN rfl (Nm (bI 0)) (j9 rfl (dv (j8 (i:=5) nd rfl) (dv (j8 (i:=6) nd rfl) iY)) (dB (dB i4))) (aU (jI (cg fS (zO uJ (cS hu (bI 6) (bI 1) (fun _ _=>rfl))) (bI 3)) (jJ hu (bI 4) (bI 5)))))
 (aU (cL (cU (bI 4)))))))
theorem FO:cV ["drawing","p","count","by_place"] ["drawing","p"] (aC (top 23)):=sG
theorem Rg {f:Addr} {fd:bc} (F:o3 K "basis" "basis" (top 23) f fd) (e8:mg "len" = none) (cK:mg "range" = none) {mV:Addr} {rO:bc} (yh:dI P w K mg base gX 1 mV rO ["p"] (dN K gb)) (yi:mg "refuse_other" = some (.ref mV)) (yj:aB K (.ref mV)=true) (yq:Binds K rO ["p"] []) {ua:Addr} {AW:bc} (DV:dI P w K mg base gX 4 ua AW ["drawing"] (dN K gH)) (D5:mg "bows" = some (.ref ua)) (Ec:aB K (.ref ua)=true) (EN:Binds K AW ["drawing"] []) {AG:Addr} {HS:bc} (Nu:dI P w K mg base gX 2 AG HS ["equations","p"] (dN K rW)) (Ny:mg "solved" = some (.ref AG)) (NJ:aB K (.ref AG)=true) (Oi:Binds K HS ["equations","p"] []) {rH:Addr} {xR:bc} (DR:dI P w K mg base gX 5 rH xR ["drawing"] (dN K gu)) (D0:mg "places_at" = some (.ref rH)) (D8:aB K (.ref rH)=true) (EJ:Binds K xR ["drawing"] []) {ou:Addr} {tx:bc} (zR:dI P w K mg base gX 1 ou tx ["three","count","p"] (dN K j4)) (zX:mg "equation_of" = some (.ref ou)) (An:aB K (.ref ou)=true) (A2:Binds K tx ["three","count","p"] []) {kG:Addr} {oW:bc} (vp:dI P w K mg base gX 1 kG oW ["by_place","free","count","p"] (dN K iK)) (vq:mg "colouring_from" = some (.ref kG)) (vE:aB K (.ref kG)=true) (vY:Binds K oW ["by_place","free","count","p"] []):dI P w K mg base gX 6 f fd ["drawing","p"] (dN K oG) :=
 sQ F FO RV fun _ _ _ _ _ _ hr=>have nd:=FO.nd; have hu:=hr.units; (aH (j7 (bX yh (hr.mono (by decide)) rfl yi yj yq (ax (bI 1) aR)))
 (aH (jO (i:=2) nd rfl (fE gx rfl e8 kI (ax (bX DV (hr.mono (by decide)) rfl D5 Ec EN (ax (bI 0) aR)) aR)))
 (aH (jO (i:=3) nd rfl (bX Nu (hr.mono (by decide)) rfl Ny NJ Oi (ax (cU (iy ["three","count","p"] (sc:=aC (top 23)) (XN:=["drawing","p","count","by_place"]) (fJ (bX DR (hr.mono (by decide)) rfl D0 D8 EJ (ax (bI 0) aR))) (fun _ _ _ _=>(j8 (i:=0) (show (["three","count","p"]:List Str).Nodup by decide +kernel) rfl)) (fun _ _ _ _=>.none) (fun _ _ _ _=>(bX zR (hr.mono (by decide)) rfl zX An A2 (ax (bI 0) (ax (bI 1) (ax (bI 2) aR))))))) (ax (cU (bI 1)) aR))))
 (aU (cL (cU (iy ["free","by_place","count","p"] (sc:=aC (top 23)) (XN:=["drawing","p","count","by_place"]) (fP rfl cK (bI 2)) (fun _ _ _ _=>(j8 (i:=0) (show (["free","by_place","count","p"]:List Str).Nodup by decide +kernel) rfl)) (fun _ _ _ _=>(.some (fm (JS hu) (bI 0) (bI 1) (by with_unfolding_all rfl)))) (fun _ _ _ _=>(bX vp (hr.mono (by decide)) rfl vq vE vY (ax (bI 1) (ax (bI 0) (ax (bI 2) (ax (bI 3) aR)))))))))))))
theorem xq:cV ["p","count","product","step"] ["p","count"] (aC (top 17)):=sG
theorem Hz {f:Addr} {fd:bc} (F:o3 K "power_of" "power_of" (top 17) f fd) (cK:mg "range" = none):dI P w K mg base gX 1 f fd ["p","count"] (dN K kU) :=
 sQ F xq xX fun _ _ _ _ _ _ hr=>have nd:=xq.nd; (aH (jO (i:=2) nd rfl aS)
 (aH (eO bN rfl (fP rfl cK (bI 1)) (j8 (i:=3) nd rfl) (aU (jO (i:=2) nd rfl (cg je (bI 2) (bI 0)))))
 (aU (cL (cU (bI 2))))))
theorem sH:cV ["drawing","p"] ["drawing","p"] (aC (top 25)):=sG
theorem sR {f:Addr} {fd:bc} (F:o3 K "count_colourings" "count_colourings" (top 25) f fd) (e8:mg "len" = none) {tX:Addr} {AN:bc} (Gh:dI P w K mg base gX 1 tX AN ["p","count"] (dN K kU)) (Gx:mg "power_of" = some (.ref tX)) (GW:aB K (.ref tX)=true) (Ih:Binds K AN ["p","count"] []) {pY:Addr} {vT:bc} (zT:dI P w K mg base gX 6 pY vT ["drawing","p"] (dN K oG)) (zZ:mg "basis" = some (.ref pY)) (Aq:aB K (.ref pY)=true) (A4:Binds K vT ["drawing","p"] []):dI P w K mg base gX 7 f fd ["drawing","p"] (dN K gT) :=
 sQ F sH sU fun _ _ _ _ _ _ hr=>(aU (cL (cU (bX Gh (hr.mono (by decide)) rfl Gx GW Ih (ax (bI 1) (ax (fE gx rfl e8 kI (ax (bX zT (hr.mono (by decide)) rfl zZ Aq A4 (ax (bI 0) (ax (bI 1) aR))) aR)) aR))))))
theorem FL:cV ["_law_row","_law_step","_law_at","_law_p"] ["_law_row","_law_step","_law_at","_law_p"] (aC (top 37)):=sG
theorem HE {f:Addr} {fd:bc} (F:o3 K "_law_less" "_law_less" (top 37) f fd) (pL:mg "zip" = none):dI P w K mg base gX 1 f fd ["_law_row","_law_step","_law_at","_law_p"] (dN K nU) :=
 sQ F FL IE fun _ _ _ _ _ _ hr=>have hu:=hr.units; (aU (cL (cU (iy ["_law_number","_law_one","_law_step","_law_at","_law_row","_law_p"] (sc:=aC (top 37)) (XN:=["_law_row","_law_step","_law_at","_law_p"]) (DN rfl pL (bI 0) (bI 1)) (fun _ _ _ _=>(j9 rfl (dv (j8 (i:=0) (show (["_law_number","_law_one","_law_step","_law_at","_law_row","_law_p"]:List Str).Nodup by decide +kernel) rfl) (dv (j8 (i:=1) (show (["_law_number","_law_one","_law_step","_law_at","_law_row","_law_p"]:List Str).Nodup by decide +kernel) rfl) iY)) (dB (dB i4)))) (fun _ _ _ _=>.none) (fun _ _ _ _=>(cg fS (cg jd (cg je (bI 0) (cS hu (bI 2) (bI 3) (fun _ _=>rfl))) (cg je (bI 1) (cS hu (bI 4) (bI 3) (fun _ _=>rfl)))) (bI 5)))))))
theorem xr:cV ["_law_rules","_law_wide","_law_p","_law_left","_law_over","_law_comes","_law_leaves","_law_row","_law_rank_here","_law_at","_law_step","_law_rest"] ["_law_rules","_law_wide","_law_p"] (aC (top 38)):=sG
theorem HB {f:Addr} {fd:bc} (F:o3 K "_law_rank" "_law_rank" (top 38) f fd) (rh:mg "int" = none) (cK:mg "range" = none) {t7:Addr} {AS:bc} (Gn:dI P w K mg base gX 1 t7 AS ["_law_row","_law_step","_law_at","_law_p"] (dN K nU)) (GC:mg "_law_less" = some (.ref t7)) (G5:aB K (.ref t7)=true) (Im:Binds K AS ["_law_row","_law_step","_law_at","_law_p"] []):dI P w K mg base gX 2 f fd ["_law_rules","_law_wide","_law_p"] (dN K nR) :=
 sQ F xr IB fun _ _ _ _ _ _ hr=>have nd:=xr.nd; have hu:=hr.units; (aH (jO (i:=3) nd rfl (mh aR))
 (aH (eO bN rfl (fJ (bI 0)) (j9 rfl (dv (j8 (i:=4) nd rfl) (dv (j8 (i:=5) nd rfl) (dv (j8 (i:=6) nd rfl) iY))) (dB (dB (dB i4)))) (aH (kW ["_law_k","_law_over","_law_comes","_law_leaves"] (sc:=aC (top 38)) (XN:=["_law_rules","_law_wide","_law_p","_law_left","_law_over","_law_comes","_law_leaves","_law_row","_law_rank_here","_law_at","_law_step","_law_rest"]) (i:=7) nd rfl rfl (fP rfl cK (bI 1)) (fun _ _ _ _=>(j8 (i:=0) (show (["_law_k","_law_over","_law_comes","_law_leaves"]:List Str).Nodup by decide +kernel) rfl)) (fun _ _ _ _=>.none) (fun _ _ _ _=>(cg jd (cg jd (cg je aS (mK xf rfl rh EH (ax (yG (kA hu) (bI 0) (bI 1) (fV _)) aR))) (mK xf rfl rh EH (ax (yG (kA hu) (bI 0) (bI 2) (fV _)) aR))) (mK xf rfl rh EH (ax (yG (kA hu) (bI 0) (bI 3) (fV _)) aR)))))
 (aU (j7 (ka cx ia h8 gZ mL (bI 3) (ax (cU (bI 7)) aR))))))
 (aH (jO (i:=8) nd rfl aS)
 (aH (eO bN rfl (fP rfl cK (bI 1)) (j8 (i:=9) nd rfl) (aH (jO (i:=10) nd rfl yE)
 (aH (jO (i:=11) nd rfl (mh aR))
 (aH (eO bN rfl (fJ (bI 3)) (j8 (i:=7) nd rfl) (aU (ic (Oq.pt (Ta (Tb (bI 10)) (P7 (fm (pH hu) (cg fS (cS hu (bI 7) (bI 9) (fun _ _=>rfl)) (bI 2)) aS (fV _))))) (aU (jO (i:=10) nd rfl (bI 7))) (aU (j7 (ka cx ia h8 gZ mL (bI 11) (ax (cU (bI 7)) aR)))))))
 (aH (ic (Cm (bI 10)) (aH (jO (i:=8) nd rfl (cg kb (bI 8) aS))
 (aU (kW ["_law_row","_law_step","_law_at","_law_p"] (sc:=aC (top 38)) (XN:=["_law_rules","_law_wide","_law_p","_law_left","_law_over","_law_comes","_law_leaves","_law_row","_law_rank_here","_law_at","_law_step","_law_rest"]) (i:=11) nd rfl rfl (fJ (bI 11)) (fun _ _ _ _=>(j8 (i:=0) (show (["_law_row","_law_step","_law_at","_law_p"]:List Str).Nodup by decide +kernel) rfl)) (fun _ _ _ _=>.none) (fun _ _ _ _=>(bX Gn (hr.mono (by decide)) rfl GC G5 Im (ax (bI 0) (ax (bI 1) (ax (bI 2) (ax (bI 3) aR))))))))) fL)
 (aU (jO (i:=3) nd rfl (bI 11))))))))
 (aU (cL (cU (bI 8))))))))
theorem DA:cV ["_law_found"] ["_law_found"] (aC (top 28)):=sG
theorem El {f:Addr} {fd:bc} (F:o3 K "_law_whole" "_law_whole" (top 28) f fd) (DX:mg "bool" = none) (rh:mg "int" = none) (fv:mg "isinstance" = none):dI P w K mg base gX 1 f fd ["_law_found"] (dN K fR) :=
 sQ F DA EU fun _ _ _ _ _ _ hr=>(aU (cL (cU (DP (yF "int" (by decide) rfl fv rfl rh EH (bI 0)) (DO (Th (yF "bool" (by decide) rfl fv rfl DX Uc (bI 0))))))))
theorem FK:cV ["_law_found","_law_wide","_law_p"] ["_law_found","_law_wide","_law_p"] (aC (top 35)):=sG
theorem HD {f:Addr} {fd:bc} (F:o3 K "_law_list" "_law_list" (top 35) f fd) (JY:mg "all" = none) (fv:mg "isinstance" = none) (e8:mg "len" = none) (jg:mg "list" = none) {i5:Addr} {lj:bc} (pI:dI P w K mg base gX 1 i5 lj ["_law_found"] (dN K fR)) (pM:mg "_law_whole" = some (.ref i5)) (pS:aB K (.ref i5)=true) (p7:Binds K lj ["_law_found"] []):dI P w K mg base gX 2 f fd ["_law_found","_law_wide","_law_p"] (dN K nT) :=
 sQ F FK ID fun _ _ _ _ _ _ hr=>have hu:=hr.units; have hu0:=hr.Py; (aH (ic (Oq.pt (zM (vn (ky (yF "list" (by decide) rfl fv rfl jg yU (bI 0)))) (yD (fm (pH hu) (fE gx rfl e8 kI (ax (bI 0) aR)) (bI 1) (fV _))))) (aU (cL (cU tN))) fL)
 (aU (cL (cU (fE (Og rfl) rfl JY WE (ax (iy ["_law_one","_law_p"] (sc:=aC (top 35)) (XN:=["_law_found","_law_wide","_law_p"]) (fJ (bI 0)) (fun _ _ _ _=>(j8 (i:=0) (show (["_law_one","_law_p"]:List Str).Nodup by decide +kernel) rfl)) (fun _ _ _ _=>.none) (fun _ _ _ _=>(DP (bX pI (hr.mono (by decide)) rfl pM pS p7 (ax (bI 0) aR)) (DO (Nr Qm (Ql hu0) aS (bI 0) (bI 1)))))) aR))))))
theorem uU:cV ["_law_rules","_law_p","_law_numbers","_law_over","_law_comes","_law_leaves"] ["_law_rules","_law_p","_law_numbers"] (aC (top 34)):=sG
theorem Eo {f:Addr} {fd:bc} (F:o3 K "_law_keeps" "_law_keeps" (top 34) f fd):dI P w K mg base gX 1 f fd ["_law_rules","_law_p","_law_numbers"] (dN K ja) :=
 sQ F uU EW fun _ _ _ _ _ _ hr=>have nd:=uU.nd; have hu:=hr.units; (aH (eO bN rfl (fJ (bI 0)) (j9 rfl (dv (j8 (i:=3) nd rfl) (dv (j8 (i:=4) nd rfl) (dv (j8 (i:=5) nd rfl) iY))) (dB (dB (dB i4)))) (aU (ic (fm (pH hu) (cg fS (cg jd (cg jd (cg je aS (cS hu (bI 2) (bI 3) (fun _ _=>rfl))) (cS hu (bI 2) (bI 4) (fun _ _=>rfl))) (cS hu (bI 2) (bI 5) (fun _ _=>rfl))) (bI 1)) aS (fV _)) (aU (cL (cU tN))) fL)))
 (aU (cL (cU tN))))
theorem xu:cV ["_law_numbers","_law_at","_law_number"] ["_law_numbers"] (aC (top 39)):=sG
theorem HF {f:Addr} {fd:bc} (F:o3 K "_law_lead" "_law_lead" (top 39) f fd) (dS:mg "enumerate" = none):dI P w K mg base gX 1 f fd ["_law_numbers"] (dN K nV) :=
 sQ F xu IF fun _ _ _ _ _ _ hr=>have nd:=xu.nd; have hu:=hr.units; (aH (eO bN rfl (qX rfl dS (bI 0)) (j9 rfl (dv (j8 (i:=1) nd rfl) (dv (j8 (i:=2) nd rfl) iY)) (dB (dB i4))) (aU (ic (fm (pH hu) (bI 2) aS (fV _)) (aU (cL (cU (bI 1)))) fL)))
 (aU (cL (cU (zO uJ aS)))))
theorem uT:cV ["_law_p","_law_count","_law_found","_law_k"] ["_law_p","_law_count"] (aC (top 36)):=sG
theorem Em {f:Addr} {fd:bc} (F:o3 K "_law_times" "_law_times" (top 36) f fd) (cK:mg "range" = none):dI P w K mg base gX 1 f fd ["_law_p","_law_count"] (dN K md) :=
 sQ F uT EV fun _ _ _ _ _ _ hr=>have nd:=uT.nd; (aH (jO (i:=2) nd rfl aS)
 (aH (eO bN rfl (fP rfl cK (bI 1)) (j8 (i:=3) nd rfl) (aU (jO (i:=2) nd rfl (cg je (bI 2) (bI 0)))))
 (aU (cL (cU (bI 2))))))
theorem PU:cV ["_law_script","_law_first","_law_many","_law_rows","_law_p","_law_handed","_law_rules","_law_wide","_law_found","_law_told","_law_numbers","_law_last","_law_lead_here"] ["_law_script"] (aC (top 40)):=sG
theorem Wj {f:Addr} {fd:bc} (F:o3 K "law" "law" (top 40) f fd) (fv:mg "isinstance" = none) (e8:mg "len" = none) (jg:mg "list" = none) (JX:mg "sum" = none) {t9:Addr} {AV:bc} (Gr:dI P w K mg base gX 1 t9 AV ["_law_script","_law_k"] (dN K hU)) (GF:mg "_law_cell" = some (.ref t9)) (Hb:aB K (.ref t9)=true) (Ip:Binds K AV ["_law_script","_law_k"] []) {t4:Addr} {AQ:bc} (Gk:dI P w K mg base gX 1 t4 AQ ["_law_cells","_law_strings"] (dN K nS)) (GA:mg "_law_made" = some (.ref t4)) (GZ:aB K (.ref t4)=true) (Ik:Binds K AQ ["_law_cells","_law_strings"] []) {pW:Addr} {vR:bc} (By:dI P w K mg base gX 4 pW vR ["_law_rows"] (dN K iE)) (BB:mg "_law_threes" = some (.ref pW)) (BH:aB K (.ref pW)=true) (BP:Binds K vR ["_law_rows"] []) {jP:Addr} {mX:bc} (rg:dI P w K mg base gX 3 jP mX ["_law_rows"] (dN K dM)) (rj:mg "_law_bows" = some (.ref jP)) (rq:aB K (.ref jP)=true) (rR:Binds K mX ["_law_rows"] []) {pY:Addr} {vT:bc} (zT:dI P w K mg base gX 6 pY vT ["drawing","p"] (dN K oG)) (zZ:mg "basis" = some (.ref pY)) (Aq:aB K (.ref pY)=true) (A4:Binds K vT ["drawing","p"] []) {jQ:Addr} {mY:bc} (sJ:dI P w K mg base gX 7 jQ mY ["drawing","p"] (dN K gT)) (sM:mg "count_colourings" = some (.ref jQ)) (sO:aB K (.ref jQ)=true) (sT:Binds K mY ["drawing","p"] []) {tZ:Addr} {AP:bc} (Gj:dI P w K mg base gX 2 tZ AP ["_law_rules","_law_wide","_law_p"] (dN K nR)) (Gz:mg "_law_rank" = some (.ref tZ)) (GY:aB K (.ref tZ)=true) (Ij:Binds K AP ["_law_rules","_law_wide","_law_p"] []) {t6:Addr} {AR:bc} (Gm:dI P w K mg base gX 2 t6 AR ["_law_found","_law_wide","_law_p"] (dN K nT)) (GB:mg "_law_list" = some (.ref t6)) (G0:aB K (.ref t6)=true) (Il:Binds K AR ["_law_found","_law_wide","_law_p"] []) {rK:Addr} {xT:bc} (DT:dI P w K mg base gX 1 rK xT ["_law_rules","_law_p","_law_numbers"] (dN K ja)) (D3:mg "_law_keeps" = some (.ref rK)) (Ea:aB K (.ref rK)=true) (EL:Binds K xT ["_law_rules","_law_p","_law_numbers"] []) {t8:Addr} {AU:bc} (Gq:dI P w K mg base gX 1 t8 AU ["_law_numbers"] (dN K nV)) (GD:mg "_law_lead" = some (.ref t8)) (Ha:aB K (.ref t8)=true) (Io:Binds K AU ["_law_numbers"] []) {i5:Addr} {lj:bc} (pI:dI P w K mg base gX 1 i5 lj ["_law_found"] (dN K fR)) (pM:mg "_law_whole" = some (.ref i5)) (pS:aB K (.ref i5)=true) (p7:Binds K lj ["_law_found"] []) {rJ:Addr} {xS:bc} (DS:dI P w K mg base gX 1 rJ xS ["_law_p","_law_count"] (dN K md)) (D1:mg "_law_times" = some (.ref rJ)) (D9:aB K (.ref rJ)=true) (EK:Binds K xS ["_law_p","_law_count"] []):dI P w K mg base gX 8 f fd ["_law_script"] (dN K K2.B9) :=
 sQ F PU WK fun _ _ _ _ _ _ hr=>have nd:=PU.nd; have hu:=hr.units; (aH (jO (i:=1) nd rfl (bX Gr (hr.mono (by decide)) rfl GF Hb Ip (ax (bI 0) (ax aS aR))))
 (aH (jO (i:=2) nd rfl (cg fS (cg kY (bI 1) aS) aS))
 (aH (ic (fm (kA hu) (cg fS (cg kY (bI 1) aS) aS) aS (fV _)) (aU (jO (i:=2) nd rfl (cg kb aS (cg fS (cg kY (bI 1) aS) aS)))) fL)
 (aH (jO (i:=3) nd rfl (bX Gk (hr.mono (by decide)) rfl GA GZ Ik (ax (jc (bI 0) (jz aS) (jz (cg kb aS (bI 2)))) (ax (cg kb aS (cg fS (cg kY (bI 1) aS) aS)) aR))))
 (aH (jO (i:=4) nd rfl (cS hu (iL (ax aS (ax aS (ax aS aR)))) (cg fS (bI 1) aS) (fun _ _=>rfl)))
 (aH (Td (kW ["_law_row"] (sc:=aC (top 40)) (XN:=["_law_script","_law_first","_law_many","_law_rows","_law_p","_law_handed","_law_rules","_law_wide","_law_found","_law_told","_law_numbers","_law_last","_law_lead_here"]) (i:=5) nd rfl rfl (fJ (bI 3)) (fun _ _ _ _=>(j8 (i:=0) (show (["_law_row"]:List Str).Nodup by decide +kernel) rfl)) (fun _ _ _ _=>.none) (fun _ _ _ _=>(cU (mK KS rfl jg yU (ax (bI 0) aR))))))
 (aH (jO (i:=6) nd rfl (bX By (hr.mono (by decide)) rfl BB BH BP (ax (bI 3) aR)))
 (aH (jO (i:=7) nd rfl (fE gx rfl e8 kI (ax (bX rg (hr.mono (by decide)) rfl rj rq rR (ax (bI 3) aR)) aR)))
 (aH (jO (i:=8) nd rfl (bX zT (hr.mono (by decide)) rfl zZ Aq A4 (ax (bI 5) (ax (bI 4) aR))))
 (aH (jO (i:=9) nd rfl (bX sJ (hr.mono (by decide)) rfl sM sO sT (ax (bI 5) (ax (bI 4) aR))))
 (aH (ic (Oq.pt (zM (fm (pH hu) (bI 5) (bI 3) (fV _)) (yD (vn (ky (yF "list" (by decide) rfl fv rfl jg yU (bI 8))))))) (aU (cL (cU tN))) fL)
 (aH (ic (fm (pH hu) (fE gx rfl e8 kI (ax (bI 8) aR)) (cg jd (bI 7) (bX Gj (hr.mono (by decide)) rfl Gz GY Ij (ax (bI 6) (ax (bI 7) (ax (bI 4) aR))))) (fV _)) (aU (cL (cU tN))) fL)
 (aH (eO bN rfl (fJ (bI 8)) (j8 (i:=10) nd rfl) (aU (ic (Oq.pt (zM (vn (ky (bX Gm (hr.mono (by decide)) rfl GB G0 Il (ax (bI 10) (ax (bI 7) (ax (bI 4) aR)))))) (yD (vn (ky (bX DT (hr.mono (by decide)) rfl D3 Ea EL (ax (bI 6) (ax (bI 4) (ax (bI 10) aR))))))))) (aU (cL (cU tN))) fL)))
 (aH (jO (i:=11) nd rfl (zO uJ aS))
 (aH (eO bN rfl (fJ (bI 8)) (j8 (i:=10) nd rfl) (aH (jO (i:=12) nd rfl (bX Gq (hr.mono (by decide)) rfl GD Ha Io (ax (bI 10) aR)))
 (aH (ic (Oq.pt (zM (fm Qm (bI 12) (bI 11) (fV _)) (zM (fm (pH hu) (cS hu (bI 10) (bI 12) (fun _ _=>rfl)) aS (fV _)) (yD (fm (pH hu) (fE (Of rfl) rfl JX WD (ax (iy ["_law_other","_law_lead_here"] (sc:=aC (top 40)) (XN:=["_law_script","_law_first","_law_many","_law_rows","_law_p","_law_handed","_law_rules","_law_wide","_law_found","_law_told","_law_numbers","_law_last","_law_lead_here"]) (fJ (bI 8)) (fun _ _ _ _=>(j8 (i:=0) (show (["_law_other","_law_lead_here"]:List Str).Nodup by decide +kernel) rfl)) (fun _ _ _ _=>.none) (fun _ _ _ _=>(cU (cS hu (bI 0) (bI 1) (fun _ _=>rfl))))) aR)) aS (fV _)))))) (aU (cL (cU tN))) fL)
 (aU (jO (i:=11) nd rfl (bI 12))))))
 (aU (cL (cU (DP (bX pI (hr.mono (by decide)) rfl pM pS p7 (ax (bI 9) aR)) (DO (yG (kA hu) (bI 9) (bX DS (hr.mono (by decide)) rfl D1 D9 EK (ax (bI 4) (ax (fE gx rfl e8 kI (ax (bI 8) aR)) aR))) (fV _))))))))))))))))))))))
end
theorem all_mk {l:C7} {w:World} {K:aj} {h:Heap} {mg:Str->Option Value} {fa:Addr} (X:K.In h) (G:h.Ns aY mg) (hfa:mg "law" = some (.ref fa))
  {f0:Addr} {od0 an0:Option Addr} {sl0:Array (Option Value)} {oc0 kV0 dc0 pm0 cd0 ct0:Value} (a0:br K aY "_law_cell" = some (some (.ref f0))) (l0:K.lookup f0=some ⟨oc0,od0,.func (aL "_law_cell" "_law_cell" (bE (top 27)) (bD (top 27)) (aC (top 27)) .none kV0 dc0 pm0 an0 cd0 ct0),sl0⟩) (c0:bB K cd0 "_law_cell" = true) (k0:aB K (.ref f0)=true)
  {f1:Addr} {od1 an1:Option Addr} {sl1:Array (Option Value)} {oc1 kV1 dc1 pm1 cd1 ct1:Value} (a1:br K aY "_law_made" = some (some (.ref f1))) (l1:K.lookup f1=some ⟨oc1,od1,.func (aL "_law_made" "_law_made" (bE (top 29)) (bD (top 29)) (aC (top 29)) .none kV1 dc1 pm1 an1 cd1 ct1),sl1⟩) (c1:bB K cd1 "_law_made" = true) (k1:aB K (.ref f1)=true)
  {f2:Addr} {od2 an2:Option Addr} {IZ:Array (Option Value)} {oc2 kV2 dc2 pm2 cd2 ct2:Value} (a2:br K aY "_law_bow" = some (some (.ref f2))) (l2:K.lookup f2=some ⟨oc2,od2,.func (aL "_law_bow" "_law_bow" (bE (top 30)) (bD (top 30)) (aC (top 30)) .none kV2 dc2 pm2 an2 cd2 ct2),IZ⟩) (c2:bB K cd2 "_law_bow" = true) (k2:aB K (.ref f2)=true)
  {f3:Addr} {od3 an3:Option Addr} {sl3:Array (Option Value)} {oc3 kV3 dc3 pm3 cd3 ct3:Value} (a3:br K aY "_law_homes" = some (some (.ref f3))) (l3:K.lookup f3=some ⟨oc3,od3,.func (aL "_law_homes" "_law_homes" (bE (top 31)) (bD (top 31)) (aC (top 31)) .none kV3 dc3 pm3 an3 cd3 ct3),sl3⟩) (c3:bB K cd3 "_law_homes" = true) (k3:aB K (.ref f3)=true)
  {f4:Addr} {od4 an4:Option Addr} {sl4:Array (Option Value)} {oc4 kV4 dc4 pm4 cd4 ct4:Value} (a4:br K aY "_law_bows" = some (some (.ref f4))) (l4:K.lookup f4=some ⟨oc4,od4,.func (aL "_law_bows" "_law_bows" (bE (top 32)) (bD (top 32)) (aC (top 32)) .none kV4 dc4 pm4 an4 cd4 ct4),sl4⟩) (c4:bB K cd4 "_law_bows" = true) (k4:aB K (.ref f4)=true)
  {f5:Addr} {od5 an5:Option Addr} {sl5:Array (Option Value)} {oc5 kV5 dc5 pm5 cd5 ct5:Value} (a5:br K aY "_law_threes" = some (some (.ref f5))) (l5:K.lookup f5=some ⟨oc5,od5,.func (aL "_law_threes" "_law_threes" (bE (top 33)) (bD (top 33)) (aC (top 33)) .none kV5 dc5 pm5 an5 cd5 ct5),sl5⟩) (c5:bB K cd5 "_law_threes" = true) (k5:aB K (.ref f5)=true)
  {f6:Addr} {od6 an6:Option Addr} {sl6:Array (Option Value)} {oc6 kV6 dc6 pm6 cd6 ct6:Value} (a6:br K aY "refuse_other" = some (some (.ref f6))) (l6:K.lookup f6=some ⟨oc6,od6,.func (aL "refuse_other" "refuse_other" (bE (top 15)) (bD (top 15)) (aC (top 15)) .none kV6 dc6 pm6 an6 cd6 ct6),sl6⟩) (c6:bB K cd6 "refuse_other" = true) (k6:aB K (.ref f6)=true)
  {f7:Addr} {od7 an7:Option Addr} {sl7:Array (Option Value)} {oc7 kV7 dc7 pm7 cd7 ct7:Value} (a7:br K aY "spots_on" = some (some (.ref f7))) (l7:K.lookup f7=some ⟨oc7,od7,.func (aL "spots_on" "spots_on" (bE (top 6)) (bD (top 6)) (aC (top 6)) .none kV7 dc7 pm7 an7 cd7 ct7),sl7⟩) (c7:bB K cd7 "spots_on" = true) (k7:aB K (.ref f7)=true)
  {f8:Addr} {od8 an8:Option Addr} {sl8:Array (Option Value)} {oc8 kV8 dc8 pm8 cd8 ct8:Value} (a8:br K aY "bows_on" = some (some (.ref f8))) (l8:K.lookup f8=some ⟨oc8,od8,.func (aL "bows_on" "bows_on" (bE (top 12)) (bD (top 12)) (aC (top 12)) .none kV8 dc8 pm8 an8 cd8 ct8),sl8⟩) (c8:bB K cd8 "bows_on" = true) (k8:aB K (.ref f8)=true)
  {f9:Addr} {od9 an9:Option Addr} {sl9:Array (Option Value)} {oc9 kV9 dc9 pm9 cd9 ct9:Value} (a9:br K aY "bow_at" = some (some (.ref f9))) (l9:K.lookup f9=some ⟨oc9,od9,.func (aL "bow_at" "bow_at" (bE (top 13)) (bD (top 13)) (aC (top 13)) .none kV9 dc9 pm9 an9 cd9 ct9),sl9⟩) (c9:bB K cd9 "bow_at" = true) (k9:aB K (.ref f9)=true)
  {f10:Addr} {acM ag4:Option Addr} {abf:Array (Option Value)} {ac9 aec afV abU Zq agi:Value} (a10:br K aY "bows" = some (some (.ref f10))) (l10:K.lookup f10=some ⟨ac9,acM,.func (aL "bows" "bows" (bE (top 14)) (bD (top 14)) (aC (top 14)) .none aec afV abU ag4 Zq agi),abf⟩) (c10:bB K Zq "bows" = true) (Yb:aB K (.ref f10)=true)
  {f11:Addr} {acL ag3:Option Addr} {abe:Array (Option Value)} {ac8 aeb afU abT Zp agh:Value} (a11:br K aY "cleared" = some (some (.ref f11))) (l11:K.lookup f11=some ⟨ac8,acL,.func (aL "cleared" "cleared" (bE (top 21)) (bD (top 21)) (aC (top 21)) .none aeb afU abT ag3 Zp agh),abe⟩) (c11:bB K Zp "cleared" = true) (k11:aB K (.ref f11)=true)
  {f12:Addr} {acK ag2:Option Addr} {abd:Array (Option Value)} {ac7 aea afT abS Zo agg:Value} (a12:br K aY "last_place" = some (some (.ref f12))) (l12:K.lookup f12=some ⟨ac7,acK,.func (aL "last_place" "last_place" (bE (top 19)) (bD (top 19)) (aC (top 19)) .none aea afT abS ag2 Zo agg),abd⟩) (c12:bB K Zo "last_place" = true) (k12:aB K (.ref f12)=true)
  {f13:Addr} {acJ ag1:Option Addr} {abc:Array (Option Value)} {ac6 ad9 afS abR Zn agf:Value} (a13:br K aY "scaled" = some (some (.ref f13))) (l13:K.lookup f13=some ⟨ac6,acJ,.func (aL "scaled" "scaled" (bE (top 20)) (bD (top 20)) (aC (top 20)) .none ad9 afS abR ag1 Zn agf),abc⟩) (c13:bB K Zn "scaled" = true) (k13:aB K (.ref f13)=true)
  {f14:Addr} {acI ag0:Option Addr} {abb:Array (Option Value)} {ac5 ad8 afR abQ Zm age:Value} (a14:br K aY "solved" = some (some (.ref f14))) (l14:K.lookup f14=some ⟨ac5,acI,.func (aL "solved" "solved" (bE (top 22)) (bD (top 22)) (aC (top 22)) .none ad8 afR abQ ag0 Zm age),abb⟩) (c14:bB K Zm "solved" = true) (k14:aB K (.ref f14)=true)
  {f15:Addr} {acH agZ:Option Addr} {aba:Array (Option Value)} {ac4 ad7 afQ abP Zl agd:Value} (a15:br K aY "next_of" = some (some (.ref f15))) (l15:K.lookup f15=some ⟨ac4,acH,.func (aL "next_of" "next_of" (bE (top 7)) (bD (top 7)) (aC (top 7)) .none ad7 afQ abP agZ Zl agd),aba⟩) (c15:bB K Zl "next_of" = true) (k15:aB K (.ref f15)=true)
  {f16:Addr} {acG agY:Option Addr} {aa9:Array (Option Value)} {ac3 ad6 afP abO Zk agc:Value} (a16:br K aY "coming_of" = some (some (.ref f16))) (l16:K.lookup f16=some ⟨ac3,acG,.func (aL "coming_of" "coming_of" (bE (top 9)) (bD (top 9)) (aC (top 9)) .none ad6 afP abO agY Zk agc),aa9⟩) (c16:bB K Zk "coming_of" = true) (k16:aB K (.ref f16)=true)
  {f17:Addr} {acF agX:Option Addr} {aa8:Array (Option Value)} {ac2 ad5 afO abN Zj agb:Value} (a17:br K aY "passings_of" = some (some (.ref f17))) (l17:K.lookup f17=some ⟨ac2,acF,.func (aL "passings_of" "passings_of" (bE (top 4)) (bD (top 4)) (aC (top 4)) .none ad5 afO abN agX Zj agb),aa8⟩) (c17:bB K Zj "passings_of" = true) (Z9:aB K (.ref f17)=true)
  {f18:Addr} {acE agW:Option Addr} {aa7:Array (Option Value)} {ac1 ad4 afN abM Zi aga:Value} (a18:br K aY "names_of" = some (some (.ref f18))) (l18:K.lookup f18=some ⟨ac1,acE,.func (aL "names_of" "names_of" (bE (top 5)) (bD (top 5)) (aC (top 5)) .none ad4 afN abM agW Zi aga),aa7⟩) (c18:bB K Zi "names_of" = true) (Z8:aB K (.ref f18)=true)
  {f19:Addr} {acD agV:Option Addr} {aa6:Array (Option Value)} {ac0 ad3 afM abL Zh af9:Value} (a19:br K aY "places_at" = some (some (.ref f19))) (l19:K.lookup f19=some ⟨ac0,acD,.func (aL "places_at" "places_at" (bE (top 16)) (bD (top 16)) (aC (top 16)) .none ad3 afM abL agV Zh af9),aa6⟩) (c19:bB K Zh "places_at" = true) (Z7:aB K (.ref f19)=true)
  {f20:Addr} {acC agU:Option Addr} {aa5:Array (Option Value)} {acZ ad2 afL abK Zg af8:Value} (a20:br K aY "equation_of" = some (some (.ref f20))) (l20:K.lookup f20=some ⟨acZ,acC,.func (aL "equation_of" "equation_of" (bE (top 18)) (bD (top 18)) (aC (top 18)) .none ad2 afL abK agU Zg af8),aa5⟩) (c20:bB K Zg "equation_of" = true) (Z6:aB K (.ref f20)=true)
  {f21:Addr} {acB agT:Option Addr} {aa4:Array (Option Value)} {acY ad1 afK abJ Zf af7:Value} (a21:br K aY "colouring_from" = some (some (.ref f21))) (l21:K.lookup f21=some ⟨acY,acB,.func (aL "colouring_from" "colouring_from" (bE (top 24)) (bD (top 24)) (aC (top 24)) .none ad1 afK abJ agT Zf af7),aa4⟩) (c21:bB K Zf "colouring_from" = true) (Z5:aB K (.ref f21)=true)
  {f22:Addr} {acA agS:Option Addr} {aa3:Array (Option Value)} {acX ad0 afJ abI Ze af6:Value} (a22:br K aY "basis" = some (some (.ref f22))) (l22:K.lookup f22=some ⟨acX,acA,.func (aL "basis" "basis" (bE (top 23)) (bD (top 23)) (aC (top 23)) .none ad0 afJ abI agS Ze af6),aa3⟩) (c22:bB K Ze "basis" = true) (X9:aB K (.ref f22)=true)
  {f23:Addr} {acz agR:Option Addr} {aa2:Array (Option Value)} {acW adZ afI abH Zd af5:Value} (a23:br K aY "power_of" = some (some (.ref f23))) (l23:K.lookup f23=some ⟨acW,acz,.func (aL "power_of" "power_of" (bE (top 17)) (bD (top 17)) (aC (top 17)) .none adZ afI abH agR Zd af5),aa2⟩) (c23:bB K Zd "power_of" = true) (Z4:aB K (.ref f23)=true)
  {f24:Addr} {acy agQ:Option Addr} {aa1:Array (Option Value)} {acV adY afH abG Zc af4:Value} (a24:br K aY "count_colourings" = some (some (.ref f24))) (l24:K.lookup f24=some ⟨acV,acy,.func (aL "count_colourings" "count_colourings" (bE (top 25)) (bD (top 25)) (aC (top 25)) .none adY afH abG agQ Zc af4),aa1⟩) (c24:bB K Zc "count_colourings" = true) (Z3:aB K (.ref f24)=true)
  {f25:Addr} {acx agP:Option Addr} {aa0:Array (Option Value)} {acU adX afG abF Zb af3:Value} (a25:br K aY "_law_less" = some (some (.ref f25))) (l25:K.lookup f25=some ⟨acU,acx,.func (aL "_law_less" "_law_less" (bE (top 37)) (bD (top 37)) (aC (top 37)) .none adX afG abF agP Zb af3),aa0⟩) (c25:bB K Zb "_law_less" = true) (Z2:aB K (.ref f25)=true)
  {f26:Addr} {acw agO:Option Addr} {aaZ:Array (Option Value)} {acT adW afF abE Za af2:Value} (a26:br K aY "_law_rank" = some (some (.ref f26))) (l26:K.lookup f26=some ⟨acT,acw,.func (aL "_law_rank" "_law_rank" (bE (top 38)) (bD (top 38)) (aC (top 38)) .none adW afF abE agO Za af2),aaZ⟩) (c26:bB K Za "_law_rank" = true) (Z1:aB K (.ref f26)=true)
  {f27:Addr} {acv agN:Option Addr} {aaY:Array (Option Value)} {acS adV afE abD Y9 af1:Value} (a27:br K aY "_law_whole" = some (some (.ref f27))) (l27:K.lookup f27=some ⟨acS,acv,.func (aL "_law_whole" "_law_whole" (bE (top 28)) (bD (top 28)) (aC (top 28)) .none adV afE abD agN Y9 af1),aaY⟩) (c27:bB K Y9 "_law_whole" = true) (X8:aB K (.ref f27)=true)
  {f28:Addr} {acu agM:Option Addr} {aaX:Array (Option Value)} {acR adU afD abC Y8 af0:Value} (a28:br K aY "_law_list" = some (some (.ref f28))) (l28:K.lookup f28=some ⟨acR,acu,.func (aL "_law_list" "_law_list" (bE (top 35)) (bD (top 35)) (aC (top 35)) .none adU afD abC agM Y8 af0),aaX⟩) (c28:bB K Y8 "_law_list" = true) (Z0:aB K (.ref f28)=true)
  {f29:Addr} {acs agL:Option Addr} {aaW:Array (Option Value)} {acQ adT afC abB Y7 afZ:Value} (a29:br K aY "_law_keeps" = some (some (.ref f29))) (l29:K.lookup f29=some ⟨acQ,acs,.func (aL "_law_keeps" "_law_keeps" (bE (top 34)) (bD (top 34)) (aC (top 34)) .none adT afC abB agL Y7 afZ),aaW⟩) (c29:bB K Y7 "_law_keeps" = true) (ZZ:aB K (.ref f29)=true)
  {f30:Addr} {acr agK:Option Addr} {aaV:Array (Option Value)} {acP adS afB abz Y6 afY:Value} (a30:br K aY "_law_lead" = some (some (.ref f30))) (l30:K.lookup f30=some ⟨acP,acr,.func (aL "_law_lead" "_law_lead" (bE (top 39)) (bD (top 39)) (aC (top 39)) .none adS afB abz agK Y6 afY),aaV⟩) (c30:bB K Y6 "_law_lead" = true) (ZY:aB K (.ref f30)=true)
  {f31:Addr} {acq agJ:Option Addr} {aaU:Array (Option Value)} {acO adR afA aby Y5 afX:Value} (a31:br K aY "_law_times" = some (some (.ref f31))) (l31:K.lookup f31=some ⟨acO,acq,.func (aL "_law_times" "_law_times" (bE (top 36)) (bD (top 36)) (aC (top 36)) .none adR afA aby agJ Y5 afX),aaU⟩) (c31:bB K Y5 "_law_times" = true) (ZX:aB K (.ref f31)=true)
  {f32:Addr} {acp Zx:Option Addr} {aaT:Array (Option Value)} {acN X7 Y0 XE Wy Y3:Value} (a32:br K aY "law" = some (some (.ref f32))) (l32:K.lookup f32=some ⟨acN,acp,.func (aL "law" "law" (bE (top 40)) (bD (top 40)) (aC (top 40)) .none X7 Y0 XE Zx Wy Y3),aaT⟩) (c32:bB K Wy "law" = true) (k32:aB K (.ref f32)=true)
  (Pq:br K aY "len" = some none) (Dg:br K aY "range" = some none) (qJ:br K aY "enumerate" = some none) (Pp:br K aY "set" = some none) (zg:br K aY "sorted" = some none) (Jq:br K aY "list" = some none) (Pn:br K aY "zip" = some none) (Pt:br K aY "int" = some none) (Jr:br K aY "bool" = some none) (pv:br K aY "isinstance" = some none) (Pu:br K aY "all" = some none) (Po:br K aY "sum" = some none) {rG:Addr} (wW:br K aY "PRIMES" = some (some (.ref rG))) (oR:B4 K rG [3,5,7]=true) :
  ∃ fd:bc,(∀ (s:aA) (v:Value),Ph s fd ⟨[v],[]⟩ [("_law_script",v)])/\∀ base:Heap,K.In base->base.Ns aY mg->dI l.prog w K mg base gX 8 fa fd ["_law_script"] (dN K K2.B9):=by
 have e:=hfa.symm.trans (bu X G a32)
 cases e
 have F0:=eM (st:=top 27) l0 c0 k0
 have b0:=F0.binds (ps:=["_law_script","_law_k"]) fun _ _ _ _ _ _ us hl=>by obtain⟨_,_,rfl⟩:=BF hl; rfl
 have F1:=eM (st:=top 29) l1 c1 k1
 have b1:=F1.binds (ps:=["_law_cells","_law_strings"]) fun _ _ _ _ _ _ us hl=>by obtain⟨_,_,rfl⟩:=BF hl; rfl
 have F2:=eM (st:=top 30) l2 c2 k2
 have b2:=F2.binds (ps:=["_law_row","_law_at","_law_k"]) fun _ _ _ _ _ _ us hl=>by obtain⟨_,_,_,rfl⟩:=Ki hl; rfl
 have F3:=eM (st:=top 31) l3 c3 k3
 have b3:=F3.binds (ps:=["_law_rows"]) fun _ _ _ _ _ _ us hl=>by obtain⟨_,rfl⟩:=tR hl; rfl
 have F4:=eM (st:=top 32) l4 c4 k4
 have b4:=F4.binds (ps:=["_law_rows"]) fun _ _ _ _ _ _ us hl=>by obtain⟨_,rfl⟩:=tR hl; rfl
 have F5:=eM (st:=top 33) l5 c5 k5
 have b5:=F5.binds (ps:=["_law_rows"]) fun _ _ _ _ _ _ us hl=>by obtain⟨_,rfl⟩:=tR hl; rfl
 have F6:=eM (st:=top 15) l6 c6 k6
 have b6:=F6.binds (ps:=["p"]) fun _ _ _ _ _ _ us hl=>by obtain⟨_,rfl⟩:=tR hl; rfl
 have F7:=eM (st:=top 6) l7 c7 k7
 have b7:=F7.binds (ps:=["row","string"]) fun _ _ _ _ _ _ us hl=>by obtain⟨_,_,rfl⟩:=BF hl; rfl
 have F8:=eM (st:=top 12) l8 c8 k8
 have b8:=F8.binds (ps:=["row","string"]) fun _ _ _ _ _ _ us hl=>by obtain⟨_,_,rfl⟩:=BF hl; rfl
 have F9:=eM (st:=top 13) l9 c9 k9
 have b9:=F9.binds (ps:=["drawing"]) fun _ _ _ _ _ _ us hl=>by obtain⟨_,rfl⟩:=tR hl; rfl
 have F10:=eM (st:=top 14) l10 c10 Yb
 have b10:=F10.binds (ps:=["drawing"]) fun _ _ _ _ _ _ us hl=>by obtain⟨_,rfl⟩:=tR hl; rfl
 have F11:=eM (st:=top 21) l11 c11 k11
 have b11:=F11.binds (ps:=["factors","place","other","p"]) fun _ _ _ _ _ _ us hl=>by obtain⟨_,_,_,_,rfl⟩:=VV hl; rfl
 have F12:=eM (st:=top 19) l12 c12 k12
 have b12:=F12.binds (ps:=["factors"]) fun _ _ _ _ _ _ us hl=>by obtain⟨_,rfl⟩:=tR hl; rfl
 have F13:=eM (st:=top 20) l13 c13 k13
 have b13:=F13.binds (ps:=["factors","place","p"]) fun _ _ _ _ _ _ us hl=>by obtain⟨_,_,_,rfl⟩:=Ki hl; rfl
 have F14:=eM (st:=top 22) l14 c14 k14
 have b14:=F14.binds (ps:=["equations","p"]) fun _ _ _ _ _ _ us hl=>by obtain⟨_,_,rfl⟩:=BF hl; rfl
 have F15:=eM (st:=top 7) l15 c15 k15
 have b15:=F15.binds (ps:=["drawing"]) fun _ _ _ _ _ _ us hl=>by obtain⟨_,rfl⟩:=tR hl; rfl
 have F16:=eM (st:=top 9) l16 c16 k16
 have b16:=F16.binds (ps:=["drawing"]) fun _ _ _ _ _ _ us hl=>by obtain⟨_,rfl⟩:=tR hl; rfl
 have F17:=eM (st:=top 4) l17 c17 Z9
 have b17:=F17.binds (ps:=["rows"]) fun _ _ _ _ _ _ us hl=>by obtain⟨_,rfl⟩:=tR hl; rfl
 have F18:=eM (st:=top 5) l18 c18 Z8
 have b18:=F18.binds (ps:=["drawing"]) fun _ _ _ _ _ _ us hl=>by obtain⟨_,rfl⟩:=tR hl; rfl
 have F19:=eM (st:=top 16) l19 c19 Z7
 have b19:=F19.binds (ps:=["drawing"]) fun _ _ _ _ _ _ us hl=>by obtain⟨_,rfl⟩:=tR hl; rfl
 have F20:=eM (st:=top 18) l20 c20 Z6
 have b20:=F20.binds (ps:=["three","count","p"]) fun _ _ _ _ _ _ us hl=>by obtain⟨_,_,_,rfl⟩:=Ki hl; rfl
 have F21:=eM (st:=top 24) l21 c21 Z5
 have b21:=F21.binds (ps:=["by_place","free","count","p"]) fun _ _ _ _ _ _ us hl=>by obtain⟨_,_,_,_,rfl⟩:=VV hl; rfl
 have F22:=eM (st:=top 23) l22 c22 X9
 have b22:=F22.binds (ps:=["drawing","p"]) fun _ _ _ _ _ _ us hl=>by obtain⟨_,_,rfl⟩:=BF hl; rfl
 have F23:=eM (st:=top 17) l23 c23 Z4
 have b23:=F23.binds (ps:=["p","count"]) fun _ _ _ _ _ _ us hl=>by obtain⟨_,_,rfl⟩:=BF hl; rfl
 have F24:=eM (st:=top 25) l24 c24 Z3
 have b24:=F24.binds (ps:=["drawing","p"]) fun _ _ _ _ _ _ us hl=>by obtain⟨_,_,rfl⟩:=BF hl; rfl
 have F25:=eM (st:=top 37) l25 c25 Z2
 have b25:=F25.binds (ps:=["_law_row","_law_step","_law_at","_law_p"]) fun _ _ _ _ _ _ us hl=>by obtain⟨_,_,_,_,rfl⟩:=VV hl; rfl
 have F26:=eM (st:=top 38) l26 c26 Z1
 have b26:=F26.binds (ps:=["_law_rules","_law_wide","_law_p"]) fun _ _ _ _ _ _ us hl=>by obtain⟨_,_,_,rfl⟩:=Ki hl; rfl
 have F27:=eM (st:=top 28) l27 c27 X8
 have b27:=F27.binds (ps:=["_law_found"]) fun _ _ _ _ _ _ us hl=>by obtain⟨_,rfl⟩:=tR hl; rfl
 have F28:=eM (st:=top 35) l28 c28 Z0
 have b28:=F28.binds (ps:=["_law_found","_law_wide","_law_p"]) fun _ _ _ _ _ _ us hl=>by obtain⟨_,_,_,rfl⟩:=Ki hl; rfl
 have F29:=eM (st:=top 34) l29 c29 ZZ
 have b29:=F29.binds (ps:=["_law_rules","_law_p","_law_numbers"]) fun _ _ _ _ _ _ us hl=>by obtain⟨_,_,_,rfl⟩:=Ki hl; rfl
 have F30:=eM (st:=top 39) l30 c30 ZY
 have b30:=F30.binds (ps:=["_law_numbers"]) fun _ _ _ _ _ _ us hl=>by obtain⟨_,rfl⟩:=tR hl; rfl
 have F31:=eM (st:=top 36) l31 c31 ZX
 have b31:=F31.binds (ps:=["_law_p","_law_count"]) fun _ _ _ _ _ _ us hl=>by obtain⟨_,_,rfl⟩:=BF hl; rfl
 have F32:=eM (st:=top 40) l32 c32 k32
 have e8:=dO X G Pq
 have cK:=dO X G Dg
 have dS:=dO X G qJ
 have wK:=dO X G Pp
 have jf:=dO X G zg
 have jg:=dO X G Jq
 have pL:=dO X G Pn
 have rh:=dO X G Pt
 have DX:=dO X G Jr
 have fv:=dO X G pv
 have JY:=dO X G Pu
 have JX:=dO X G Po
 refine⟨aL "law" "law" (bE (top 40)) (bD (top 40)) (aC (top 40)) .none X7 Y0 XE Zx Wy Y3,fun s v=>.of_eq rfl,fun base _ _=>?_⟩
 have ok0:=HG (P:=l.prog) (w:=w) (mg:=mg) (base:=base) F0 e8
 have ok1:=HC (P:=l.prog) (w:=w) (mg:=mg) (base:=base) F1 e8 cK
 have ok2:=Kz (P:=l.prog) (w:=w) (mg:=mg) (base:=base) F2 e8 cK
 have WT:=Ep (P:=l.prog) (w:=w) (mg:=mg) (base:=base) F3 dS e8 cK ok2 (bu X G a2) k2 b2
 have ok4:=HH (P:=l.prog) (w:=w) (mg:=mg) (base:=base) F4 wK jf WT (bu X G a3) k3 b3
 have ok5:=BK (P:=l.prog) (w:=w) (mg:=mg) (base:=base) F5 dS e8 cK WT (bu X G a3) k3 b3 ok4 (bu X G a4) k4 b4 ok2 (bu X G a2) k2 b2
 have ok6:=ym (P:=l.prog) (w:=w) (mg:=mg) (base:=base) F6 (bu X G wW) oR
 have ok7:=Hy (P:=l.prog) (w:=w) (mg:=mg) (base:=base) F7
 have ok8:=KC (P:=l.prog) (w:=w) (mg:=mg) (base:=base) F8 ok7 (bu X G a7) k7 b7
 have ok9:=Ob (P:=l.prog) (w:=w) (mg:=mg) (base:=base) F9 dS ok8 (bu X G a8) k8 b8
 have XS:=TY (P:=l.prog) (w:=w) (mg:=mg) (base:=base) F10 jg wK jf ok9 (bu X G a9) k9 b9
 have aco:=KA (P:=l.prog) (w:=w) (mg:=mg) (base:=base) F11 pL
 have acn:=BL (P:=l.prog) (w:=w) (mg:=mg) (base:=base) F12 dS
 have acm:=Oa (P:=l.prog) (w:=w) (mg:=mg) (base:=base) F13 cK
 have ack:=N9 (P:=l.prog) (w:=w) (mg:=mg) (base:=base) F14 jg aco (bu X G a11) k11 b11 acn (bu X G a12) k12 b12 acm (bu X G a13) k13 b13
 have acj:=Ky (P:=l.prog) (w:=w) (mg:=mg) (base:=base) F15 pL
 have aci:=Er (P:=l.prog) (w:=w) (mg:=mg) (base:=base) F16 acj (bu X G a15) k15 b15
 have ach:=AD (P:=l.prog) (w:=w) (mg:=mg) (base:=base) F17
 have acg:=HA (P:=l.prog) (w:=w) (mg:=mg) (base:=base) F18 jf ach (bu X G a17) Z9 b17
 have acf:=Ek (P:=l.prog) (w:=w) (mg:=mg) (base:=base) F19 XS (bu X G a10) Yb b10 ok9 (bu X G a9) k9 b9 aci (bu X G a16) k16 b16 acg (bu X G a18) Z8 b18
 have ace:=AE (P:=l.prog) (w:=w) (mg:=mg) (base:=base) F20 cK
 have acd:=vN (P:=l.prog) (w:=w) (mg:=mg) (base:=base) F21 cK
 have XR:=Rg (P:=l.prog) (w:=w) (mg:=mg) (base:=base) F22 e8 cK ok6 (bu X G a6) k6 b6 XS (bu X G a10) Yb b10 ack (bu X G a14) k14 b14 acf (bu X G a19) Z7 b19 ace (bu X G a20) Z6 b20 acd (bu X G a21) Z5 b21
 have acb:=Hz (P:=l.prog) (w:=w) (mg:=mg) (base:=base) F23 cK
 have aca:=sR (P:=l.prog) (w:=w) (mg:=mg) (base:=base) F24 e8 acb (bu X G a23) Z4 b23 XR (bu X G a22) X9 b22
 have ab9:=HE (P:=l.prog) (w:=w) (mg:=mg) (base:=base) F25 pL
 have ab8:=HB (P:=l.prog) (w:=w) (mg:=mg) (base:=base) F26 rh cK ab9 (bu X G a25) Z2 b25
 have XQ:=El (P:=l.prog) (w:=w) (mg:=mg) (base:=base) F27 DX rh fv
 have ab7:=HD (P:=l.prog) (w:=w) (mg:=mg) (base:=base) F28 JY fv e8 jg XQ (bu X G a27) X8 b27
 have ab6:=Eo (P:=l.prog) (w:=w) (mg:=mg) (base:=base) F29
 have ab5:=HF (P:=l.prog) (w:=w) (mg:=mg) (base:=base) F30 dS
 have ab4:=Em (P:=l.prog) (w:=w) (mg:=mg) (base:=base) F31 cK
 exact Wj F32 fv e8 jg JX ok0 (bu X G a0) k0 b0 ok1 (bu X G a1) k1 b1 ok5 (bu X G a5) k5 b5 ok4 (bu X G a4) k4 b4 XR (bu X G a22) X9 b22 aca (bu X G a24) Z3 b24 ab8 (bu X G a26) Z1 b26 ab7 (bu X G a28) Z0 b28 ab6 (bu X G a29) ZZ b29 ab5 (bu X G a30) ZY b30 XQ (bu X G a27) X8 b27 ab4 (bu X G a31) ZX b31
section
open PySem.W PySem.Calls
noncomputable def hC (n:Str) (t:Nat) (l:List Value):Obj:=⟨.type "code",none,.fields (.str n t :: .str n (t+1) :: .str "/claim/cut.py" (t+2) :: l).toArray,#[]⟩
noncomputable abbrev hE(P:Params)(s:Str)(t:Nat)(v:Value):ip:=⟨PyData.keyHash P s,.str s t,v⟩
noncomputable def hQ:ck:=PySem.W.view PySem.Challenge.pw_knotwise_k53_basis [1,2,4,5,6,7,9,11,12,13,14,15,16,17,18,19,20,21,22,23,24,25,27,28,29,30,31,32,33,34,35,36,37,38,39,40]
noncomputable def hK (P:Params):aj:=(nat_lit 3,⟨(.type "dict"),none,(.dict #[hE P "__name__" 165 (.str "law_knotwise_k53_basis" 385),hE P "__doc__" 166 .none,hE P "__package__" 167 .none,hE P "__loader__" 168 (.builtin "__main__.__loader__#opaque"),hE P "__spec__" 169 .none,hE P "__annotations__" 170 (.ref 6),hE P "__builtins__" 171 (.ref 4),hE P "__file__" 173 (.str "/claim/cut.py" 172),hE P "__cached__" 174 .none,hE P "KnotError" 206 (.ref 24),hE P "NoPrime" 222 (.ref 37),hE P "passings_of" 233 (.ref 46),hE P "names_of" 239 (.ref 51),hE P "spots_on" 245 (.ref 56),hE P "next_of" 256 (.ref 63),hE P "coming_of" 268 (.ref 70),hE P "PRIMES" 274 (.ref 71),hE P "bows_on" 280 (.ref 76),hE P "bow_at" 290 (.ref 83),hE P "bows" 297 (.ref 90),hE P "refuse_other" 304 (.ref 97),hE P "places_at" 317 (.ref 104),hE P "power_of" 327 (.ref 111),hE P "equation_of" 333 (.ref 116),hE P "last_place" 339 (.ref 121),hE P "scaled" 345 (.ref 126),hE P "cleared" 351 (.ref 131),hE P "solved" 364 (.ref 138),hE P "basis" 370 (.ref 143),hE P "colouring_from" 376 (.ref 148),hE P "count_colourings" 384 (.ref 155),hE P "_law_cell" 394 (.ref 162),hE P "_law_whole" 401 (.ref 169),hE P "_law_made" 407 (.ref 174),hE P "_law_bow" 417 (.ref 181),hE P "_law_homes" 428 (.ref 188),hE P "_law_bows" 434 (.ref 193),hE P "_law_threes" 449 (.ref 200),hE P "_law_keeps" 461 (.ref 207),hE P "_law_list" 467 (.ref 212),hE P "_law_times" 477 (.ref 219),hE P "_law_less" 483 (.ref 224),hE P "_law_rank" 489 (.ref 229),hE P "_law_lead" 498 (.ref 236),hE P "law" 504 (.ref 241)] 45),#[]⟩) ::
(nat_lit 45,hC "passings_of" 225 [(.int 7 0),(.int 1 0),(.int 0 0),(.int 0 0),(.int 3 0),(.ref 40),(.bool .true),(.int 181 0),(.ref 41),.none,(.ref 42),(.ref 43),(.ref 44),(.int 231 0),(.int 7 0),(.str "/claim/cut.py" 232)]) ::
(nat_lit 46,⟨(.type "function"),none,.func (aL "passings_of" "passings_of" (bE (top 4)) (bD (top 4)) (aC (top 4)) .none .none .none (.str "knotwise.drawings" 223) none (.ref 45) .none),#[]⟩) ::
(nat_lit 50,hC "names_of" 234 [(.int 12 0),(.int 1 0),(.int 0 0),(.int 0 0),(.int 3 0),(.ref 47),(.bool .true),(.int 181 0),(.ref 48),.none,.none,.none,(.ref 49),(.int 237 0),(.int 12 0),(.str "/claim/cut.py" 238)]) ::
(nat_lit 51,⟨(.type "function"),none,.func (aL "names_of" "names_of" (bE (top 5)) (bD (top 5)) (aC (top 5)) .none .none .none (.str "knotwise.drawings" 223) none (.ref 50) .none),#[]⟩) ::
(nat_lit 55,hC "spots_on" 240 [(.int 14 0),(.int 2 0),(.int 0 0),(.int 0 0),(.int 3 0),(.ref 52),(.bool .true),(.int 181 0),(.ref 53),.none,.none,.none,(.ref 54),(.int 243 0),(.int 14 0),(.str "/claim/cut.py" 244)]) ::
(nat_lit 56,⟨(.type "function"),none,.func (aL "spots_on" "spots_on" (bE (top 6)) (bD (top 6)) (aC (top 6)) .none .none .none (.str "knotwise.drawings" 223) none (.ref 55) .none),#[]⟩) ::
(nat_lit 62,hC "next_of" 246 [(.int 18 0),(.int 1 0),(.int 0 0),(.int 0 0),(.int 3 0),(.ref 57),(.bool .true),(.int 181 0),(.ref 58),.none,(.ref 59),(.ref 60),(.ref 61),(.int 254 0),(.int 18 0),(.str "/claim/cut.py" 255)]) ::
(nat_lit 63,⟨(.type "function"),none,.func (aL "next_of" "next_of" (bE (top 7)) (bD (top 7)) (aC (top 7)) .none .none .none (.str "knotwise.drawings" 223) none (.ref 62) .none),#[]⟩) ::
(nat_lit 69,hC "coming_of" 259 [(.int 25 0),(.int 1 0),(.int 0 0),(.int 0 0),(.int 3 0),(.ref 64),(.bool .true),(.int 181 0),(.ref 65),.none,(.ref 66),(.ref 67),(.ref 68),(.int 266 0),(.int 25 0),(.str "/claim/cut.py" 267)]) ::
(nat_lit 70,⟨(.type "function"),none,.func (aL "coming_of" "coming_of" (bE (top 9)) (bD (top 9)) (aC (top 9)) .none .none .none (.str "knotwise.sides" 257) none (.ref 69) .none),#[]⟩) ::
(nat_lit 71,⟨(.type "tuple"),none,(.seq #[(.int 3 271),(.int 5 272),(.int 7 273)] 0),#[]⟩) ::
(nat_lit 75,hC "bows_on" 275 [(.int 33 0),(.int 2 0),(.int 0 0),(.int 0 0),(.int 3 0),(.ref 72),(.bool .true),(.int 181 0),(.ref 73),.none,.none,.none,(.ref 74),(.int 278 0),(.int 33 0),(.str "/claim/cut.py" 279)]) ::
(nat_lit 76,⟨(.type "function"),none,.func (aL "bows_on" "bows_on" (bE (top 12)) (bD (top 12)) (aC (top 12)) .none .none .none (.str "knotwise.colours" 269) none (.ref 75) .none),#[]⟩) ::
(nat_lit 82,hC "bow_at" 281 [(.int 43 0),(.int 1 0),(.int 0 0),(.int 0 0),(.int 3 0),(.ref 77),(.bool .true),(.int 181 0),(.ref 78),.none,(.ref 79),(.ref 80),(.ref 81),(.int 288 0),(.int 43 0),(.str "/claim/cut.py" 289)]) ::
(nat_lit 83,⟨(.type "function"),none,.func (aL "bow_at" "bow_at" (bE (top 13)) (bD (top 13)) (aC (top 13)) .none .none .none (.str "knotwise.colours" 269) none (.ref 82) .none),#[]⟩) ::
(nat_lit 89,hC "bows" 291 [(.int 48 0),(.int 1 0),(.int 0 0),(.int 0 0),(.int 3 0),(.ref 84),(.bool .true),(.int 181 0),(.ref 85),.none,(.ref 86),(.ref 87),(.ref 88),(.int 295 0),(.int 48 0),(.str "/claim/cut.py" 296)]) ::
(nat_lit 90,⟨(.type "function"),none,.func (aL "bows" "bows" (bE (top 14)) (bD (top 14)) (aC (top 14)) .none .none .none (.str "knotwise.colours" 269) none (.ref 89) .none),#[]⟩) ::
(nat_lit 96,hC "refuse_other" 298 [(.int 50 0),(.int 1 0),(.int 0 0),(.int 0 0),(.int 3 0),(.ref 91),(.bool .true),(.int 181 0),(.ref 92),.none,(.ref 93),(.ref 94),(.ref 95),(.int 302 0),(.int 50 0),(.str "/claim/cut.py" 303)]) ::
(nat_lit 97,⟨(.type "function"),none,.func (aL "refuse_other" "refuse_other" (bE (top 15)) (bD (top 15)) (aC (top 15)) .none .none .none (.str "knotwise.colours" 269) none (.ref 96) .none),#[]⟩) ::
(nat_lit 103,hC "places_at" 305 [(.int 53 0),(.int 1 0),(.int 0 0),(.int 0 0),(.int 3 0),(.ref 98),(.bool .true),(.int 181 0),(.ref 99),.none,(.ref 100),(.ref 101),(.ref 102),(.int 315 0),(.int 53 0),(.str "/claim/cut.py" 316)]) ::
(nat_lit 104,⟨(.type "function"),none,.func (aL "places_at" "places_at" (bE (top 16)) (bD (top 16)) (aC (top 16)) .none .none .none (.str "knotwise.colours" 269) none (.ref 103) .none),#[]⟩) ::
(nat_lit 110,hC "power_of" 318 [(.int 62 0),(.int 2 0),(.int 0 0),(.int 0 0),(.int 3 0),(.ref 105),(.bool .true),(.int 181 0),(.ref 106),.none,(.ref 107),(.ref 108),(.ref 109),(.int 325 0),(.int 62 0),(.str "/claim/cut.py" 326)]) ::
(nat_lit 111,⟨(.type "function"),none,.func (aL "power_of" "power_of" (bE (top 17)) (bD (top 17)) (aC (top 17)) .none .none .none (.str "knotwise.colours" 269) none (.ref 110) .none),#[]⟩) ::
(nat_lit 115,hC "equation_of" 328 [(.int 67 0),(.int 3 0),(.int 0 0),(.int 0 0),(.int 3 0),(.ref 112),(.bool .true),(.int 181 0),(.ref 113),.none,.none,.none,(.ref 114),(.int 331 0),(.int 67 0),(.str "/claim/cut.py" 332)]) ::
(nat_lit 116,⟨(.type "function"),none,.func (aL "equation_of" "equation_of" (bE (top 18)) (bD (top 18)) (aC (top 18)) .none .none .none (.str "knotwise.colours" 269) none (.ref 115) .none),#[]⟩) ::
(nat_lit 120,hC "last_place" 334 [(.int 73 0),(.int 1 0),(.int 0 0),(.int 0 0),(.int 3 0),(.ref 117),(.bool .true),(.int 181 0),(.ref 118),.none,.none,.none,(.ref 119),(.int 337 0),(.int 73 0),(.str "/claim/cut.py" 338)]) ::
(nat_lit 121,⟨(.type "function"),none,.func (aL "last_place" "last_place" (bE (top 19)) (bD (top 19)) (aC (top 19)) .none .none .none (.str "knotwise.colours" 269) none (.ref 120) .none),#[]⟩) ::
(nat_lit 125,hC "scaled" 340 [(.int 76 0),(.int 3 0),(.int 0 0),(.int 0 0),(.int 3 0),(.ref 122),(.bool .true),(.int 181 0),(.ref 123),.none,.none,.none,(.ref 124),(.int 343 0),(.int 76 0),(.str "/claim/cut.py" 344)]) ::
(nat_lit 126,⟨(.type "function"),none,.func (aL "scaled" "scaled" (bE (top 20)) (bD (top 20)) (aC (top 20)) .none .none .none (.str "knotwise.colours" 269) none (.ref 125) .none),#[]⟩) ::
(nat_lit 130,hC "cleared" 346 [(.int 79 0),(.int 4 0),(.int 0 0),(.int 0 0),(.int 3 0),(.ref 127),(.bool .true),(.int 181 0),(.ref 128),.none,.none,.none,(.ref 129),(.int 349 0),(.int 79 0),(.str "/claim/cut.py" 350)]) ::
(nat_lit 131,⟨(.type "function"),none,.func (aL "cleared" "cleared" (bE (top 21)) (bD (top 21)) (aC (top 21)) .none .none .none (.str "knotwise.colours" 269) none (.ref 130) .none),#[]⟩) ::
(nat_lit 137,hC "solved" 352 [(.int 82 0),(.int 2 0),(.int 0 0),(.int 0 0),(.int 3 0),(.ref 132),(.bool .true),(.int 181 0),(.ref 133),.none,(.ref 134),(.ref 135),(.ref 136),(.int 362 0),(.int 82 0),(.str "/claim/cut.py" 363)]) ::
(nat_lit 138,⟨(.type "function"),none,.func (aL "solved" "solved" (bE (top 22)) (bD (top 22)) (aC (top 22)) .none .none .none (.str "knotwise.colours" 269) none (.ref 137) .none),#[]⟩) ::
(nat_lit 142,hC "basis" 365 [(.int 95 0),(.int 2 0),(.int 0 0),(.int 0 0),(.int 3 0),(.ref 139),(.bool .true),(.int 181 0),(.ref 140),.none,.none,.none,(.ref 141),(.int 368 0),(.int 95 0),(.str "/claim/cut.py" 369)]) ::
(nat_lit 143,⟨(.type "function"),none,.func (aL "basis" "basis" (bE (top 23)) (bD (top 23)) (aC (top 23)) .none .none .none (.str "knotwise.colours" 269) none (.ref 142) .none),#[]⟩) ::
(nat_lit 147,hC "colouring_from" 371 [(.int 100 0),(.int 4 0),(.int 0 0),(.int 0 0),(.int 3 0),(.ref 144),(.bool .true),(.int 181 0),(.ref 145),.none,.none,.none,(.ref 146),(.int 374 0),(.int 100 0),(.str "/claim/cut.py" 375)]) ::
(nat_lit 148,⟨(.type "function"),none,.func (aL "colouring_from" "colouring_from" (bE (top 24)) (bD (top 24)) (aC (top 24)) .none .none .none (.str "knotwise.colours" 269) none (.ref 147) .none),#[]⟩) ::
(nat_lit 154,hC "count_colourings" 377 [(.int 106 0),(.int 2 0),(.int 0 0),(.int 0 0),(.int 3 0),(.ref 149),(.bool .true),(.int 181 0),(.ref 150),.none,(.ref 151),(.ref 152),(.ref 153),(.int 382 0),(.int 106 0),(.str "/claim/cut.py" 383)]) ::
(nat_lit 155,⟨(.type "function"),none,.func (aL "count_colourings" "count_colourings" (bE (top 25)) (bD (top 25)) (aC (top 25)) .none .none .none (.str "knotwise.colours" 269) none (.ref 154) .none),#[]⟩) ::
(nat_lit 161,hC "_law_cell" 387 [(.int 109 0),(.int 2 0),(.int 0 0),(.int 0 0),(.int 3 0),(.ref 156),(.bool .true),(.int 181 0),(.ref 157),.none,(.ref 158),(.ref 159),(.ref 160),(.int 392 0),(.int 109 0),(.str "/claim/cut.py" 393)]) ::
(nat_lit 162,⟨(.type "function"),none,.func (aL "_law_cell" "_law_cell" (bE (top 27)) (bD (top 27)) (aC (top 27)) .none .none .none (.str "law_knotwise_k53_basis" 385) none (.ref 161) .none),#[]⟩) ::
(nat_lit 168,hC "_law_whole" 395 [(.int 113 0),(.int 1 0),(.int 0 0),(.int 0 0),(.int 3 0),(.ref 163),(.bool .true),(.int 181 0),(.ref 164),.none,(.ref 165),(.ref 166),(.ref 167),(.int 399 0),(.int 113 0),(.str "/claim/cut.py" 400)]) ::
(nat_lit 169,⟨(.type "function"),none,.func (aL "_law_whole" "_law_whole" (bE (top 28)) (bD (top 28)) (aC (top 28)) .none .none .none (.str "law_knotwise_k53_basis" 385) none (.ref 168) .none),#[]⟩) ::
(nat_lit 173,hC "_law_made" 402 [(.int 115 0),(.int 2 0),(.int 0 0),(.int 0 0),(.int 3 0),(.ref 170),(.bool .true),(.int 181 0),(.ref 171),.none,.none,.none,(.ref 172),(.int 405 0),(.int 115 0),(.str "/claim/cut.py" 406)]) ::
(nat_lit 174,⟨(.type "function"),none,.func (aL "_law_made" "_law_made" (bE (top 29)) (bD (top 29)) (aC (top 29)) .none .none .none (.str "law_knotwise_k53_basis" 385) none (.ref 173) .none),#[]⟩) ::
(nat_lit 180,hC "_law_bow" 408 [(.int 135 0),(.int 3 0),(.int 0 0),(.int 0 0),(.int 3 0),(.ref 175),(.bool .true),(.int 181 0),(.ref 176),.none,(.ref 177),(.ref 178),(.ref 179),(.int 415 0),(.int 135 0),(.str "/claim/cut.py" 416)]) ::
(nat_lit 181,⟨(.type "function"),none,.func (aL "_law_bow" "_law_bow" (bE (top 30)) (bD (top 30)) (aC (top 30)) .none .none .none (.str "law_knotwise_k53_basis" 385) none (.ref 180) .none),#[]⟩) ::
(nat_lit 187,hC "_law_homes" 418 [(.int 140 0),(.int 1 0),(.int 0 0),(.int 0 0),(.int 3 0),(.ref 182),(.bool .true),(.int 181 0),(.ref 183),.none,(.ref 184),(.ref 185),(.ref 186),(.int 426 0),(.int 140 0),(.str "/claim/cut.py" 427)]) ::
(nat_lit 188,⟨(.type "function"),none,.func (aL "_law_homes" "_law_homes" (bE (top 31)) (bD (top 31)) (aC (top 31)) .none .none .none (.str "law_knotwise_k53_basis" 385) none (.ref 187) .none),#[]⟩) ::
(nat_lit 192,hC "_law_bows" 429 [(.int 148 0),(.int 1 0),(.int 0 0),(.int 0 0),(.int 3 0),(.ref 189),(.bool .true),(.int 181 0),(.ref 190),.none,.none,.none,(.ref 191),(.int 432 0),(.int 148 0),(.str "/claim/cut.py" 433)]) ::
(nat_lit 193,⟨(.type "function"),none,.func (aL "_law_bows" "_law_bows" (bE (top 32)) (bD (top 32)) (aC (top 32)) .none .none .none (.str "law_knotwise_k53_basis" 385) none (.ref 192) .none),#[]⟩) ::
(nat_lit 199,hC "_law_threes" 435 [(.int 151 0),(.int 1 0),(.int 0 0),(.int 0 0),(.int 3 0),(.ref 194),(.bool .true),(.int 181 0),(.ref 195),.none,(.ref 196),(.ref 197),(.ref 198),(.int 447 0),(.int 151 0),(.str "/claim/cut.py" 448)]) ::
(nat_lit 200,⟨(.type "function"),none,.func (aL "_law_threes" "_law_threes" (bE (top 33)) (bD (top 33)) (aC (top 33)) .none .none .none (.str "law_knotwise_k53_basis" 385) none (.ref 199) .none),#[]⟩) ::
(nat_lit 206,hC "_law_keeps" 450 [(.int 162 0),(.int 3 0),(.int 0 0),(.int 0 0),(.int 3 0),(.ref 201),(.bool .true),(.int 181 0),(.ref 202),.none,(.ref 203),(.ref 204),(.ref 205),(.int 459 0),(.int 162 0),(.str "/claim/cut.py" 460)]) ::
(nat_lit 207,⟨(.type "function"),none,.func (aL "_law_keeps" "_law_keeps" (bE (top 34)) (bD (top 34)) (aC (top 34)) .none .none .none (.str "law_knotwise_k53_basis" 385) none (.ref 206) .none),#[]⟩) ::
(nat_lit 211,hC "_law_list" 462 [(.int 167 0),(.int 3 0),(.int 0 0),(.int 0 0),(.int 3 0),(.ref 208),(.bool .true),(.int 181 0),(.ref 209),.none,.none,.none,(.ref 210),(.int 465 0),(.int 167 0),(.str "/claim/cut.py" 466)]) ::
(nat_lit 212,⟨(.type "function"),none,.func (aL "_law_list" "_law_list" (bE (top 35)) (bD (top 35)) (aC (top 35)) .none .none .none (.str "law_knotwise_k53_basis" 385) none (.ref 211) .none),#[]⟩) ::
(nat_lit 218,hC "_law_times" 468 [(.int 171 0),(.int 2 0),(.int 0 0),(.int 0 0),(.int 3 0),(.ref 213),(.bool .true),(.int 181 0),(.ref 214),.none,(.ref 215),(.ref 216),(.ref 217),(.int 475 0),(.int 171 0),(.str "/claim/cut.py" 476)]) ::
(nat_lit 219,⟨(.type "function"),none,.func (aL "_law_times" "_law_times" (bE (top 36)) (bD (top 36)) (aC (top 36)) .none .none .none (.str "law_knotwise_k53_basis" 385) none (.ref 218) .none),#[]⟩) ::
(nat_lit 223,hC "_law_less" 478 [(.int 176 0),(.int 4 0),(.int 0 0),(.int 0 0),(.int 3 0),(.ref 220),(.bool .true),(.int 181 0),(.ref 221),.none,.none,.none,(.ref 222),(.int 481 0),(.int 176 0),(.str "/claim/cut.py" 482)]) ::
(nat_lit 224,⟨(.type "function"),none,.func (aL "_law_less" "_law_less" (bE (top 37)) (bD (top 37)) (aC (top 37)) .none .none .none (.str "law_knotwise_k53_basis" 385) none (.ref 223) .none),#[]⟩) ::
(nat_lit 228,hC "_law_rank" 484 [(.int 178 0),(.int 3 0),(.int 0 0),(.int 0 0),(.int 3 0),(.ref 225),(.bool .true),(.int 181 0),(.ref 226),.none,.none,.none,(.ref 227),(.int 487 0),(.int 178 0),(.str "/claim/cut.py" 488)]) ::
(nat_lit 229,⟨(.type "function"),none,.func (aL "_law_rank" "_law_rank" (bE (top 38)) (bD (top 38)) (aC (top 38)) .none .none .none (.str "law_knotwise_k53_basis" 385) none (.ref 228) .none),#[]⟩) ::
(nat_lit 235,hC "_law_lead" 490 [(.int 197 0),(.int 1 0),(.int 0 0),(.int 0 0),(.int 3 0),(.ref 230),(.bool .true),(.int 181 0),(.ref 231),.none,(.ref 232),(.ref 233),(.ref 234),(.int 496 0),(.int 197 0),(.str "/claim/cut.py" 497)]) ::
(nat_lit 236,⟨(.type "function"),none,.func (aL "_law_lead" "_law_lead" (bE (top 39)) (bD (top 39)) (aC (top 39)) .none .none .none (.str "law_knotwise_k53_basis" 385) none (.ref 235) .none),#[]⟩) ::
(nat_lit 240,hC "law" 499 [(.int 202 0),(.int 1 0),(.int 0 0),(.int 0 0),(.int 3 0),(.ref 237),(.bool .true),(.int 181 0),(.ref 238),.none,.none,.none,(.ref 239),(.int 502 0),(.int 202 0),(.str "/claim/cut.py" 503)]) ::
(nat_lit 241,⟨(.type "function"),none,.func (aL "law" "law" (bE (top 40)) (bD (top 40)) (aC (top 40)) .none .none .none (.str "law_knotwise_k53_basis" 385) none (.ref 240) .none),#[]⟩) :: []
noncomputable def hA:List Addr:=[3,45,46,50,51,55,56,62,63,69,70,71,75,76,82,83,89,90,96,97,103,104,110,111,115,116,120,121,125,126,130,131,137,138,142,143,147,148,154,155,161,162,168,169,173,174,180,181,187,188,192,193,199,200,206,207,211,212,218,219,223,224,228,229,235,236,240,241]
theorem Wg(w:World)(os:OsState):(topFrom treeTable (PySem.Challenge.rw_knotwise_k53_basis).row.prog w 2972 ⟨boot_heap w.params,Array.mk [],boot_drawn,boot_toks,os⟩).map (fun s=>(openSeen hQ [] (O7 (PySem.Challenge.rw_knotwise_k53_basis).row.prog.main.body) (Xg PySem.Challenge.rw_knotwise_k53_basis hQ) true s,hA.map s.heap.get?))=some (openGood hQ [],(hK w.params).map fun p=>some p.2):=by kernel_rfl
theorem Wf:(PySem.Challenge.rw_knotwise_k53_basis).wellSaid=true:=by kernel_rfl
theorem We:Lq PySem.Challenge.rw_knotwise_k53_basis hQ=true:=by kernel_rfl
end
end Fin
end Internal
open Internal
open PySem PySem.W PyProof.Rows
set_option maxRecDepth 100000 in
set_option maxHeartbeats 0 in
theorem PySem.Challenge.cw_knotwise_k53_basis_holds : PySem.Challenge.rw_knotwise_k53_basis.Holds := by
 w_on
 refine K2.NY (q:=Fin.hQ) (K:=Fin.hK) (as:=Fin.hA) (N:=2972) Fin.Wf (by kernel_rfl) (by kernel_rfl) (fun _=>by kernel_rfl) (fun _=>by kernel_rfl) Fin.Wg (by rfl) (by rfl) (by rfl) (by rfl) Fin.We ⟨rfl,rfl,rfl,rfl,rfl,by decide +kernel⟩ ?hw ?hc
 (case hw=>w_witness2)
 k_fill
 refine K2.QA (l:=PySem.Challenge.rw_knotwise_k53_basis) (k:=8) (x:="_law_script") rfl rfl ⟨rfl,by decide,by decide⟩ (fun w h Y=>Y) ?F
 case F =>
  intro w mg fa h KX G Yr
  refine' Fin.all_mk KX G Yr ?a0 ?l0 ?c0 ?k0 ?a1 ?l1 ?c1 ?k1 ?a2 ?l2 ?c2 ?k2 ?a3 ?l3 ?c3 ?k3 ?a4 ?l4 ?c4 ?k4 ?a5 ?l5 ?c5 ?k5 ?a6 ?l6 ?c6 ?k6 ?a7 ?l7 ?c7 ?k7 ?a8 ?l8 ?c8 ?k8 ?a9 ?l9 ?c9 ?k9 ?a10 ?l10 ?c10 ?Yb ?a11 ?l11 ?c11 ?k11 ?a12 ?l12 ?c12 ?k12 ?a13 ?l13 ?c13 ?k13 ?a14 ?l14 ?c14 ?k14 ?a15 ?l15 ?c15 ?k15 ?a16 ?l16 ?c16 ?k16 ?a17 ?l17 ?c17 ?Z9 ?a18 ?l18 ?c18 ?Z8 ?a19 ?l19 ?c19 ?Z7 ?a20 ?l20 ?c20 ?Z6 ?a21 ?l21 ?c21 ?Z5 ?a22 ?l22 ?c22 ?X9 ?a23 ?l23 ?c23 ?Z4 ?a24 ?l24 ?c24 ?Z3 ?a25 ?l25 ?c25 ?Z2 ?a26 ?l26 ?c26 ?Z1 ?a27 ?l27 ?c27 ?X8 ?a28 ?l28 ?c28 ?Z0 ?a29 ?l29 ?c29 ?ZZ ?a30 ?l30 ?c30 ?ZY ?a31 ?l31 ?c31 ?ZX ?a32 ?l32 ?c32 ?k32 ?Pq ?Dg ?qJ ?Pp ?zg ?Jq ?Pn ?Pt ?Jr ?pv ?Pu ?Po ?wW ?oR
  (case a0=>k_is); (case l0=>k_is); (case c0=>k_is); (case k0=>k_is)
  (case a1=>k_is); (case l1=>k_is); (case c1=>k_is); (case k1=>k_is)
  (case a2=>k_is); (case l2=>k_is); (case c2=>k_is); (case k2=>k_is)
  (case a3=>k_is); (case l3=>k_is); (case c3=>k_is); (case k3=>k_is)
  (case a4=>k_is); (case l4=>k_is); (case c4=>k_is); (case k4=>k_is)
  (case a5=>k_is); (case l5=>k_is); (case c5=>k_is); (case k5=>k_is)
  (case a6=>k_is); (case l6=>k_is); (case c6=>k_is); (case k6=>k_is)
  (case a7=>k_is); (case l7=>k_is); (case c7=>k_is); (case k7=>k_is)
  (case a8=>k_is); (case l8=>k_is); (case c8=>k_is); (case k8=>k_is)
  (case a9=>k_is); (case l9=>k_is); (case c9=>k_is); (case k9=>k_is)
  (case a10=>k_is); (case l10=>k_is); (case c10=>k_is); (case Yb=>k_is)
  (case a11=>k_is); (case l11=>k_is); (case c11=>k_is); (case k11=>k_is)
  (case a12=>k_is); (case l12=>k_is); (case c12=>k_is); (case k12=>k_is)
  (case a13=>k_is); (case l13=>k_is); (case c13=>k_is); (case k13=>k_is)
  (case a14=>k_is); (case l14=>k_is); (case c14=>k_is); (case k14=>k_is)
  (case a15=>k_is); (case l15=>k_is); (case c15=>k_is); (case k15=>k_is)
  (case a16=>k_is); (case l16=>k_is); (case c16=>k_is); (case k16=>k_is)
  (case a17=>k_is); (case l17=>k_is); (case c17=>k_is); (case Z9=>k_is)
  (case a18=>k_is); (case l18=>k_is); (case c18=>k_is); (case Z8=>k_is)
  (case a19=>k_is); (case l19=>k_is); (case c19=>k_is); (case Z7=>k_is)
  (case a20=>k_is); (case l20=>k_is); (case c20=>k_is); (case Z6=>k_is)
  (case a21=>k_is); (case l21=>k_is); (case c21=>k_is); (case Z5=>k_is)
  (case a22=>k_is); (case l22=>k_is); (case c22=>k_is); (case X9=>k_is)
  (case a23=>k_is); (case l23=>k_is); (case c23=>k_is); (case Z4=>k_is)
  (case a24=>k_is); (case l24=>k_is); (case c24=>k_is); (case Z3=>k_is)
  (case a25=>k_is); (case l25=>k_is); (case c25=>k_is); (case Z2=>k_is)
  (case a26=>k_is); (case l26=>k_is); (case c26=>k_is); (case Z1=>k_is)
  (case a27=>k_is); (case l27=>k_is); (case c27=>k_is); (case X8=>k_is)
  (case a28=>k_is); (case l28=>k_is); (case c28=>k_is); (case Z0=>k_is)
  (case a29=>k_is); (case l29=>k_is); (case c29=>k_is); (case ZZ=>k_is)
  (case a30=>k_is); (case l30=>k_is); (case c30=>k_is); (case ZY=>k_is)
  (case a31=>k_is); (case l31=>k_is); (case c31=>k_is); (case ZX=>k_is)
  (case a32=>k_is); (case l32=>k_is); (case c32=>k_is); (case k32=>k_is)
  (case Pq=>k_is)
  (case Dg=>k_is)
  (case qJ=>k_is)
  (case Pp=>k_is)
  (case zg=>k_is)
  (case Jq=>k_is)
  (case Pn=>k_is)
  (case Pt=>k_is)
  (case Jr=>k_is)
  (case pv=>k_is)
  (case Pu=>k_is)
  (case Po=>k_is)
  (case wW=>k_is)
  (case oR=>first | k_is | rfl)
