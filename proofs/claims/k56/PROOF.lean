import PyProof.Rows.All
import Wide.All
import OpenK.AllK
import Wide.FinOn
import Lean
import PyProof.EqAt
import PyProof.EqKinds
import PyProof.TupleCall
import PySem.Challenge.RW_knotwise_k56_whole_braids_by_their_tops
open Array renaming getElem?_eq_getElem -> a8, getD_eq_getD_getElem? -> bg, length_toList -> bp, getElem?_toList -> cq, getElem?_eq_none -> fX, getD -> ql, forIn_toList -> yc, toList_filterMap -> Nk, toList_filter -> RJ
open Array.Perm renaming refl -> mM
open Bool renaming and_eq_true -> aN, false_eq_true -> aQ, noConfusion -> bH, not_true -> cS, false_ne_true -> eT, not_false -> fN, and_eq_true_iff -> jB, false_and -> p8, or_eq_true -> vM, true_and -> Ad, not_eq_true' -> A3, and_false -> JE, false_or -> Nj, beq_eq_decide_eq -> Q8
open Classical renaming byContradiction -> cg, choose -> Q7
open False renaming elim -> bM
open ForInStep renaming yield -> rT
open Function renaming comp -> wK, comp_def -> Q6
open Int renaming toNat_natCast -> aS, emod_lt_of_pos -> c7, emod_nonneg -> dP, mul_emod -> ft, add_emod -> kA, natCast_nonneg -> lh, toNat_of_nonneg -> oV, sub_emod -> p7, mul_comm -> vU, add_zero -> vV, emod_emod_of_dvd -> xh, mul_one -> ya, le_refl -> yb, toNat -> Ai, mul_right_comm -> Aj, emod_eq_of_lt -> Cd, zero_mul -> D3, emod_emod -> NX, dvd_refl -> RF
open List renaming getElem?_cons_zero -> aa, getElem?_cons_succ -> af, length_map -> ag, getElem?_eq_getElem -> ai, length_cons -> ak, mem_cons_of_mem -> ao, set_cons_zero -> aq, map_cons -> av, length_append -> aw, set_cons_succ -> ay, getD_eq_getElem?_getD -> az, map_append -> aA, mem_cons_self -> aB, length_nil -> aG, replicate -> aK, cons_append -> aP, size_toArray -> aR, range -> aU, nil_append -> aW, getElem?_map -> aX, mem_append_right -> bb, map_nil -> bc, mem_map_of_mem -> bq, flatten_cons -> bz, map_map -> bA, length_singleton -> bF, getElem_mem -> bP, foldl_cons -> bT, append_nil -> bU, mem_append_left -> bW, nodup_append -> cj, length_drop -> ck, getElem?_append_right -> cA, nodup_cons -> cF, append_assoc -> cK, length -> cV, nodup_nil -> cY, filter_append -> cZ, take_append_drop -> c9, length_replicate -> da, length_take -> di, getElem?_append_left -> dq, length_set -> dO, pairwise_map -> eI, getElem?_eq_none -> eK, flatMap_cons -> eM, mem_of_getElem? -> eV, getElem?_set_ne -> eW, getElem?_set_self -> eZ, length_range -> e7, getElem_of_mem -> e8, foldl_append -> e9, drop_eq_getElem_cons -> fj, not_mem_nil -> fD, filter_cons_of_pos -> fL, find?_cons -> fW, take_succ_eq_append_getElem -> gG, mem_cons -> hX, getElem?_replicate -> h8, filter_cons_of_neg -> ia, filter_cons -> iz, all_eq_true -> iA, drop_eq_nil_of_le -> iM, length_filter_le -> je, idxOf_lt_length_of_mem -> jf, nodup_iff_pairwise_ne -> jz, mem_or_eq_of_mem_set -> jW, getElem_map -> j4, zipIdx_map_fst -> ka, range_succ -> k8, any_cons -> k9, foldl_nil -> md, map_congr_left -> oN, getD_cons_zero -> oO, flatten_append -> oP, filter_nil -> oQ, zip_cons_cons -> pT, mem_singleton -> pU, map_set -> pV, append_of_mem -> pW, length_erase_of_mem -> qZ, getElem?_take_of_lt -> rh, countP_congr -> rj, isEmpty_nil -> sJ, take_of_length_le -> tK, length_pos_of_mem -> tL, getElem_cons_drop -> tM, singleton_append -> vE, of_mem_zip -> vF, mem_append -> vG, length_zip -> vH, getElem?_toArray -> vI, all_map -> vJ, mem_erase_of_ne -> wI, getD_cons_succ -> xA, filterMap_cons -> xB, take_nil -> z9, drop_nil -> Aa, all_cons -> Ab, map_uncurry_zip_eq_zipWith -> A0, find?_append -> A1, zipWith -> Ca, set_nil -> Cb, mem_map -> Cc, zipIdx_cons -> DX, lookup_cons -> DY, ext_getElem -> DZ, map_id -> GG, perm_ext_iff_of_nodup -> Hf, pairwise_iff_getElem -> JA, mem_range -> JB, getLast?_eq_none_iff -> JC, sum_cons -> Nf, pairwise_singleton -> Ng, pairwise_mergeSort -> Nh, map_take -> Ni, pairwise_lt_range -> NS, find?_cons_of_pos -> NT, find?_cons_of_neg -> NU, filter_eq_nil_iff -> NV, pairwise_flatMap -> Q4, concat_eq_append -> Q5, replicate_succ' -> RB, mem_of_mem_take -> RC, mem_of_getLast? -> RD, getElem?_zipIdx -> RE
open List.Pairwise renaming imp_of_mem -> Ac, filter -> D1
open List.Perm renaming eq_of_pairwise -> D0
open Nat renaming le_refl -> aC, ne_of_lt -> bB, lt_of_lt_of_le -> bJ, not_lt_zero -> bV, zero_le -> cb, le_trans -> cC, lt_irrefl -> eU, le_add_right -> eX, zero_add -> hV, succ_pos -> kz, lt_succ_self -> nR, mod_lt -> oM, lt_of_le_of_lt -> pZ, lt_succ_of_lt -> rS, add_sub_cancel_left -> sI, succ_le_succ -> tJ, lt_of_succ_lt_succ -> tT, le_of_succ_le_succ -> tU, le_of_lt -> DW, le_succ -> He, succ_add -> Rx, sub_self -> Ry, pow_succ -> Rz, mul_comm -> RA
open Ne renaming symm -> cW
open Option renaming isSome_map -> lG, map_some -> DV
open Option.some renaming inj -> bu
open PyProof.Rows renaming callWith_type1 -> du, callWith_builtin1 -> ky, IntsAre -> me, seqObj -> tP, slot_tuple_getitem -> vD, AllBare -> Cf, envOfC -> D9, oneType' -> Nd
open PyProof.Rows.F renaming plain_set_update_loop -> tV, entry_set_update_loop -> RI
open PySem renaming wpAny_bind -> ae, wpAny_pure -> aj, Shared -> ar, FuncData -> aJ, sizeLine -> bo, Program -> bE, wpAny_loadPart' -> bI, starEach -> bL, mainGlobals -> bQ, sizeLine_eq -> cx, wpAny_newObj_type -> cD, wpAny_call_entry -> cI, wpAny_holding -> cX, Around -> c8, tupleKind -> dv, compareOp -> dB, bootBuiltins -> dR, wpAny_dictEntries -> dZ, sysModules -> eu, wpAny_passesOwn -> eD, wpAny_callSpecial?_slot -> eY, codeAny_builtin -> fE, wpAny_Call_Name_kw -> fK, ReadsAll -> gy, SetTable -> gJ, DictEntry -> gK, mem_of_lookup -> hU, wpAny_pyIter_slot -> ie, wpAny_dictEpoch -> ig, wpAny_typeNameOfWhole_valiter -> iU, wpAny_typeNameOfWhole_keyiter -> iV, wpAny_forIn_list -> iW, wpAny_mono -> jc, wpAny_fieldsOf -> jd, backTo -> jr, wpAny_truthy_bool -> jX, wpAny_pyIter_list -> jY, plainId_quiet -> jZ, foldedSetIterable -> j0, binaryOp -> j3, wpAny_setField -> kN, wpAny_typeNameOf_valiter -> lD, wpAny_typeNameOf_keyiter -> lE, wpAny_execs_nil -> l8, rawInt -> ma, pyNext -> nh, wpAny_setState_of -> nQ, firstArgMember -> og, wpAny_isOneOf_valiter -> oq, codeAny_mono -> ot, wpAny_isInstance -> oT, wpAny_attempt -> pS, wpAny_of_eq -> qc, sliceBounds -> qe, richCompare -> qf, argBest -> qh, tupleKind_room_in1 -> si, NameKind -> sk, wpAny_seqItems -> sH, ofAClassStatement -> tQ, codeAny -> vQ, behindInMarks -> vR, attributeBase -> vS, pyIter -> wH, richCompare_meets_room -> xf, wpAny_updateSeq -> x3, wpAny_specialOf -> x4, wpAny_notOrdered_dict -> x5, letOwnedTupleGo -> x6, entryOfKey -> zZ, assignEach -> z8, codeAny_call_builtin -> Ah, wpAny_tryCatch -> AW, entryFor_alias -> AX, carriedByValue -> AY, wpAny_setEntries_of -> B7, wpAny_standAt -> D7, swapsWith -> D8, dictSetHashed -> Ea, wpAny_truthy_dict -> GS, wpAny_pyIter_enum -> GU, wpAny_assign_Name -> GV, searchCouldBeSeen -> GW, relabel -> GX, holding -> GY, callerA -> GZ, call_meets -> G0, wpAny_typeOf -> Ju, wpAny_callSpecialIfBound?_slot -> Jv, call -> Jw, wpAny_execs_cons -> Ls, wpAny_askSetting -> Lu, setField -> Nc, wpAny_letGo -> NG, wpAny_field -> NH, valueAt -> NI, unsupported -> NJ, spliced -> NK, size_of_entries -> NL, importedModules -> NN, hashByValue -> NO, codeAny_of_tree -> NP, assign -> NQ, Paired -> NR, Keyword -> NW, BindsTo -> NY, isSubtype_type -> Rq, isSubtype_stop -> Rt, evalArgs_none -> Ru, Walks -> Rv
open PySem.Around renaming under_plainId -> eS, under_plain -> RK
open PySem.AutoSeq1 renaming sub_tuple_tuple -> pM, sub_list_list -> Hj
open PySem.Builtin.Builtins renaming bindParams -> vL
open PySem.Builtin.Dict renaming showsAll -> ib, entriesForEmpty -> xi, updateFrom -> A2, mergeDict -> Ce, quietEq -> Ee, noArgs -> GL
open PySem.Builtin.Dict_items renaming ownsTuple -> e6
open PySem.Builtin.List renaming listTooLong -> jk, listLengthHint -> xD
open PySem.Builtin.Slice renaming slicePlaces -> iR, sliceAdjust -> mU, sliceApplied -> xC
open PySem.Builtin.Tuple renaming tupleExact -> jh, tupleCompareSizes -> tW
open PySem.Calls renaming spliced_cons -> kO, callWith_builtin -> sL, Name_function_global -> GK
open PySem.F renaming plainAttrs_list -> bR, type_list_append -> gE, slot_list_append -> gF, slot_list_index -> gT, slot_dict_valueiterator_next -> iB, plain_min_loop -> iQ, slot_dict_keyiterator_next -> jg, type_list_extend -> jU, slot_list_extend -> jV, type_list_index -> kd, slot_tuple_lt -> lK, plainAttrs_dict -> qj, args_tuple_lt_2 -> qk, entry_tuple_lt -> rP, slot_list_lt -> tR, args_dict_valueiterator_next_1 -> D5, entry_dict_valueiterator_next -> Ed, slot_dict_values -> GC, slot_dict_update -> GD, args_tuple_add_2 -> GF, slot_dict_valueiterator_iter -> GH, args_dict_keyiterator_next_1 -> GJ, slot_dict_items -> Hb, entry_tuple_add -> Hd, slot_dict_itemiterator_iter -> Hg, entry_min_loop -> Hh, entry_dict_keyiterator_next -> Hi, slot_tuple_add -> Jy, args_list_lt_2 -> Jz, slot_dict_keyiterator_iter -> JD, slot_set_iter -> Lw, entry_list_lt -> Lx, slot_dict_values_iter -> RH
open PySem.Heap renaming get?_push_of_some -> aE, lt_size -> aL, get?_push_size -> aT, get?_update_other -> cR, get?_update_self -> df, SameBut -> fM, size_push -> iE, size_update -> D4, get?_none_of_le -> RG
open PySem.Heap.SameBut renaming update -> cu, refl -> vK
open PySem.IsTupleKey renaming typeIs -> wJ
open PySem.NameKind renaming free -> j9
open PySem.Obj renaming data_mapFields -> eA, mapSeq -> iL, mapFields -> lg, isFreed_of_fields -> mT, data_mapDictKeys -> oh, putSet -> rQ, cls_mapFields -> rR
open PySem.Paired renaming length -> fG
open PySem.PassesOwn renaming never -> bZ
open PySem.PyData renaming depthAll -> cm, eqv -> tS
open PySem.SeqAt renaming items_eqAt -> mS, any_by_data -> qi, readOf -> AZ
open PySem.SetTable renaming below -> DU, fill -> GB
open PySem.Str renaming ofString -> mR
open PySem.Value renaming none -> dG, ref -> eE, type -> vB, isInt -> Eb
open PySem.W renaming Frag -> ah, mg_none_of -> cU, nsIn -> dH, kas_rev -> gi, kia_one -> iP, kas_place -> jD, fnOf -> jT, kas_desc -> k7, keepIn -> lF, findIn -> oU, kas_asc -> qg, KdlSrc -> vC, mg_of -> xg, kas_descPart -> x8, methodObj -> x9, OpenLaw -> B9, codeIn -> Ec, cellsFrom_some -> Jx, kas_tail3 -> NM, specialIn -> Rw
open PySem.W.KasT renaming ret -> vT
open Sum renaming inl -> B8, inr -> Ha
open True renaming intro -> iD
set_option Elab.async false
set_option linter.all false
set_option maxRecDepth 100000
set_option maxHeartbeats 4000000
set_option genSizeOf false
set_option genInjectivity false
set_option compiler.extract_closed false
namespace Internal
theorem Af(h:0=0:=by first | k_is | rfl):0=0:=h
theorem Al(h:0=0:=by intro _ _ _ _ h; repeat (first | (cases h.1; rfl) | (cases h <;> rename_i h))):0=0:=h
theorem Ao(h:0=0:=by first | exact .inl rfl | exact .inr rfl | exact .inr (.inl rfl) | exact .inr (.inr rfl) | assumption):0=0:=h
theorem Aw(h:0=0:=by with_unfolding_all rfl):0=0:=h
namespace L2
open PySem PySem.Spec PyProof.Rows
noncomputable abbrev Key:=Sum Int Str
noncomputable def BE:Key->Value->Bool
 | .inl k,v=>Eb k v
 | .inr x,v=>Value.isStrOf x v
noncomputable def abq(w:World):Key->Int
 | .inl k=>hashInt k
 | .inr x=>hashStr w x
theorem eB:∀ {k:Key} {v:Value},BE k v=true->(∃ i t,k=B8 i/\v=Value.int i t)\/(∃ x t,k=Ha x/\v=Value.str x t)
 | .inl i,v,h=>by
  obtain⟨t,e⟩:=Value.isInt_shape (k:=i) (v:=v) h;exact .inl ⟨i,t,rfl,e⟩
 | .inr x,v,h=>by
  obtain⟨t,e⟩:=Value.isStrOf_shape (x:=x) (v:=v) h;exact .inr ⟨x,t,rfl,e⟩
theorem Mi(i:Int)(t:Tok):BE (.inl i) (.int i t)=true:=by simp [BE,Eb]
theorem Mh(x:Str)(t:Tok):BE (.inr x) (.str x t)=true:=by simp [BE,Value.isStrOf]
theorem Pt(a b:Int):decide ((B8 a:Key)=B8 b)=(a == b):=by
 by_cases e:a=b
 ·subst e; simp
 ·have h:¬ (B8 a:Key)=B8 b:=fun q=>e (Sum.inl.inj q);rw [decide_eq_false h];exact(beq_eq_false_iff_ne.mpr e).symm
theorem Pq(a b:Str):decide ((Ha a:Key)=Ha b)=decide (a=b):=by
 by_cases e:a=b
 ·subst e; simp
 ·have h:¬ (Ha a:Key)=Ha b:=fun q=>e (Sum.inr.inj q);rw [decide_eq_false h,decide_eq_false e]
theorem VF(a:Int)(b:Str):decide ((B8 a:Key)=Ha b)=false:=decide_eq_false (fun q=>nomatch q)
theorem VD(a:Str)(b:Int):decide ((Ha a:Key)=B8 b)=false:=decide_eq_false (fun q=>nomatch q)
noncomputable def bX(prog:bE)(w:World):PySem.KeyKind prog w Key where
 is:=BE
 hash:=abq w
 inj:=fun v a b ha hb=>by
  rcases eB ha with ⟨i,t,rfl,rfl⟩ | ⟨x,t,rfl,rfl⟩
  ·rcases eB hb with ⟨j,u,rfl,e⟩ | ⟨y,u,rfl,e⟩
   ·injection e with e1 _; rw [e1]
   ·exact nomatch e
  ·rcases eB hb with ⟨j,u,rfl,e⟩ | ⟨y,u,rfl,e⟩
   ·exact nomatch e
   ·injection e with e1 _; rw [e1]
 byValue:=fun k v h=>by
  rcases eB h with ⟨i,t,rfl,rfl⟩ | ⟨x,t,rfl,rfl⟩ <;> rfl
 pyHash:=fun hv h=>by
  rcases eB hv with ⟨i,t,rfl,rfl⟩ | ⟨x,t,rfl,rfl⟩
  ·exact wpAny_pyHash_int h
  ·exact wpAny_pyHash_str h
 eqBool:=fun hu hv h=>by
  rcases eB hu with ⟨i,t,rfl,rfl⟩ | ⟨x,t,rfl,rfl⟩
  ·rcases eB hv with ⟨j,u,rfl,rfl⟩ | ⟨y,u,rfl,rfl⟩
   ·rw [Pt] at h; exact wpAny_eqBool_int h
   ·rw [VF] at h; exact SeqAt.EqAt.int_str i t y u _ _ _ _ h
  ·rcases eB hv with ⟨j,u,rfl,rfl⟩ | ⟨y,u,rfl,rfl⟩
   ·rw [VD] at h; exact SeqAt.EqAt.str_int x t j u _ _ _ _ h
   ·rw [Pq] at h; exact wpAny_eqBool_str h
 «strs»:=fun k x t v h=>by
  rcases eB h with ⟨i,u,rfl,e⟩ | ⟨y,u,rfl,e⟩
  ·exact nomatch e
  ·injection e with e1 _
   subst e1;cases v <;> rfl
theorem ET(prog:bE)(w:World)(i:Int)(t:Tok):(bX prog w).is (.inl i) (.int i t)=true:=Mi i t
theorem ES(prog:bE)(w:World)(x:Str)(t:Tok):(bX prog w).is (.inr x) (.str x t)=true:=Mh x t
inductive V where
 | cL | bl (b:Bool) | int (i:Int) | str (x:Str) | Wh (b:Array UInt8) | YV (b:UInt64) | ref (a:Addr) | ty (n:String)
noncomputable def RelV:V->Value->Prop
 | .cL,u=>u=dG
 | .bl b,u=>u=Value.bool b
 | .int i,u=>∃ t,u=Value.int i t
 | .str x,u=>∃ t,u=Value.str x t
 | .Wh b,u=>∃ t,u=Value.bytes b t
 | .YV b,u=>∃ t,u=Value.float b t
 | .ref a,u=>u=eE a
 | .ty n,u=>u=vB n
noncomputable abbrev Vals:List V->List Value->Prop:=NR RelV
theorem Vals.length{xs:List V}{us:List Value}(r:Vals xs us):xs.length=us.length:=fG r
theorem Vals.get:∀ {xs:List V} {us:List Value} {i:Nat} {x:V},Vals xs us->xs[i]?=some x->∃ u,us[i]?=some u/\RelV x u:=by
 intro xs us i x h;induction h generalizing i with
 | nil=>intro e; cases e
 | cons r t ih =>
  intro e;cases i with
  | zero=>cases e; exact⟨_,rfl,r⟩
  | succ i=>exact ih e
theorem Vals.set{x:V}{u:Value}(r:RelV x u):∀ {xs:List V} {us:List Value} (i:Nat),Vals xs us->Vals (xs.set i x) (us.set i u):=by
 intro xs us i h;induction h generalizing i with
 | nil=>rw [Cb,Cb]; exact .nil
 | cons q t ih =>
  cases i with
  | zero=>exact .cons r t
  | succ i=>exact .cons q (ih i)
theorem Vals.append:∀ {xs ys:List V} {us ws:List Value},Vals xs us->Vals ys ws->Vals (xs++ys) (us++ws):=by
 intro xs ys us ws h s;induction h with
 | nil=>exact s
 | cons r t ih=>exact .cons r ih
theorem Vals.take:∀ {xs:List V} {us:List Value} (n:Nat),Vals xs us->Vals (xs.take n) (us.take n):=by
 intro xs us n h;induction h generalizing n with
 | nil=>rw [z9,z9]; exact .nil
 | cons r t ih =>
  cases n with
  | zero=>exact .nil
  | succ n=>exact .cons r (ih n)
theorem Vals.drop:∀ {xs:List V} {us:List Value} (n:Nat),Vals xs us->Vals (xs.drop n) (us.drop n):=by
 intro xs us n h;induction h generalizing n with
 | nil=>rw [Aa,Aa]; exact .nil
 | cons r t ih =>
  cases n with
  | zero=>exact .cons r t
  | succ n=>exact ih n
noncomputable def AR:Option V->Option Value->Prop
 | some v,some u=>RelV v u
 | none,none=>True
 | _,_=>False
noncomputable def KV{κ:Type}:List (κ×V)->List (κ×Value)->Prop:=NR fun (p:κ×V) (q:κ×Value)=>p.1=q.1/\RelV p.2 q.2
noncomputable def kV:Key->V
 | .inl i=>.int i
 | .inr x=>.str x
inductive HO where
 | lst (xs:List V)
 | tup (xs:List V)
 | dK (kvs:List (Key×V)) | dT (kvs:List (List Key×V))
 | set (S:Int->Bool) (n:Nat)
 | ins (C dx:Addr) (fs:List (Str×V))
 | own (x:Addr)
 | xd (fs:List (Str×V))
 | met (f x:Addr)
 | Zu (lo hi:Int)
 | mP (o:Obj) (u:HO)
 | TC (q:Str)
 | ext (φ:Heap->Prop)
noncomputable abbrev Hp:=Addr->Option HO
noncomputable def upd(H:Hp)(a:Addr)(o:HO):Hp:=fun b=>if b=a then some o else H b
theorem cJ{H:Hp}{a:Addr}{o:HO}:upd H a o a=some o:=by unfold upd; rw [if_pos rfl]
theorem bN{H:Hp}{a b:Addr}{o:HO}(h:b≠a):upd H a o b=H b:=by unfold upd; rw [if_neg h]
theorem XR{H:Hp}{a b:Addr}{o u:HO}(h:H a=some o)(h':H b=some u)(d:o≠u):a≠b:=by
 intro e; subst e; rw [h] at h'; exact d (bu h')
theorem eF{H:Hp}{a b:Addr}{o:HO}(h:H a=some o)(h':H b=none):a≠b:=by
 intro e; subst e; rw [h] at h'; cases h'
section
variable (P:bE) (w:World)
noncomputable def gC(H:Hp)(h:Heap)(a:Addr):HO->Prop
 | .lst xs=>xs.length<=bo/\∃ (bw:List Value) (n:Nat),Vals xs bw/\h.get? a=some { cls:=.type "list",data:=.seq bw.toArray n }
 | .tup xs=>xs.length<=bo/\∃ bw:List Value,Vals xs bw/\IsTup h a bw.toArray
 | .dK kvs=>kvs.length<=bo/\(a == eu)=false/\∃ vs,KV kvs vs/\h.DictOf (bX P w) a vs
 | .dT kvs=>kvs.length<=bo/\(a == eu)=false/\∃ xs:List (List Key×Addr×Value),
   NR (fun (p:List Key×V) (q:List Key×Addr×Value)=>p.1=q.1/\H q.2.1=some (.tup (p.1.map kV))/\RelV p.2 q.2.2) kvs xs /\
   ∃ o es ep,h.get? a=some o/\o.ExactDict/\o.data=.dict es ep/\es.toList=xs.map (zZ (dv (bX P w)))/\(xs.map (·.1)).Nodup
 | .set S n=>h.SetOf (intKind P w) a S n
 | .ins C dx fs=>H dx=some (.own a)/\fs.length<=1000/\dx≠a/\h.get? a=some (PySem.W.instObj C dx) /\
   ∃ mA,h.Ns1 dx mA/\(∀ f,AR (fs.lookup f) (mA f))/\PySem.Within mA (fs.map (·.1))
 | .own _=>∃ o,h.get? a=some o
 | .xd fs=>∃ mA,h.Ns1 a mA/\∀ f,AR (fs.lookup f) (mA f)
 | .Zu lo hi=>∃ t u v,h.get? a=some { cls:=.type "range",data:=.fields #[.int lo t,.int hi u,.int 1 v] }
 | .mP o u=>h.get? a=some o/\gC H h a u
 | .TC q=>∃ ps,h.get? a=some { cls:=.none,data:=.fields ps }/\TriplesOk ps.toList/\∀ pos cv,codeAmong pos ps.toList=some cv->∃ c',cv=.ref c'/\H c'=some (.own a)/\h.CodeRec (.ref c') q
 | .met f x=>h.get? a=some (x9 (.ref f) (.ref x))
 | .ext φ=>φ h/\(∃ o,h.get? a=some o)/\∀ h1 h2:Heap,φ h1->(∀ o,h1.get? a=some o->h2.get? a=some o)->φ h2
noncomputable def tO(H:Hp)(h:Heap):Prop:=∀ a o,H a=some o->gC P w H h a o
end
section
variable {P:bE} {w:World} {H H':Hp} {h h':Heap} {a:Addr} {o:HO}
theorem gC.lt(x:gC P w H h a o):a < h.objs.size:=by
 cases o with
 | lst xs=>obtain⟨_,_,_,_,e⟩:=x; exact aL e
 | tup xs=>obtain⟨_,_,_,p⟩:=x; exact p.lt
 | dK kvs=>obtain⟨_,_,_,_,o,_,_,e,_⟩:=x; exact aL e
 | dT kvs=>obtain⟨_,_,_,_,o,_,_,e,_⟩:=x; exact aL e
 | set S n=>obtain⟨o,_,_,_,e,_⟩:=x; exact aL e
 | ins C dx fs=>obtain⟨_,_,_,e,_⟩:=x; exact aL e
 | own y=>obtain⟨_,e⟩:=x; exact aL e
 | xd fs=>obtain⟨_,⟨_,_,_,e,_⟩,_⟩:=x; exact aL e
 | Zu lo hi=>obtain⟨_,_,_,e⟩:=x; exact aL e
 | mP ob u=>obtain⟨e,_⟩:=x; exact aL e
 | TC q=>obtain⟨_,e,_⟩:=x; exact aL e
 | met f y=>exact aL (show h.get? a=some _ from x)
 | ext φ=>obtain⟨_,⟨_,e⟩,_⟩:=x; exact aL e
theorem Paired.XU{α β:Type}{F G:α->β->Prop}:∀ {Vu:List α} {Vt:List β},NR F Vu Vt->(∀ a b,F a b->G a b)->NR G Vu Vt:=by
 intro Vu Vt h f;induction h with
 | nil=>exact .nil
 | cons r t ih=>exact .cons (f _ _ r) ih
theorem gC.mW(x:gC P w H h a o)(k:∀ b u,(b=a\/H b=some (.own a))->h.get? b=some u->h'.get? b=some u)
  (ho:∀ b,H b=some (.own a)->H' b=some (.own a)) (ht:∀ b xs,H b=some (.tup xs)->H' b=some (.tup xs)):gC P w H' h' a o:=by
 induction o with
 | lst xs=>obtain⟨z,bw,n,r,e⟩:=x; exact⟨z,bw,n,r,k _ _ (.inl rfl) e⟩
 | tup xs=>obtain⟨z,bw,r,ob,e,c⟩:=x; exact⟨z,bw,r,ob,k _ _ (.inl rfl) e,c⟩
 | dK kvs=>obtain⟨z,y,vs,r,ob,es,ep,e,c⟩:=x; exact⟨z,y,vs,r,ob,es,ep,k _ _ (.inl rfl) e,c⟩
 | dT kvs =>
  obtain⟨z,y,xs,r,ob,es,ep,e,c⟩:=x;exact⟨z,y,xs,Paired.XU r fun p q z=>⟨z.1,ht _ _ z.2.1,z.2.2⟩,ob,es,ep,k _ _ (.inl rfl) e,c⟩
 | set S n=>obtain⟨ob,es,ep,t,e,c⟩:=x; exact⟨ob,es,ep,t,k _ _ (.inl rfl) e,c⟩
 | ins C dx fs =>
  obtain⟨d,z,ne,e,mA,⟨od,es,ep,e2,c⟩,r⟩:=x;exact⟨ho _ d,z,ne,k _ _ (.inl rfl) e,mA,⟨od,es,ep,k _ _ (.inr d) e2,c⟩,r⟩
 | own y=>obtain⟨ob,e⟩:=x; exact⟨ob,k _ _ (.inl rfl) e⟩
 | xd fs=>obtain⟨mA,⟨od,es,ep,e,c⟩,r⟩:=x; exact⟨mA,⟨od,es,ep,k _ _ (.inl rfl) e,c⟩,r⟩
 | Zu lo hi=>obtain⟨t,u,v,e⟩:=x; exact⟨t,u,v,k _ _ (.inl rfl) e⟩
 | mP ob u ih=>obtain⟨e,q⟩:=x; exact⟨k _ _ (.inl rfl) e,ih q⟩
 | TC q =>
  obtain⟨ps,e,t,z⟩:=x;refine⟨ps,k _ _ (.inl rfl) e,t,fun pos cv y=>?_⟩;obtain⟨c',e1,e2,c2,oc,vs,tq,e3,e4,r⟩:=z pos cv y;cases e3;exact⟨c',e1,ho _ e2,c',oc,vs,tq,rfl,k _ _ (.inr e2) e4,r⟩
 | met f y =>
  have e:h.get? a=some (x9 (.ref f) (.ref y)):=x;show h'.get? a=some (x9 (.ref f) (.ref y));exact k a _ (.inl rfl) e
 | ext φ=>obtain⟨p,⟨o,e⟩,st⟩:=x; exact⟨st _ _ p fun o q=>k _ _ (.inl rfl) q,⟨o,k _ _ (.inl rfl) e⟩,st⟩
theorem tO.lt(x:tO P w H h)(e:H a=some o):a < h.objs.size:=(x a o e).lt
theorem tO.fresh(x:tO P w H h)(e:h.objs.size<=a):H a=none:=by
 cases q:H a with
 | none=>rfl
 | some u=>exact absurd (bJ (x.lt q) e) (eU _)
theorem tO.kept(x:tO P w H h)(k:∀ b u,h.get? b=some u->h'.get? b=some u):tO P w H h':=fun a o e =>
 (x a o e).mW (fun b u _ q=>k b u q) (fun _ q=>q) fun _ _ q=>q
theorem tO.laid(x:tO P w H h)(k:∀ b u,h.get? b=some u->h'.get? b=some u)(hp:h.objs.size<=a)(new:gC P w (upd H a o) h' a o):tO P w (upd H a o) h':=fun b u e=>by
 have hn:=x.fresh hp;by_cases hb:b=a
 ·subst hb; rw [cJ] at e; cases e; exact new
 ·rw [bN hb] at e;exact(x b u e).mW (fun c v _ q=>k c v q) (fun c q=>by rw [bN (eF q hn)]; exact q) fun c xs q=>by rw [bN (eF q hn)]; exact q
end
noncomputable def Rd(H:Hp)(a:Addr)(u:HO):Prop:=H a=some u\/∃ o,H a=some (.mP o u)
theorem Rd.ok{P:bE}{w:World}{H:Hp}{h:Heap}{a:Addr}{u:HO}(r:Rd H a u)(x:tO P w H h):gC P w H h a u:=by
 rcases r with r | ⟨o,r⟩
 ·exact x a u r
 ·obtain⟨_,q⟩:=x a _ r;exact q
noncomputable def Zi:Option HO->Prop
 | some (.lst _)=>True
 | some (.dK _)=>True
 | some (.dT _)=>True
 | some (.set _ _)=>True
 | some (.ins _ _ _)=>True
 | some (.ext _)=>True
 | _=>False
section
variable {P:bE} {w:World} {H:Hp} {h h':Heap} {x e:Addr} {o':HO}
theorem tO.write(ok:tO P w H h)(mu:Zi (H x))(he:e=x\/H e=some (.own x))(k:∀ b u,b≠e->h.get? b=some u->h'.get? b=some u)(Nu:∃ u,h'.get? e=some u)
  (new:gC P w (upd H x o') h' x o'):tO P w (upd H x o') h':=fun b u q=>by
 have XI:∀ c y,H c=some (.own y)->c≠x:=fun c y r z=>by subst z; rw [r] at mu; exact mu
 have abb:∀ c xs,H c=some (.tup xs)->c≠x:=fun c xs r z=>by subst z; rw [r] at mu; exact mu
 by_cases hb:b=x
 ·subst hb; rw [cJ] at q; cases q; exact new
 ·rw [bN hb] at q;by_cases VU:b=e
  ·have q':H b=some (.own x):=by
    rcases he with z | z
    ·exact absurd (VU.trans z) hb
    ·rw [VU]; exact z
   rw [q] at q'; cases q';obtain⟨v,hv⟩:=Nu;exact⟨v,by rw [VU]; exact hv⟩
  ·refine(ok b u q).mW (fun c v hc r=>k c v ?_ r) (fun c r=>by rw [bN (XI c b r)]; exact r) fun c xs r=>by rw [bN (abb c xs r)]; exact r
   rcases hc with rfl | hc
   ·exact VU
   ·rintro rfl;rcases he with z | z
    ·exact XI c b hc z
    ·rw [hc] at z; cases z; exact hb rfl
end
structure Un(fs ex:List Addr)(H H':Hp)(h h':Heap):Prop where
 keep:∀ b o,h.get? b=some o->H b=none->b∉fs->b∉ex->h'.get? b=some o
 slot:∀ b o,h.get? b=some o->H b=none->b∈fs->b∉ex->∃ sl,h'.get? b=some { o with slots:=sl }
 free:∀ b o,h.get? b=some o->H b=none->b∉ex->H' b=none
 there:∀ b o,h.get? b=some o->b∉ex->∃ o',h'.get? b=some o'
 vX:∀ b xs,H b=some (.tup xs)->H' b=some (.tup xs)
 uW:∀ b o u,H b=some (.mP o u)->H' b=some (.mP o u)
 vY:∀ b q,H b=some (.TC q)->H' b=some (.TC q)
section
variable {fs fs' ex ex':List Addr} {H H1 H2:Hp} {h h1 h2 h':Heap} {a x e:Addr} {o:HO}
theorem Un.any(u:Un fs ex H H1 h h1){b:Addr}{ob:Obj}(q:h.get? b=some ob)(n:H b=none)(hx:b∉ex):∃ sl,h1.get? b=some { ob with slots:=sl }:=by
 by_cases hb:b∈fs
 ·exact u.slot b ob q n hb hx
 ·exact⟨ob.slots,u.keep b ob q n hb hx⟩
theorem Un.kept(k:∀ b u,h.get? b=some u->h'.get? b=some u):Un fs ex H H h h' :=
 ⟨fun b ob q _ _ _=>k b ob q,fun b ob q _ _ _=>⟨ob.slots,k b ob q⟩,fun _ _ _ n _=>n,fun b ob q _=>⟨ob,k b ob q⟩,fun _ _ q=>q,fun _ _ _ q=>q,fun _ _ q=>q⟩
theorem Un.refl:Un fs ex H H h h:=Un.kept fun _ _ q=>q
theorem Un.laid(k:∀ b u,h.get? b=some u->h'.get? b=some u)(hp:h.objs.size<=a)(hn:H a=none):Un fs ex H (upd H a o) h h' where
 keep:=fun b u q _ _ _=>k b u q
 slot:=fun b u q _ _ _=>⟨u.slots,k b u q⟩
 free:=fun b u q n _=>by rw [bN (bB (bJ (aL q) hp))]; exact n
 there:=fun b u q _=>⟨u,k b u q⟩
 vX:=fun b xs q=>by rw [bN (eF q hn)]; exact q
 uW:=fun b u xs q=>by rw [bN (eF q hn)]; exact q
 vY:=fun b ps q=>by rw [bN (eF q hn)]; exact q
theorem Un.write(mu:Zi (H x))(he:e=x\/H e=some (.own x))(k:∀ b u,b≠e->h.get? b=some u->h'.get? b=some u)(Nu:∃ u,h'.get? e=some u):Un fs ex H (upd H x o) h h':=by
 have hx:∀ b,H b=none->b≠x:=fun b n z=>by subst z; rw [n] at mu; exact mu
 have hb:∀ b,H b=none->b≠e:=fun b n z=>by
  subst z;rcases he with r | r
  ·exact hx b n r
  ·rw [n] at r; cases r
 have hm:∀ b u,H b=some u->¬ Zi (some u)->b≠x:=fun b u q nm z=>by subst z; rw [q] at mu; exact nm mu
 refine⟨fun b u q n _ _=>k b u (hb b n) q,fun b u q n _ _=>⟨u.slots,k b u (hb b n) q⟩,fun b u q n _=>by rw [bN (hx b n)]; exact n,fun b u q _=>?_,
  fun b xs q=>by rw [bN (hm b _ q fun z=>z)]; exact q,fun b u xs q=>by rw [bN (hm b _ q fun z=>z)]; exact q,fun b ps q=>by rw [bN (hm b _ q fun z=>z)]; exact q⟩
 by_cases VU:b=e
 ·subst VU; exact Nu
 ·exact⟨u,k b u VU q⟩
end
noncomputable def Zo(h:Heap)(H:Hp):List Addr:=(aU h.objs.size).filter fun a=>(H a).isSome
noncomputable def C7(h:Heap)(H:Hp):Heap:=PySem.W.hideAll h (Zo h H)
theorem Mq(h:Heap)(H:Hp):(C7 h H).objs.size=h.objs.size:=PySem.W.hideAll_size _ _
theorem PS{h:Heap}{H:Hp}{b:Addr}{o:Obj}(e:h.get? b=some o)(n:H b=none):(C7 h H).get? b=some o :=
 PySem.W.hideAll_get _ e fun hm=>by
  have q:(H b).isSome=true:=(List.mem_filter.mp hm).2;rw [n] at q; simp at q
theorem Su{h:Heap}{H:Hp}{b:Addr}{o:Obj}(e:(C7 h H).get? b=some o):h.get? b=some o/\H b=none:=by
 have e':h.get? b=some o:=PySem.W.of_hideAll (Zo h H) e;refine⟨e',?_⟩;cases q:H b with
 | none=>rfl
 | some x =>
  have hm:b∈Zo h H:=List.mem_filter.mpr ⟨List.mem_range.mpr (aL e'),by simp [q]⟩;have z:(C7 h H).get? b=none:=PySem.W.hideAll_none (Zo h H) hm;rw [z] at e; cases e
noncomputable def pK(g h:Heap)(L:Addr):List (Addr×Obj):=(aU h.objs.size).filterMap fun a=>if a=L\/(g.get? a).isSome=true then none else (h.get? a).map fun o=>(a,o)
theorem nF{g h:Heap}{L a:Addr}{o:Obj}(h1:a≠L)(h2:g.get? a=none)(h3:h.get? a=some o):(a,o)∈pK g h L :=
 List.mem_filterMap.mpr ⟨a,List.mem_range.mpr (aL h3),by simp [h1,h2,h3]⟩
theorem yM{g h:Heap}{L:Addr}{p:Addr×Obj}(hp:p∈pK g h L):p.1≠L/\g.get? p.1=none/\h.get? p.1=some p.2:=by
 obtain⟨b,_,e⟩:=List.mem_filterMap.mp hp;split at e
 ·cases e
 ·rename_i hn;cases q:h.get? b with
  | none=>rw [q] at e; simp at e
  | some u =>
   rw [q] at e;simp only [DV,Option.some.injEq] at e;subst e;refine⟨fun z=>hn (.inl z),?_,q⟩;show g.get? b=none;cases r:g.get? b with
   | none=>rfl
   | some v=>exact(hn (.inr (by simp [r]))).elim
noncomputable def rest(g h:Heap)(L d:Addr):List (Addr×Obj):=(pK g h L).filter fun p=>decide (p.1≠d)
theorem yN{g h:Heap}{L:Addr}:News g L h (pK g h L):=fun p hp=>let ⟨a,b,c⟩:=yM hp; ⟨c,a,b⟩
structure Mod(K:ah)(mg:Str->Option Value)(base:Heap):Prop where
 VC:K.In base
 glob:base.Ns bQ mg
 blt:∃ mb,base.Ns builtinsNs mb/\∀ x:Str,x≠"__name__"->mb x=dR x
 nolimit:base.NoLimit
structure Cx where
 prog:bE
 w:World
 K:ah
 mg:Str->Option Value
 base:Heap
 A:c8
 N:List Str
 mV:ar
 Q0:Hp
 env:Env
 outer:List Env
 stack:List Env
 ex:List Addr
 fn:Str->Bool
 calm:Bool
 pn:List (Addr×Obj)
 xe:Value->ar->Prop
noncomputable def Nv(l:List Env):List Addr:=l.filterMap (·.frame)
noncomputable abbrev Cx.fs(X:Cx):List Addr:=Nv X.outer
noncomputable def ZX(sc:Scope)(x:Str):Prop:=sc.names.lookup x=some .local\/sc.names.lookup x=some .cell\/sc.names.lookup x=some .free
noncomputable def Loc(sc:Scope)(x:Str):Prop:=sc.names.lookup x=some .local\/sc.names.lookup x=some .cell
noncomputable def Look(env:Env)(h:Heap)(m:Str->Option Value)(x:Str)(u:Value):Prop :=
 (env.kindOf x=some .local/\m x=some u)\/((env.kindOf x=some .cell\/env.kindOf x=some .free)/\∃ c,env.cells.lookup x=some c/\h.IsCell c (some u))
structure Cx.Ok(X:Cx):Prop where
 mod:Mod X.K X.mg X.base
 kind:X.env.scope.kind=.function
 glob:X.env.globals=bQ
 blt:X.env.builtins=builtinsNs
 above:X.mV.heap.objs.size<=X.env.locals
 inj:∀ x y c,X.env.cells.lookup x=some c->X.env.cells.lookup y=some c->x=y
 has:∀ x,(X.env.kindOf x=some .cell\/X.env.kindOf x=some .free)->∃ c,X.env.cells.lookup x=some c
 Y7:∀ x c,X.fn x=true->X.env.cells.lookup x=some c->X.mV.heap.objs.size<=c
 hd:X.calm=true->X.A.handled=none
 frames:X.A.frames=some X.stack
 Zr:X.stack=X.outer\/(X.stack=X.env :: X.outer/\X.env.frame=some X.env.locals)
 ZT:∀ b∈X.ex,b≠X.env.locals/\∀ x c,X.env.cells.lookup x=some c->c≠b
 bs:∀ b o,X.base.get? b=some o->X.mV.heap.get? b=some o/\X.Q0 b=none
 Tn:X.base.objs.size<=X.mV.heap.objs.size
 L8:∀ b o,X.base.get? b=some o->b∉X.ex
 Qj:∀ b∈X.ex,b∉X.fs
 zj:X.mV.heap.FunFrames X.base X.outer
 WM:∀ b∈X.fs,X.Q0 b=none
structure Inv(X:Cx)(pins:List (Addr×Obj))(σ:List (Option V))(H:Hp)(s:ar):Prop where
 ok:X.Ok
 os:s.os=X.mV.os
 bare:Cf s.gens
 base:Un X.fs X.ex X.Q0 H X.mV.heap s.heap
 loc:∃ m,s.heap.Ns X.env.locals m/\∀ (i:Nat) (x:Str) (v:V),X.N[i]?=some x->σ[i]?=some (some v)->ZX X.env.scope x->∃ u,RelV v u/\Look X.env s.heap m x u
 cell:∀ x c,X.env.cells.lookup x=some c->∃ v,s.heap.IsCell c v
 free:H X.env.locals=none
 mG:∀ x c,X.env.cells.lookup x=some c->H c=none
 pin:∀ p∈X.pn++pins,s.heap.get? p.1=some p.2/\H p.1=none/\p.1≠X.env.locals/\p.1∉X.fs/\∀ v,p.2.data≠.cell v
 cz:tO X.prog X.w H s.heap
 len:σ.length=X.N.length
section
variable {X:Cx} {pins:List (Addr×Obj)} {σ:List (Option V)} {H H':Hp} {s:ar} {h':Heap}
theorem Cx.Ok.abe(ok:X.Ok){b:Addr}{o:Obj}(e:X.base.get? b=some o):b∉X.fs:=fun hb=>by
 have:=(ok.zj.mem hb).1;rw [e] at this; cases this
theorem Inv.bs(I:Inv X pins σ H s):∀ b o,X.base.get? b=some o->s.heap.get? b=some o/\H b=none:=fun b o e =>
 ⟨I.base.keep b o (I.ok.bs b o e).1 (I.ok.bs b o e).2 (I.ok.abe e) (I.ok.L8 b o e),I.base.free b o (I.ok.bs b o e).1 (I.ok.bs b o e).2 (I.ok.L8 b o e)⟩
theorem Inv.bk(I:Inv X pins σ H s):∀ b o,X.base.get? b=some o->s.heap.get? b=some o:=fun b o e=>(I.bs b o e).1
theorem Inv.mod(I:Inv X pins σ H s):Mod X.K X.mg X.base:=I.ok.mod
theorem Inv.KC(I:Inv X pins σ H s):X.K.In s.heap:=I.ok.mod.VC.keeps I.bk
theorem Inv.fr(I:Inv X pins σ H s):∃ m,Fr X.base X.env.locals s.heap m :=
 let ⟨m,hn,_⟩:=I.loc
 ⟨m,hn,I.bk,cC I.ok.Tn I.ok.above⟩
theorem Inv.lt(I:Inv X pins σ H s):X.env.locals < s.heap.objs.size:=let ⟨_,hn,_⟩:=I.loc; hn.lt
theorem Inv.sz(I:Inv X pins σ H s):X.mV.heap.objs.size<=s.heap.objs.size:=cC I.ok.above (DW I.lt)
theorem Inv.abd(I:Inv X pins σ H s){a:Addr}(h:s.heap.objs.size<=a):a∉X.fs:=fun hb=>by
 obtain⟨_,o,ho,_⟩:=I.ok.zj.mem hb;exact absurd (bJ (aL ho) (cC I.sz h)) (eU _)
theorem Inv.Wa(I:Inv X pins σ H s):∀ x c,X.env.cells.lookup x=some c->c≠X.env.locals:=fun x c e z=>by
 obtain⟨v,o,ho,hd⟩:=I.cell x c e;obtain⟨m,⟨o',es,ep,Mo,xS,_⟩,_⟩:=I.loc;rw [z,Mo] at ho; cases ho; rw [xS] at hd; cases hd
theorem Inv.zj(I:Inv X pins σ H s):s.heap.FunFrames X.base X.outer:=by
 have all:∀ (l:List Env),(∀ b∈Nv l,b∈X.fs)->X.mV.heap.FunFrames X.base l->s.heap.FunFrames X.base l:=by
  intro l;induction l with
  | nil=>intro _ _; trivial
  | cons env r ih =>
   intro hs hl;obtain⟨hk,⟨L,o,hf,hn,ho,hd⟩,hr⟩:=hl;have hL:L∈X.fs:=hs L (by unfold Nv; rw [xB,hf]; exact aB);obtain⟨sl,e⟩:=I.base.slot L o ho (I.ok.WM L hL) hL fun z=>I.ok.Qj L z hL;exact⟨hk,⟨L,_,hf,hn,e,hd⟩,ih (fun b hb=>hs b (by unfold Nv; rw [xB,hf]; exact ao _ hb)) hr⟩
 exact all X.outer (fun _ hb=>hb) I.ok.zj
theorem Inv.stack(I:Inv X pins σ H s):s.heap.FunFrames X.base X.stack:=by
 rcases I.ok.Zr with e | ⟨e,hf⟩
 ·rw [e]; exact I.zj
 ·rw [e];obtain⟨m,hn,_⟩:=I.loc;refine .cons (by rw [I.ok.kind]; decide) hf hn ?_ I.zj;exact RG (cC I.ok.Tn I.ok.above)
theorem Inv.Hz(I:Inv X pins σ H s):∀ b∈Nv X.stack,b∈X.env.locals :: X.fs:=fun b hb=>by
 rcases I.ok.Zr with e | ⟨e,hf⟩
 ·rw [e] at hb; exact ao _ hb
 ·rw [e] at hb;unfold Nv at hb;rw [xB,hf] at hb;exact hb
theorem Inv.JO(I:Inv X pins σ H s):∀ b∈Nv X.stack,H b=none:=fun b hb=>by
 rcases List.mem_cons.mp (I.Hz b hb) with e | hb
 ·rw [e]; exact I.free
 ·obtain⟨_,o,ho,_⟩:=I.ok.zj.mem hb;exact I.base.free b o ho (I.ok.WM b hb) fun z=>I.ok.Qj b z hb
theorem Inv.step{g':Array GenState}{t':Nat}{d':Drawn}{ch:List Addr}(I:Inv X pins σ H s)
  (Ua:∀ b∈ch,(b∈X.ex\/X.mV.heap.objs.size<=b)/\b≠X.env.locals/\(∀ x c,X.env.cells.lookup x=some c->c≠b)/\∀ p∈X.pn++pins,p.1≠b)
  (keep:∀ b o,b≠X.env.locals->b∉X.fs->b∉ch->s.heap.get? b=some o->H b=none->h'.get? b=some o)
  (slot:∀ b o,b≠X.env.locals->b∈X.fs->b∉ch->s.heap.get? b=some o->H b=none->∃ sl,h'.get? b=some { o with slots:=sl }) (free:∀ b o,b∉ch->s.heap.get? b=some o->H b=none->H' b=none)
  (there:∀ b o,b∉ch->s.heap.get? b=some o->∃ o',h'.get? b=some o')
  (vX:∀ b xs,H b=some (.tup xs)->H' b=some (.tup xs)) (uW:∀ b o u,H b=some (.mP o u)->H' b=some (.mP o u)) (vY:∀ b q,H b=some (.TC q)->H' b=some (.TC q))
  (ns:∀ m,s.heap.Ns X.env.locals m->h'.Ns X.env.locals m) (cz:tO X.prog X.w H' h') (hg:Cf g') :
  Inv X pins σ H' { s with heap:=h',gens:=g',drawn:=d',toks:=t' }:=by
 have neL:∀ b o,X.mV.heap.get? b=some o->b≠X.env.locals:=fun b o e=>bB (bJ (aL e) I.ok.above);have Zz:∀ b o,X.mV.heap.get? b=some o->b∉X.ex->b∉ch:=fun b o e hx hb=>by
  rcases (Ua b hb).1 with z | z
  ·exact hx z
  ·exact absurd (bJ (aL e) z) (eU _)
 have cellK:∀ x c,X.env.cells.lookup x=some c->∀ v,s.heap.IsCell c v->h'.IsCell c v:=fun x c e v ⟨o,ho,hd⟩=>by
  have XS:c∉ch:=fun z=>(Ua c z).2.2.1 x c e rfl;by_cases hc:c∈X.fs
  ·obtain⟨sl,q⟩:=slot c o (I.Wa x c e) hc XS ho (I.mG x c e);exact⟨_,q,hd⟩
  ·exact⟨o,keep c o (I.Wa x c e) hc XS ho (I.mG x c e),hd⟩
 refine⟨I.ok,I.os,hg,⟨fun b o e n hb hx=>?_,fun b o e n hb hx=>?_,fun b o e n hx=>?_,fun b o e hx=>?_,fun b xs e=>vX b xs (I.base.vX b xs e),fun b o xs e=>uW b o xs (I.base.uW b o xs e),fun b ps e=>?_⟩,?_,fun x c e=>?_,?_,fun x c e=>?_,fun p hp=>?_,cz,I.len⟩
 ·exact keep b o (neL b o e) hb (Zz b o e hx) (I.base.keep b o e n hb hx) (I.base.free b o e n hx)
 ·obtain⟨sl,e1⟩:=I.base.slot b o e n hb hx;obtain⟨sl',e2⟩:=slot b _ (neL b o e) hb (Zz b o e hx) e1 (I.base.free b o e n hx);exact⟨sl',e2⟩
 ·obtain⟨o',e1⟩:=I.base.there b o e hx;exact free b o' (Zz b o e hx) e1 (I.base.free b o e n hx)
 ·obtain⟨o',e1⟩:=I.base.there b o e hx;exact there b o' (Zz b o e hx) e1
 ·exact vY b _ (I.base.vY b ps e)
 ·obtain⟨m,hn,hl⟩:=I.loc;refine⟨m,ns m hn,fun i x v e1 e2 e3=>?_⟩;obtain⟨u,r,l⟩:=hl i x v e1 e2 e3;refine⟨u,r,?_⟩;rcases l with l | ⟨k,c,e,z⟩
  ·exact .inl l
  ·exact .inr ⟨k,c,e,cellK x c e _ z⟩
 ·obtain⟨v,z⟩:=I.cell x c e;exact⟨v,cellK x c e v z⟩
 ·obtain⟨m,⟨o,_,_,ho,_⟩,_⟩:=I.loc;exact free _ o (fun z=>(Ua _ z).2.1 rfl) ho I.free
 ·obtain⟨v,o,ho,hd⟩:=I.cell x c e;exact free c o (fun z=>(Ua c z).2.2.1 x c e rfl) ho (I.mG x c e)
 ·obtain⟨e,n,ne,nf,d⟩:=I.pin p hp;have XS:p.1∉ch:=fun z=>(Ua p.1 z).2.2.2 p hp rfl;exact⟨keep p.1 p.2 ne nf XS e n,free p.1 p.2 XS e n,ne,nf,d⟩
theorem Inv.un{t':Nat}(I:Inv X pins σ H s)(u:Un X.fs [] H H' s.heap h')(cz:tO X.prog X.w H' h'):Inv X pins σ H' { s with heap:=h',toks:=t' }:=by
 obtain⟨m,⟨o,es,ep,ho,r⟩,_⟩:=id I.loc;obtain⟨sl,hL⟩:=u.any ho I.free (by simp);exact I.step (g':=s.gens) (d':=s.drawn) (ch:=[]) (fun _ z=>nomatch z) (fun b o _ hb _ e n=>u.keep b o e n hb (by simp)) (fun b o _ hb _ e n=>u.slot b o e n hb (by simp)) (fun b o _ e n=>u.free b o e n (by simp)) (fun b o _ e=>u.there b o e (by simp)) u.vX u.uW u.vY (fun m' hm=>by
  obtain⟨o',es',YX,Mo,r'⟩:=hm;rw [ho] at Mo; cases Mo;exact⟨_,es',YX,hL,r'⟩) cz I.bare
theorem Inv.call{g':Array GenState}{t':Nat}{d':Drawn}{ch:List Addr}(I:Inv X pins σ H s)(u:Un (Nv X.stack) ch H H' s.heap h')(cz:tO X.prog X.w H' h')(hg:Cf g')
  (Ua:∀ b∈ch,(b∈X.ex\/X.mV.heap.objs.size<=b)/\b≠X.env.locals/\(∀ x c,X.env.cells.lookup x=some c->c≠b)/\∀ p∈X.pn++pins,p.1≠b) :
  Inv X pins σ H' { s with heap:=h',gens:=g',drawn:=d',toks:=t' }:=by
 obtain⟨m,⟨o,es,ep,ho,r⟩,_⟩:=id I.loc;obtain⟨sl,hL⟩:=u.any ho I.free fun z=>(Ua _ z).2.1 rfl;exact I.step (ch:=ch) Ua (fun b o hL hb hc e n=>u.keep b o e n (fun z=>(List.mem_cons.mp (I.Hz b z)).elim hL hb) hc) (fun b o _ _ hc e n=>u.any e n hc) (fun b o hc e n=>u.free b o e n hc) (fun b o hc e=>u.there b o e hc) u.vX u.uW u.vY (fun m' hm=>by
  obtain⟨o',es',YX,Mo,r'⟩:=hm;rw [ho] at Mo; cases Mo;exact⟨_,es',YX,hL,r'⟩) cz hg
theorem Inv.turned{t':Nat}{it:Addr}(I:Inv X pins σ H s)(k:∀ b o,b≠it->s.heap.get? b=some o->h'.get? b=some o)(hn:H it=none)(hL:it≠X.env.locals)
  (h1:it∈X.ex\/X.mV.heap.objs.size<=it) (h2:∀ x c,X.env.cells.lookup x=some c->c≠it) (h3:∀ p∈X.pn++pins,p.1≠it):Inv X pins σ H { s with heap:=h',toks:=t' }:=by
 have nit:∀ b u,H b=some u->b≠it:=fun b u e z=>by rw [z,hn] at e; cases e
 refine I.step (g':=s.gens) (d':=s.drawn) (ch:=[it]) (fun b hb=>?_) (fun b o _ _ hc e _=>k b o (fun z=>hc (by simp [z])) e) (fun b o _ _ hc e _=>⟨o.slots,k b o (fun z=>hc (by simp [z])) e⟩) (fun _ _ _ _ n=>n)
  (fun b o hc e=>⟨o,k b o (fun z=>hc (by simp [z])) e⟩) (fun _ _ e=>e) (fun _ _ _ e=>e) (fun _ _ e=>e) (fun m hm=>?_) (fun b u e=>?_) I.bare
 ·have e:b=it:=by simpa using hb
  subst e;exact⟨h1,hL,h2,h3⟩
 ·obtain⟨o,es,ep,ho,r⟩:=hm;exact⟨o,es,ep,k _ o (cW hL) ho,r⟩
 ·refine(I.cz b u e).mW (fun c v hc q=>k c v ?_ q) (fun _ q=>q) fun _ _ q=>q;rcases hc with z | z
  ·rw [z]; exact nit b u e
  ·exact nit c _ z
theorem Inv.tok(I:Inv X pins σ H s)(t:Nat):Inv X pins σ H { s with toks:=t }:=I.un (h':=s.heap) (t':=t) Un.refl I.cz
theorem Inv.kept{t':Nat}(I:Inv X pins σ H s)(k:∀ b u,s.heap.get? b=some u->h'.get? b=some u):Inv X pins σ H { s with heap:=h',toks:=t' }:=I.un (Un.kept k) (I.cz.kept k)
theorem Inv.laid{a:Addr}{o:HO}{t':Nat}(I:Inv X pins σ H s)(k:∀ b u,s.heap.get? b=some u->h'.get? b=some u)(hp:s.heap.objs.size<=a)(new:gC X.prog X.w (upd H a o) h' a o) :
  Inv X pins σ (upd H a o) { s with heap:=h',toks:=t' }:=I.un (Un.laid k hp (I.cz.fresh hp)) (I.cz.laid k hp new)
theorem Inv.write{x e:Addr}{o:HO}{t':Nat}(I:Inv X pins σ H s)(mu:Zi (H x))(he:e=x\/H e=some (.own x))(k:∀ b u,b≠e->s.heap.get? b=some u->h'.get? b=some u)(Nu:∃ u,h'.get? e=some u)
  (new:gC X.prog X.w (upd H x o) h' x o):Inv X pins σ (upd H x o) { s with heap:=h',toks:=t' }:=I.un (Un.write mu he k Nu) (I.cz.write mu he k Nu new)
theorem Inv.Kg{TQ:List (Addr×Obj)}(I:Inv X pins σ H s)(h:∀ p∈TQ,s.heap.get? p.1=some p.2/\H p.1=none/\p.1≠X.env.locals/\p.1∉X.fs/\∀ v,p.2.data≠.cell v):Inv X TQ σ H s :=
 ⟨I.ok,I.os,I.bare,I.base,I.loc,I.cell,I.free,I.mG,fun p hp=>(List.mem_append.mp hp).elim (fun z=>I.pin p (bW _ z)) (h p),I.cz,I.len⟩
theorem ER{N:List Str}(hN:N.Nodup){i j:Nat}{x:Str}(a:N[i]?=some x)(b:N[j]?=some x):i=j:=by
 obtain⟨h1,e1⟩:=List.getElem?_eq_some_iff.mp a;obtain⟨h2,e2⟩:=List.getElem?_eq_some_iff.mp b;exact(List.getElem_inj hN).mp (e1.trans e2.symm)
theorem A9{M:Model}{A:c8}{E:Value->ar->Prop}{i:Nat}{x:Str}{v:V}{u:Value}{Q:Unit->ar->Prop}(I:Inv X pins σ H s)(hN:X.N.Nodup)(hi:X.N[i]?=some x)(hx:Loc X.env.scope x)(r:RelV v u)
  (h:∀ s',Inv X pins (σ.set i (some v)) H s'->(∃ a,fM a s.heap s'.heap/\(a=X.env.locals\/X.env.cells.lookup x=some a))->Q () s') (hf:autoParam (X.fn x=true\/X.env.scope.names.lookup x=some .local) Ao._auto_1):wpAny M A (storeName X.env x u) Q E s:=by
 obtain⟨m,hn,hl⟩:=id I.loc;have acj:(X.env.scope.kind == .class||(X.env.scope.kind == .module&&X.env.locals != X.env.globals))=false:=by rw [I.ok.kind]; rfl
 have Yu:i < σ.length:=by rw [I.len]; exact(List.getElem?_eq_some_iff.mp hi).1
 have Wa:=I.Wa;have tracked:∀ {a:Addr} {h':Heap},(∃ o,s.heap.get? a=some o/\H a=none)->fM a s.heap h'->tO X.prog X.w H h':=fun {a h'} ha hs b ob e=>by
  obtain⟨_,_,uR⟩:=ha;refine(I.cz b ob e).mW (fun c w' hc q=>(hs.2 c ?_).trans q) (fun _ q=>q) fun _ _ q=>q;rintro rfl;rcases hc with rfl | hc
  ·rw [uR] at e; cases e
  ·rw [uR] at hc; cases hc
 rcases hx with hk | hk
 ·refine wpAny_storeName_local hk hn (fun h' Mp hs=>?_) acj;obtain⟨oL,_,_,hoL,_⟩:=id hn;refine h _ ⟨I.ok,I.os,I.bare,⟨fun b o e n hb hx=>?_,fun b o e n hb hx=>?_,I.base.free,fun b o e hx=>?_,I.base.vX,I.base.uW,I.base.vY⟩,⟨_,Mp,fun j y v' e1 e2 e3=>?_⟩,fun y c e=>?_,I.free,I.mG,fun p hp=>?_,tracked ⟨oL,hoL,I.free⟩ hs,by simpa using I.len⟩ ⟨_,hs,.inl rfl⟩
  ·exact(hs.2 b (bB (bJ (aL e) I.ok.above))).trans (I.base.keep b o e n hb hx)
  ·obtain⟨sl,e1⟩:=I.base.slot b o e n hb hx;exact⟨sl,(hs.2 b (bB (bJ (aL e) I.ok.above))).trans e1⟩
  ·obtain⟨o',e1⟩:=I.base.there b o e hx;exact⟨o',(hs.2 b (bB (bJ (aL e) I.ok.above))).trans e1⟩
  ·by_cases hj:j=i
   ·subst hj;rw [hi] at e1; cases e1;rw [eZ Yu] at e2;cases e2;exact⟨u,r,.inl ⟨hk,by simp⟩⟩
   ·rw [eW (cW hj)] at e2;obtain⟨u',r',q⟩:=hl j y v' e1 e2 e3;refine⟨u',r',?_⟩;rcases q with ⟨k,e⟩ | ⟨k,c,e,z⟩
    ·refine .inl ⟨k,?_⟩;have:y≠x:=fun e=>hj (ER hN e1 (e ▸ hi));simp [this,e]
    ·exact .inr ⟨k,c,e,z.sameBut hs (Wa y c e)⟩
  ·obtain⟨w',z⟩:=I.cell y c e;exact⟨w',z.sameBut hs (Wa y c e)⟩
  ·obtain⟨e,n,ne,nf,d⟩:=I.pin p hp;exact⟨(hs.2 p.1 ne).trans e,n,ne,nf,d⟩
 ·have hfn:X.fn x=true:=by
   rcases hf with z | z
   ·exact z
   ·rw [z] at hk; cases hk
  obtain⟨c,hc⟩:=I.ok.has x (.inl hk);obtain⟨w',z⟩:=I.cell x c hc;refine wpAny_storeName_cell I.ok.kind hk hc z (fun h' Ub hs=>?_);obtain⟨oc,WG,abU⟩:=id z;refine h { s with heap:=h' } ⟨I.ok,I.os,I.bare,⟨fun b o e n hb hx=>?_,fun b o e n hb hx=>?_,I.base.free,fun b o e hx=>?_,I.base.vX,I.base.uW,I.base.vY⟩,⟨m,hn.sameBut hs (cW (Wa x c hc)),fun j y v' e1 e2 e3=>?_⟩,fun y c' e=>?_,I.free,I.mG,fun p hp=>?_,tracked ⟨oc,WG,I.mG x c hc⟩ hs,by simpa using I.len⟩ ⟨c,hs,.inr hc⟩
  ·exact(hs.2 b (bB (bJ (aL e) (I.ok.Y7 x c hfn hc)))).trans (I.base.keep b o e n hb hx)
  ·obtain⟨sl,e1⟩:=I.base.slot b o e n hb hx;exact⟨sl,(hs.2 b (bB (bJ (aL e) (I.ok.Y7 x c hfn hc)))).trans e1⟩
  ·obtain⟨o',e1⟩:=I.base.there b o e hx;exact⟨o',(hs.2 b (bB (bJ (aL e) (I.ok.Y7 x c hfn hc)))).trans e1⟩
  ·by_cases hj:j=i
   ·subst hj;rw [hi] at e1; cases e1;rw [eZ Yu] at e2;cases e2;exact⟨u,r,.inr ⟨.inl hk,c,hc,Ub⟩⟩
   ·rw [eW (cW hj)] at e2;obtain⟨u',r',q⟩:=hl j y v' e1 e2 e3;refine⟨u',r',?_⟩;rcases q with q | ⟨k,c',e,z'⟩
    ·exact .inl q
    ·refine .inr ⟨k,c',e,z'.sameBut hs ?_⟩;rintro rfl;exact hj (ER hN e1 (I.ok.inj _ _ _ e hc ▸ hi))
  ·by_cases ZN:c'=c
   ·subst ZN; exact⟨_,Ub⟩
   ·obtain⟨w2,z2⟩:=I.cell y c' e;exact⟨w2,z2.sameBut hs ZN⟩
  ·obtain⟨e,n,ne,nf,d⟩:=I.pin p hp;refine⟨(hs.2 p.1 ?_).trans e,n,ne,nf,d⟩;intro q;rw [q,WG] at e;have q':oc=p.2:=bu e;exact d w' (by rw [<-q']; exact abU)
theorem tZ{M:Model}{A:c8}{E:Value->ar->Prop}{i:Nat}{x:Str}{v:V}{u:Value}{Q:Unit->ar->Prop}(I:Inv X pins σ H s)(hN:X.N.Nodup)(hi:X.N[i]?=some x)(hx:Loc X.env.scope x)(r:RelV v u)
  (h:∀ s',Inv X pins (σ.set i (some v)) H s'->Q () s') (hf:autoParam (X.fn x=true\/X.env.scope.names.lookup x=some .local) Ao._auto_1):wpAny M A (storeName X.env x u) Q E s :=
 A9 I hN hi hx r (fun s' I' _=>h s' I') hf
end
noncomputable abbrev XK:=Value->Option Addr->Hp->Prop
noncomputable abbrev St:=List (Option V)
noncomputable abbrev VK:=V->Hp->Prop
noncomputable abbrev TE:=St->Hp->VK->Prop
noncomputable abbrev TT:=St->Hp->(Bool->Hp->Prop)->Prop
noncomputable abbrev TA:=St->Hp->(List V->Hp->Prop)->Prop
structure Ends where
 nx:St->Hp->Prop
 rt:VK
 bk:St->Hp->Prop:=fun _ _=>False
 ct:St->Hp->Prop:=fun _ _=>False
noncomputable abbrev TS:=Ends->St->Hp->Prop
noncomputable def EP(X:Cx)(pins:List (Addr×Obj))(σ:St)(Q:VK)(u:Value)(s':ar):Prop:=∃ v H',Inv X pins σ H' s'/\RelV v u/\Q v H'
noncomputable def TP(X:Cx)(pins:List (Addr×Obj))(σ:St)(Q:Bool->Hp->Prop)(b:Bool)(s':ar):Prop:=∃ H',Inv X pins σ H' s'/\Q b H'
noncomputable def SP(X:Cx)(pins:List (Addr×Obj))(D:Ends)(f:Flow)(s':ar):Prop :=
 match f with
 | .next=>∃ jC H',Inv X pins jC H' s'/\D.nx jC H'
 | .brk=>∃ jC H',Inv X pins jC H' s'/\D.bk jC H'
 | .cont=>∃ jC H',Inv X pins jC H' s'/\D.ct jC H'
 | .ret u=>∃ v jC H',Inv X pins jC H' s'/\RelV v u/\D.rt v H'
noncomputable def PE(X:Cx)(e:Expr)(t:TE):Prop :=
 ∀ (pins:List (Addr×Obj)) (s:ar) (σ:St) (H:Hp) (Q:VK),Inv X pins σ H s->t σ H Q->wpAny (model X.prog X.w) X.A (eval e X.env) (EP X pins σ Q) X.xe s
noncomputable def WQ(X:Cx)(st:List Stmt)(t:TS):Prop :=
 ∀ (pins:List (Addr×Obj)) (s:ar) (σ:St) (H:Hp) (D:Ends),Inv X pins σ H s->t D σ H->wpAny (model X.prog X.w) X.A (execs st X.env) (SP X pins D) X.xe s
theorem fZ{α:Type}{t:Sem α}{Q Q':α->ar->Prop}{M:Model}{A:c8}{E:Value->ar->Prop}{s:ar}(h:wpAny M A t Q E s)(hQ:∀ a s,Q a s->Q' a s):wpAny M A t Q' E s:=jc h hQ fun _ _ x=>x
section
variable {X:Cx}
noncomputable def aav(i:Nat):TE:=fun σ H Q=>∃ v,σ[i]?=some (some v)/\Q v H
noncomputable def tC(v:V):TE:=fun _ H Q=>Q v H
theorem U8 {i:Nat} {x:Str} {pos:Pos} (hN:X.N[i]?=some x) (hv:ZX X.env.scope x) (hd:(x == ("__debug__" : Str))=false:=by decide) (GQ:(x == ("__classdict__" : Str))=false:=by decide):PE X (.Name x pos) (aav i):=by
 intro pins s σ H Q I h;obtain⟨v,e,h⟩:=h;obtain⟨m,hn,hl⟩:=I.loc;obtain⟨u,r,l⟩:=hl i x v hN e hv;have fin:EP X pins σ Q u s:=⟨v,H,I,r,h⟩;rcases l with ⟨hk,hm⟩ | ⟨hk,c,hc,pP⟩
 ·exact wpAny_Name (wpAny_loadName_local I.ok.kind hk hn hm fin) hd
 ·rcases hk with hk | hk
  ·exact wpAny_Name (wpAny_loadName_cell I.ok.kind hk hc pP fin) hd
  ·exact wpAny_Name (wpAny_loadName_free I.ok.kind hk hc pP fin GQ) hd
theorem Va{i j pos}:PE X (.Constant (.int i) j pos) (tC (.int i)):=fun _ _ _ H _ I h=>wpAny_Constant_int ⟨.int i,H,I.tok _,⟨_,rfl⟩,h⟩
theorem U9{j pos}:PE X (.Constant .none j pos) (tC .cL):=fun _ _ _ H _ I h=>Constant_none ⟨.cL,H,I,rfl,h⟩
noncomputable def Gl(X:Cx)(x:Str):Prop:=X.env.kindOf x=some .globalImplicit
theorem C2{E:Value->ar->Prop}{pins:List (Addr×Obj)}{s:ar}{σ:St}{H:Hp}{x:Str}{u:Value}{pos:Pos}{Q:Value->ar->Prop}(I:Inv X pins σ H s)(hg:Gl X x)(hm:X.mg x=some u)(h:Q u s)
  (hd:(x == ("__debug__" : Str))=false:=by decide):wpAny (model X.prog X.w) X.A (eval (.Name x pos) X.env) Q E s :=
 GK I.ok.kind hg (Calls.loadGlobal_global (by rw [I.ok.glob]; exact I.mod.glob.keeps I.bk) hm h) hd
theorem lq{E:Value->ar->Prop}{pins:List (Addr×Obj)}{s:ar}{σ:St}{H:Hp}{x:Str}{u:Value}{pos:Pos}{Q:Value->ar->Prop}(I:Inv X pins σ H s)(hg:Gl X x)(hm:X.mg x=none)(hv:dR x=some u)(h:Q u s)
  (hn:x≠"__name__":=by decide) (hd:(x == ("__debug__" : Str))=false:=by decide):wpAny (model X.prog X.w) X.A (eval (.Name x pos) X.env) Q E s:=by
 obtain⟨mb,h1,h2⟩:=I.mod.blt;exact GK I.ok.kind hg (Calls.loadGlobal_builtin (by rw [I.ok.glob]; exact I.mod.glob.keeps I.bk) hm (by rw [I.ok.blt]; exact h1.keeps I.bk) ((h2 x hn).trans hv) h) hd
theorem Sg {x:Str} {v:V} {u:Value} {pos:Pos} (hg:Gl X x) (hm:X.mg x=some u) (r:RelV v u) (hd:(x == ("__debug__" : Str))=false:=by decide):PE X (.Name x pos) (tC v) :=
 fun _ _ _ H _ I h=>C2 I hg hm ⟨v,H,I,r,h⟩ hd
variable {a b:Expr} {ta tb:TE} {pos:Pos}
noncomputable def tB(t:TE):TT:=fun σ H Q=>t σ H fun x H1=>∃ c,x=.bl c/\Q c H1
variable {tA tB':TT} {rest:List Expr}
end
noncomputable def oK(K:ah)(H:Hp)(a:Addr)(xs:List V):Prop :=
 Rd H a (.lst xs) \/
  ∃ (o:Obj) (bw:Array Value) (n:Nat),K.lookup a=some o/\o.cls=.type "list"/\o.dict=none/\o.data=.seq bw n/\bw.size<=bo/\Vals xs bw.toList
noncomputable def zO(K:ah)(H:Hp)(a:Addr)(xs:List V):Prop :=
 Rd H a (.tup xs) \/
  ∃ (o:Obj) (bw:Array Value) (n:Nat),K.lookup a=some o/\o.cls=.type "tuple"/\o.data=.seq bw n/\bw.size<=bo/\Vals xs bw.toList
noncomputable def acE:Value->Option V
 | .none=>some .cL
 | .bool b=>some (.bl b)
 | .int i _=>some (.int i)
 | .str x _=>some (.str x)
 | .bytes b _=>some (.Wh b)
 | .float b _=>some (.YV b)
 | .ref a=>some (.ref a)
 | .type n=>some (.ty n)
 | _=>none
theorem RelV.abs{x:V}{u:Value}(r:RelV x u):acE u=some x:=by
 cases x with
 | cL=>cases r; rfl
 | bl _=>cases r; rfl
 | int _=>obtain⟨t,rfl⟩:=r; rfl
 | str _=>obtain⟨t,rfl⟩:=r; rfl
 | Wh _=>obtain⟨t,rfl⟩:=r; rfl
 | YV _=>obtain⟨t,rfl⟩:=r; rfl
 | ref _=>cases r; rfl
 | ty _=>cases r; rfl
theorem RelV.inj{x y:V}{u:Value}(r:RelV x u)(q:RelV y u):x=y:=bu (r.abs.symm.trans q.abs)
theorem Vals.inj:∀ {xs ys:List V} {us:List Value},Vals xs us->Vals ys us->xs=ys:=by
 intro xs ys us h;induction h generalizing ys with
 | nil=>intro k; cases k; rfl
 | cons r t ih =>
  intro k;cases k with
  | cons r' t'=>rw [r.inj r',ih t']
section
variable {X:Cx} {pins:List (Addr×Obj)} {σ:St} {H:Hp} {s:ar} {a:Addr} {xs ys:List V}
theorem oK.of{K:ah}(h:H a=some (.lst xs)):oK K H a xs:=.inl (.inl h)
theorem zO.of{K:ah}(h:H a=some (.tup xs)):zO K H a xs:=.inl (.inl h)
theorem Inv.list(I:Inv X pins σ H s)(h:oK X.K H a xs):∃ bw:List Value,Vals xs bw/\PlainL s.heap a bw.toArray/\xs.length<=bo:=by
 rcases h with h | ⟨o,bw,n,hk,hc,hd,hs,hz,r⟩
 ·obtain⟨z,bw,n,r,e⟩:=h.ok I.cz;exact⟨bw,r,⟨_,n,e,rfl,rfl,rfl⟩,z⟩
 ·refine⟨bw.toList,r,⟨o,n,I.KC a o hk,hc,hd,by simpa using hs⟩,?_⟩;have e:=r.length;simp only [bp] at e;lia
theorem Inv.tuple(I:Inv X pins σ H s)(h:zO X.K H a xs):∃ bw:List Value,Vals xs bw/\IsTup s.heap a bw.toArray/\xs.length<=bo:=by
 rcases h with h | ⟨o,bw,n,hk,hc,hs,hz,r⟩
 ·obtain⟨z,bw,r,p⟩:=h.ok I.cz;exact⟨bw,r,p,z⟩
 ·refine⟨bw.toList,r,⟨o,I.KC a o hk,hc,n,by simpa using hs⟩,?_⟩;have e:=r.length;simp only [bp] at e;lia
theorem Inv.uD(I:Inv X pins σ H s)(h:oK X.K H a xs)(h':oK X.K H a ys):xs=ys:=by
 obtain⟨bw,r,⟨o,n,e,_,_,d⟩,_⟩:=I.list h;obtain⟨its',r',⟨o',n',e',_,_,d'⟩,_⟩:=I.list h';rw [e] at e'; cases e';rw [d] at d';injection d' with d1 _
 have:bw=its':=by simpa using congrArg Array.toList d1
 subst this;exact r.inj r'
theorem Inv.LC(I:Inv X pins σ H s)(h:zO X.K H a xs)(h':zO X.K H a ys):xs=ys:=by
 obtain⟨bw,r,⟨o,e,_,n,d⟩,_⟩:=I.tuple h;obtain⟨its',r',⟨o',e',_,n',d'⟩,_⟩:=I.tuple h';rw [e] at e'; cases e';rw [d] at d';injection d' with d1 _
 have:bw=its':=by simpa using congrArg Array.toList d1
 subst this;exact r.inj r'
end
noncomputable abbrev Cx.Ak(X:Cx)(E:Value->ar->Prop):Cx:={ X with xe:=E }
noncomputable abbrev Cx.WA(X:Cx):Cx:=X.Ak fun _ _=>False
theorem Cx.Ok.Ak{X:Cx}(ok:X.Ok)(E:Value->ar->Prop):(X.Ak E).Ok :=
 ⟨ok.mod,ok.kind,ok.glob,ok.blt,ok.above,ok.inj,ok.has,ok.Y7,ok.hd,ok.frames,ok.Zr,ok.ZT,ok.bs,ok.Tn,ok.L8,ok.Qj,ok.zj,ok.WM⟩
theorem Cx.Ok.qr{X:Cx}{E:Value->ar->Prop}(ok:(X.Ak E).Ok):X.Ok :=
 ⟨ok.mod,ok.kind,ok.glob,ok.blt,ok.above,ok.inj,ok.has,ok.Y7,ok.hd,ok.frames,ok.Zr,ok.ZT,ok.bs,ok.Tn,ok.L8,ok.Qj,ok.zj,ok.WM⟩
section
variable {X:Cx} {pins:List (Addr×Obj)} {σ:St} {H:Hp} {s:ar} {E:Value->ar->Prop}
theorem Inv.Ak(I:Inv X pins σ H s)(E:Value->ar->Prop):Inv (X.Ak E) pins σ H s:=⟨I.ok.Ak E,I.os,I.bare,I.base,I.loc,I.cell,I.free,I.mG,I.pin,I.cz,I.len⟩
theorem Inv.qr(I:Inv (X.Ak E) pins σ H s):Inv X pins σ H s:=⟨I.ok.qr,I.os,I.bare,I.base,I.loc,I.cell,I.free,I.mG,I.pin,I.cz,I.len⟩
theorem SP.qr{D:Ends}{f:Flow}{s':ar}(h:SP (X.Ak E) pins D f s'):SP X pins D f s':=by
 cases f with
 | next=>obtain⟨jC,H',I,q⟩:=h; exact⟨jC,H',I.qr,q⟩
 | brk=>obtain⟨jC,H',I,q⟩:=h; exact⟨jC,H',I.qr,q⟩
 | cont=>obtain⟨jC,H',I,q⟩:=h; exact⟨jC,H',I.qr,q⟩
 | ret u=>obtain⟨v,jC,H',I,r,q⟩:=h; exact⟨v,jC,H',I.qr,r,q⟩
theorem WQ.WA{st:List Stmt}{t:TS}(h:WQ X.WA st t):WQ X st t:=fun pins s σ H D I hw =>
 jc (h pins s σ H D (I.Ak _) hw) (fun _ _ q=>q.qr) fun _ _ z=>bM z
end
section
variable {X:Cx} {st:Stmt} {rest:List Stmt} {t u:TS} {e:Expr} {te:TE} {pos:Pos}
theorem Inv.quiet{pins:List (Addr×Obj)}{σ:St}{H:Hp}{s:ar}(I:Inv X pins σ H s):interactive X.env=false:=by simp [interactive,I.ok.kind]
end
noncomputable abbrev acG:=V->V->V->Hp->(Hp->Prop)->Prop
noncomputable def acI(X:Cx)(t:acG):Prop :=
 ∀ (pins:List (Addr×Obj)) (s:ar) (σ:St) (H:Hp) (o i v:V) (ov iv u:Value) (Q:Hp->Prop),Inv X pins σ H s->RelV o ov->RelV i iv->RelV v u->t o i v H Q ->
  wpAny (model X.prog X.w) X.A (setItem ov iv u) (fun _ s'=>∃ H',Inv X pins σ H' s'/\Q H') X.xe s
structure It where
 go:Nat->Hp->Prop
 yld:Nat->Hp->V->Hp->Prop
 stop:Nat->Hp->Prop
noncomputable def ng(X:Cx)(pins:List (Addr×Obj))(H:Hp)(b:Addr):Prop :=
 H b=none/\b≠X.env.locals/\b∉X.fs/\(b∈X.ex\/X.mV.heap.objs.size<=b)/\(∀ x c,X.env.cells.lookup x=some c->c≠b)/\∀ p∈X.pn++pins,p.1≠b
theorem Inv.Fy{X:Cx}{pins:List (Addr×Obj)}{σ:St}{H H':Hp}{s:ar}{b:Addr}(I:Inv X pins σ H s)(hb:s.heap.objs.size<=b)(hn:H' b=none):ng X pins H' b:=by
 refine⟨hn,Nat.ne_of_gt (bJ I.lt hb),I.abd hb,.inr (cC I.sz hb),fun x c e z=>?_,fun p hp z=>?_⟩
 ·obtain⟨v,q⟩:=I.cell x c e;exact absurd (bJ q.lt (by rw [z]; exact hb)) (eU _)
 ·exact absurd (bJ (aL (I.pin p hp).1) (by rw [z]; exact hb)) (eU _)
structure Turn(P:bE)(w:World)(K:ah)(tg:Expr)(J:It)(fp:List Addr)(it:Addr)(tn:Nat->Heap->Prop):Prop where
 mem:it∈fp
 obj:∀ i h,tn i h->∀ b∈fp,∃ o,h.get? b=some o/\∀ v,o.data≠.cell v
 keep:∀ i h h',tn i h->(∀ b∈fp,∀ o,h.get? b=some o->h'.get? b=some o)->tn i h'
 item:∀ (X:Cx),X.prog=P->X.w=w->X.K=K->X.calm=true->∀ (i:Nat) (pins:List (Addr×Obj)) (s:ar) (σ:St) (H:Hp) (E:Value->ar->Prop),Inv X pins σ H s->(∀ b∈fp,ng X pins H b)->tn i s.heap->J.go i H ->
  wpAny (model P w) X.A (nh (.ref it)) (fun r s1=>∃ u,r=some u /\
   wpAny (model P w) X.A (x6 tg (.ref it) u) (fun _ s2=>∃ x H',Inv X pins σ H' s2/\RelV x u/\J.yld i H x H'/\tn (i+1) s2.heap/\∀ b∈fp,H' b=none) E s1) E s
 done:∀ (X:Cx),X.prog=P->X.w=w->X.K=K->X.calm=true->∀ (i:Nat) (pins:List (Addr×Obj)) (s:ar) (σ:St) (H:Hp) (E:Value->ar->Prop),Inv X pins σ H s->(∀ b∈fp,ng X pins H b)->tn i s.heap->J.stop i H ->
  wpAny (model P w) X.A (nh (.ref it)) (fun r s1=>r=none/\Inv X pins σ H s1) E s
 self:∀ (A:c8) (i:Nat) (s:ar) (Q:Value->ar->Prop) (E:Value->ar->Prop),tn i s.heap->Q (.ref it) s->wpAny (model P w) A (wH (.ref it)) Q E s
noncomputable abbrev TI:=St->Hp->(It->Hp->Prop)->Prop
noncomputable def PIE(X:Cx)(pins:List (Addr×Obj))(σ:St)(tg:Expr)(R:It->Hp->Prop)(SH:Value)(s2:ar):Prop :=
 ∃ (it:Addr) (fp:List Addr) (tn:Nat->Heap->Prop) (J:It) (H':Hp),SH=.ref it/\Inv X pins σ H' s2/\Turn X.prog X.w X.K tg J fp it tn/\tn 0 s2.heap/\(∀ b∈fp,ng X pins H' b)/\R J H'
theorem KP{M:Model}{A:c8}{E:Value->ar->Prop}{s:ar}{tg:Expr}{it:Addr}{u:Value}{o:Obj}{n:String}{vs:Array Value}{Q:Unit->ar->Prop}(ho:s.heap.get? it=some o)(hc:o.cls=.type n)(hd:o.data=.fields vs)
    (hn:["enumerate","zip","dict_itemiterator","dict_reverseitemiterator","odict_iterator","itertools.zip_longest","itertools.pairwise"].contains n=false) (hQ:Q () s):wpAny M A (x6 tg (.ref it) u) Q E s:=by
  unfold x6;cases tg <;> first
    | exact aj hQ
    | (cases u <;> first
        | exact aj hQ
        | (refine ae (wpAny_load ho ?_)
           rw [hc,hd];show wpAny M A (if (["enumerate","zip","dict_itemiterator","dict_reverseitemiterator","odict_iterator","itertools.zip_longest","itertools.pairwise"].contains n&&vs[0]? == some (ma _))=true then _ else _) Q E s;rw [if_neg (by intro h; rw [hn,p8] at h; cases h)];exact aj hQ))
noncomputable def Itl(K:ah)(a:Addr):It :=
 ⟨fun i H=>∃ xs x,oK K H a xs/\xs[i]?=some x,fun i H x H'=>H'=H/\∀ xs,oK K H a xs->xs[i]?=some x,fun i H=>∃ xs,oK K H a xs/\xs.length<=i⟩
noncomputable def Itt(K:ah)(a:Addr):It :=
 ⟨fun i H=>∃ xs x,zO K H a xs/\xs[i]?=some x,fun i H x H'=>H'=H/\∀ xs,zO K H a xs->xs[i]?=some x,fun i H=>∃ xs,zO K H a xs/\xs.length<=i⟩
noncomputable def Itr(lo:Int)(n:Nat):It:=⟨fun i _=>i < n,fun i H x H'=>H'=H/\x=.int (lo+i),fun i _=>n<=i⟩
theorem LA{P:bE}{w:World}{K:ah}{tg:Expr}(a it:Addr):Turn P w K tg (Itl K a) [it] it (fun i h=>h.IsListIter it a i) where
 mem:=by simp
 obj:=fun i h st b hb=>by
  have e:b=it:=by simpa using hb
  subst e;obtain⟨o,e,c,d⟩:=st;exact⟨o,e,fun v z=>by rw [d] at z; cases z⟩
 keep:=fun i h h' st k=>st.at fun o e=>k it (by simp) o e
 item:=by
  intro X hP hw hK hc i pins s σ H E I hf st hg;subst hP hw hK;obtain⟨xs,x,hq,hx⟩:=hg;obtain⟨bw,rv,p,hz⟩:=I.list hq;obtain⟨u,hu,ru⟩:=rv.get hx;obtain⟨f0,f1,f2,f3,f4,f5⟩:=hf it (by simp);refine wpAny_pyNext_list_item st p.isList (x:=u) (by simpa using hu) fun h' xj sb=>?_;have I1:Inv X pins σ H { s with heap:=h' }:=I.turned (t':=s.toks) (fun b o hb e=>(sb.2 b hb).trans e) f0 f1 f3 f4 f5;obtain⟨o,e,c,d⟩:=id xj;exact⟨u,rfl,KP (s:={ s with heap:=h' }) e c d (by decide) ⟨x,H,I1,ru,⟨rfl,fun ys hy=>by rw [I.uD hy hq]; exact hx⟩,xj,fun b hb=>(hf b hb).1⟩⟩
 done:=by
  intro X hP hw hK hc i pins s σ H E I hf st hg;subst hP hw hK;obtain⟨xs,hq,hx⟩:=hg;obtain⟨bw,rv,p,hz⟩:=I.list hq;obtain⟨f0,f1,f2,f3,f4,f5⟩:=hf it (by simp);have hl:=rv.length;exact wpAny_pyNext_list_end (I.ok.hd hc) st p.isList (by simp; lia) fun h' eb=>⟨rfl,I.turned (t':=s.toks) (fun b o hb e=>eb b o hb e) f0 f1 f3 f4 f5⟩
 self:=fun _ _ _ _ _ st h=>wpAny_pyIter_listiter st h
theorem Hq{P:bE}{w:World}{K:ah}{tg:Expr}(a it:Addr):Turn P w K tg (Itt K a) [it] it (fun i h=>h.IsTupleIter it a i) where
 mem:=by simp
 obj:=fun i h st b hb=>by
  have e:b=it:=by simpa using hb
  subst e;obtain⟨o,e,c,d⟩:=st;exact⟨o,e,fun v z=>by rw [d] at z; cases z⟩
 keep:=fun i h h' st k=>st.at fun o e=>k it (by simp) o e
 item:=by
  intro X hP hw hK hc i pins s σ H E I hf st hg;subst hP hw hK;obtain⟨xs,x,hq,hx⟩:=hg;obtain⟨bw,rv,p,hz⟩:=I.tuple hq;obtain⟨u,hu,ru⟩:=rv.get hx;obtain⟨f0,f1,f2,f3,f4,f5⟩:=hf it (by simp);refine wpAny_pyNext_tuple_item st (show s.heap.IsTuple a bw.toArray from p) (x:=u) (by simpa using hu) fun h' xj sb=>?_;have I1:Inv X pins σ H { s with heap:=h' }:=I.turned (t':=s.toks) (fun b o hb e=>(sb.2 b hb).trans e) f0 f1 f3 f4 f5;obtain⟨o,e,c,d⟩:=id xj;exact⟨u,rfl,KP (s:={ s with heap:=h' }) e c d (by decide) ⟨x,H,I1,ru,⟨rfl,fun ys hy=>by rw [I.LC hy hq]; exact hx⟩,xj,fun b hb=>(hf b hb).1⟩⟩
 done:=by
  intro X hP hw hK hc i pins s σ H E I hf st hg;subst hP hw hK;obtain⟨xs,hq,hx⟩:=hg;obtain⟨bw,rv,p,hz⟩:=I.tuple hq;obtain⟨f0,f1,f2,f3,f4,f5⟩:=hf it (by simp);have hl:=rv.length;exact wpAny_pyNext_tuple_end (I.ok.hd hc) st (show s.heap.IsTuple a bw.toArray from p) (by simp; lia) fun h' eb=>⟨rfl,I.turned (t':=s.toks) (fun b o hb e=>eb b o hb e) f0 f1 f3 f4 f5⟩
 self:=fun _ _ _ _ _ st h=>wpAny_pyIter_tupleiter st h
theorem Hr{P:bE}{w:World}{K:ah}{tg:Expr}(it:Addr)(lo:Int)(n:Nat):Turn P w K tg (Itr lo n) [it] it (fun i h=>IsRangeIter h it (lo+(i:Nat) * 1) ((n:Int) - (i:Nat)) 1) where
 mem:=by simp
 obj:=fun i h st b hb=>by
  have e:b=it:=by simpa using hb
  subst e;exact⟨_,st,fun v z=>by
   have z':Data.fields _=Data.cell v:=z;cases z'⟩
 keep:=fun i h h' st k=>k it (by simp) _ st
 item:=by
  intro X hP hw hK hc i pins s σ H E I hf st hg;subst hP hw hK;obtain⟨f0,f1,f2,f3,f4,f5⟩:=hf it (by simp);have W:=Walks.range (prog:=X.prog) (w:=X.w) (I.ok.hd hc) it lo 1 n;refine W.item i s _ _ hg st fun v h' tk hv xj kk=>?_;obtain⟨t,rfl⟩:=hv;have I1:Inv X pins σ H { s with heap:=h',toks:=tk }:=I.turned (fun b o hb e=>kk b o (by simpa using hb) e) f0 f1 f3 f4 f5;refine⟨_,rfl,KP (s:={ s with heap:=h',toks:=tk }) (n:="range_iterator") xj rfl rfl (by decide) ⟨.int (lo+i),H,I1,⟨t,?_⟩,⟨rfl,rfl⟩,xj,fun b hb=>(hf b hb).1⟩⟩;rw [ya]
 done:=by
  intro X hP hw hK hc i pins s σ H E I hf st hg;subst hP hw hK;obtain⟨f0,f1,f2,f3,f4,f5⟩:=hf it (by simp);exact wpAny_pyNext_range_end (I.ok.hd hc) st (by have:n<=i:=hg; lia) fun h' eb=>⟨rfl,I.turned (t':=s.toks) (fun b o hb e=>eb b o hb e) f0 f1 f3 f4 f5⟩
 self:=fun _ _ _ _ _ st h=>wpAny_pyIter_rangeiter st h
section
variable {X:Cx} {tg:Expr}
theorem OJ{pins:List (Addr×Obj)}{σ:St}{H:Hp}{s:ar}{R:It->Hp->Prop}{E:Value->ar->Prop}{lo hi:Int}{t u v:Tok}{tk:Nat}(I:Inv X pins σ H s)(h1:-(2 ^ 62)<=lo)(h2:lo < 2 ^ 62)(h3:-(2 ^ 62)<=hi)(h4:hi < 2 ^ 62)
  (q:R (Itr lo (hi - lo).toNat) H):wpAny (model X.prog X.w) X.A (wH (.ref s.heap.objs.size)) (PIE X pins σ tg R) E { s with heap:=s.heap.push { cls:=.type "range",data:=.fields #[.int lo t,.int hi u,.int 1 v] },toks:=tk }:=by
 refine wpAny_pyIter_range (IsRange.new ..) (small_one h1 h2 h3 h4) ?_;have I1:Inv X pins σ H { s with heap:=s.heap.push { cls:=.type "range",data:=.fields #[.int lo t,.int hi u,.int 1 v] },toks:=tk }:=I.kept fun b o e=>aE _ e
 refine⟨(s.heap.push { cls:=.type "range",data:=.fields #[.int lo t,.int hi u,.int 1 v] }).objs.size,[(s.heap.push { cls:=.type "range",data:=.fields #[.int lo t,.int hi u,.int 1 v] }).objs.size],_,_,H,rfl,
  I1.kept (t':=tk) fun b o e=>aE _ e,Hr _ lo (hi - lo).toNat,?_,fun b hb=>?_,q⟩
 ·have e1:lo+((0:Nat):Int) * 1=lo:=by simp
  have e2:(((hi - lo).toNat:Nat):Int) - ((0:Nat):Int)=Builtin.Range.rangeSize lo hi 1:=by rw [rangeSize_one]; split <;> lia
  show IsRangeIter _ _ (lo+((0:Nat):Int) * 1) ((((hi - lo).toNat:Nat):Int) - ((0:Nat):Int)) 1;rw [e1,e2];exact aT _ rfl
 ·have e:b=(s.heap.push { cls:=.type "range",data:=.fields #[.int lo t,.int hi u,.int 1 v] }).objs.size:=by simpa using hb
  subst e;exact I1.Fy (aC _) (I1.cz.fresh (aC _))
noncomputable def mB(fp:List Addr)(h:Heap):List (Addr×Obj):=fp.filterMap fun b=>(h.get? b).map fun o=>(b,o)
theorem ko{fp:List Addr}{h:Heap}{b:Addr}{o:Obj}(hb:b∈fp)(e:h.get? b=some o):(b,o)∈mB fp h:=List.mem_filterMap.mpr ⟨b,hb,by rw [e]; rfl⟩
theorem L7{fp:List Addr}{h:Heap}{p:Addr×Obj}(hp:p∈mB fp h):p.1∈fp/\h.get? p.1=some p.2:=by
 obtain⟨b,hb,e⟩:=List.mem_filterMap.mp hp;cases q:h.get? b with
 | none=>rw [q] at e; cases e
 | some o =>
  rw [q] at e;have e':(b,o)=p:=bu e;subst e';exact⟨hb,q⟩
theorem Inv.pinned{pins:List (Addr×Obj)}{σ:St}{H:Hp}{s:ar}{fp:List Addr}(I:Inv X pins σ H s)(hf:∀ b∈fp,ng X pins H b)(ho:∀ b∈fp,∃ o,s.heap.get? b=some o/\∀ v,o.data≠.cell v):Inv X (pins++mB fp s.heap) σ H s :=
 I.Kg fun p hp=>(List.mem_append.mp hp).elim (fun z=>I.pin p (bb _ z)) fun z=>by
  obtain⟨hb,e⟩:=L7 z;obtain⟨f0,f1,f2,_⟩:=hf p.1 hb;obtain⟨o,e',d⟩:=ho p.1 hb;rw [e] at e'; cases e';exact⟨e,f0,f1,f2,d⟩
theorem Inv.qt{pins pl:List (Addr×Obj)}{σ:St}{H:Hp}{s:ar}(I:Inv X (pins++pl) σ H s):Inv X pins σ H s:=I.Kg fun p hp=>I.pin p (bb _ (bW _ hp))
end
noncomputable abbrev R2:=V->V->Hp->VK->Prop
noncomputable def Lr(X:Cx)(f:Value->Value->Sem Value)(r:R2):Prop :=
 ∀ (pins:List (Addr×Obj)) (s:ar) (σ:St) (H:Hp) (x y:V) (v u:Value) (Q:VK),Inv X pins σ H s->RelV x v->RelV y u->r x y H Q ->
  wpAny (model X.prog X.w) X.A (f v u) (EP X pins σ Q) X.xe s
noncomputable def UnR(X:Cx)(f:Value->Sem Value)(r:V->Hp->VK->Prop):Prop :=
 ∀ (pins:List (Addr×Obj)) (s:ar) (σ:St) (H:Hp) (x:V) (v:Value) (Q:VK),Inv X pins σ H s->RelV x v->r x H Q ->
  wpAny (model X.prog X.w) X.A (f v) (EP X pins σ Q) X.xe s
noncomputable def Um(X:Cx)(f:Value)(r:List V->Hp->VK->Prop):Prop :=
 ∀ (pins:List (Addr×Obj)) (s:ar) (σ:St) (H:Hp) (xs:List V) (us:List Value) (Q:VK),Inv X pins σ H s->Vals xs us->r xs H Q ->
  wpAny (model X.prog X.w) X.A (call f us) (EP X pins σ Q) X.xe s
noncomputable def acF(X:Cx)(r:V->Hp->(Bool->Hp->Prop)->Prop):Prop :=
 ∀ (pins:List (Addr×Obj)) (s:ar) (σ:St) (H:Hp) (x:V) (v:Value) (Q:Bool->Hp->Prop),Inv X pins σ H s->RelV x v->r x H Q ->
  wpAny (model X.prog X.w) X.A (truthy v) (TP X pins σ Q) X.xe s
noncomputable def rI(C:Int->Int->Prop)(g:Int->Int->V):R2:=fun x y H Q=>∃ i j,x=.int i/\y=.int j/\C i j/\Q (g i j) H
noncomputable def U1(g:Int->Int->V):R2:=fun x y H Q=>∃ i j,x=.int i/\y=.int j/\Q (g i j) H
noncomputable def rU(g:Int->V):V->Hp->VK->Prop:=fun x H Q=>∃ i,x=.int i/\Q (g i) H
section
variable {X:Cx} {a b c:Expr} {ta tb tc:TE} {pos:Pos}
theorem opI{f:Value->Value->Sem Value}{C:Int->Int->Prop}{g:Int->Int->Int}
  (rule:∀ (i j:Int) (t u:Tok) (s:ar) (Q:Value->ar->Prop) (E:Value->ar->Prop),C i j->Q (.int (g i j) s.toks) { s with toks:=s.toks+1 }->wpAny (model X.prog X.w) X.A (f (.int i t) (.int j u)) Q E s) :
  Lr X f (rI C fun i j=>.int (g i j)):=by
 intro pins s σ H x y v u Q I rx ry h;obtain⟨i,j,rfl,rfl,hc,q⟩:=h;obtain⟨t,rfl⟩:=rx;obtain⟨t',rfl⟩:=ry;exact rule i j t t' s _ _ hc ⟨.int (g i j),H,I.tok _,⟨_,rfl⟩,q⟩
theorem XC{f:Value->Value->Sem Value}{g:Int->Int->Int}
  (rule:∀ (i j:Int) (t u:Tok) (s:ar) (Q:Value->ar->Prop) (E:Value->ar->Prop),Q (.int (g i j) s.toks) { s with toks:=s.toks+1 }->wpAny (model X.prog X.w) X.A (f (.int i t) (.int j u)) Q E s) :
  Lr X f (U1 fun i j=>.int (g i j)):=by
 intro pins s σ H x y v u Q I rx ry h;obtain⟨i,j,rfl,rfl,q⟩:=h;obtain⟨t,rfl⟩:=rx;obtain⟨t',rfl⟩:=ry;exact rule i j t t' s _ _ ⟨.int (g i j),H,I.tok _,⟨_,rfl⟩,q⟩
theorem Vi{f:Value->Value->Sem Value}{g:Int->Int->Bool}
  (rule:∀ (i j:Int) (t u:Tok) (s:ar) (Q:Value->ar->Prop) (E:Value->ar->Prop),Q (.bool (g i j)) s->wpAny (model X.prog X.w) X.A (f (.int i t) (.int j u)) Q E s) :
  Lr X f (U1 fun i j=>.bl (g i j)):=by
 intro pins s σ H x y v u Q I rx ry h;obtain⟨i,j,rfl,rfl,q⟩:=h;obtain⟨t,rfl⟩:=rx;obtain⟨t',rfl⟩:=ry;exact rule i j t t' s _ _ ⟨.bl (g i j),H,I,rfl,q⟩
noncomputable def acP(i j:Int):Prop:=0 < j/\j < 1073741824
noncomputable def Wu(i j:Int):Prop:=(-(2 ^ 64) < i/\i < 2 ^ 64)\/(-(2 ^ 64) < j/\j < 2 ^ 64)
theorem Wu.ok{i j:Int}(h:Wu i j):IntMulOk i j:=by
 rcases h with ⟨h1,h2⟩ | ⟨h1,h2⟩
 ·exact .of_left (intBits_le_64 h1 h2)
 ·exact .of_right (intBits_le_64 h1 h2)
theorem Vh:Lr X (j3 .Add) (U1 fun i j=>.int (i+j)):=XC fun _ _ _ _ _ _ _ q=>add_int q
theorem Vd:Lr X (j3 .Sub) (U1 fun i j=>.int (i - j)):=XC fun _ _ _ _ _ _ _ q=>sub_int q
theorem Ve:Lr X (j3 .Mult) (rI Wu fun i j=>.int (i * j)):=opI fun _ _ _ _ _ _ _ hc q=>mul_int q hc.ok
theorem So:Lr X (j3 .FloorDiv) (rI acP fun i j=>.int (i / j)):=opI fun i j _ _ _ _ _ hc q=>by
 have h1:(0:Int) < j:=hc.1;have h2:j < 1073741824:=hc.2;exact floordiv_int (by lia) (by rw [Int.fdiv_eq_ediv_of_nonneg i (by lia)]; exact q) (.inl (PyProof.noPylong_small (by lia)))
theorem Vf:Lr X (j3 .Mod) (rI (fun _ j=>0 < j) fun i j=>.int (i % j)):=opI fun i j _ _ _ _ _ hc q=>by
 have h1:(0:Int) < j:=hc;exact mod_int' (by lia) (by rw [Int.fmod_eq_emod_of_nonneg i (by lia)]; exact q)
theorem unI{f:Value->Sem Value}{g:Int->Int}
  (rule:∀ (i:Int) (t:Tok) (s:ar) (Q:Value->ar->Prop) (E:Value->ar->Prop),Q (.int (g i) s.toks) { s with toks:=s.toks+1 }->wpAny (model X.prog X.w) X.A (f (.int i t)) Q E s) :
  UnR X f (rU fun i=>.int (g i)):=by
 intro pins s σ H x v Q I rx h;obtain⟨i,rfl,q⟩:=h;obtain⟨t,rfl⟩:=rx;exact rule i t s _ _ ⟨.int (g i),H,I.tok _,⟨_,rfl⟩,q⟩
theorem Uw:UnR X (unaryOp .USub) (rU fun i=>.int (-i)):=unI fun _ _ _ _ _ q=>neg_int q
end
section
variable {X:Cx} {a b c:Expr} {ta tb tc:TE} {pos:Pos}
theorem Xz:Lr X (dB .Lt) (U1 fun i j=>.bl (decide (i < j))):=Vi fun _ _ _ _ _ _ _ q=>lt_int q
theorem XA:Lr X (dB .LtE) (U1 fun i j=>.bl (decide (i<=j))):=Vi fun _ _ _ _ _ _ _ q=>le_int q
theorem XB:Lr X (dB .Gt) (U1 fun i j=>.bl (decide (j < i))):=Vi fun _ _ _ _ _ _ _ q=>gt_int q
theorem gW(b:Expr){op:CmpOp}(h:op≠.In:=by decide)(h2:op≠.NotIn:=by decide):vR op b=false:=by
 have e1:(op == CmpOp.In)=false:=by cases op <;> first | rfl | exact absurd rfl h
 have e2:(op == CmpOp.NotIn)=false:=by cases op <;> first | rfl | exact absurd rfl h2
 cases b with
 | Set es k _ =>
  show (k == 0&&(op == .In||op == .NotIn)&&es.all (constantsAlone 8))=false;rw [e1,e2,Bool.or_false,JE,p8]
 | _=>rfl
noncomputable def Wo(K:ah)(x:V)(H:Hp)(k:Bool):Prop :=
 match x with
 | .cL=>k=false
 | .bl b=>k=b
 | .int i=>k=(i != 0)
 | .str y=>y.length<=bo/\k=((y.length:Int) != 0)
 | .Wh y=>y.size<=bo/\k=((y.size:Int) != 0)
 | .ref p=>(∃ xs,oK K H p xs/\k=!xs.isEmpty)\/(∃ xs,zO K H p xs/\k=!xs.isEmpty)\/∃ kvs,H p=some (.dK kvs)/\k=!kvs.isEmpty
 | _=>False
theorem Iq{κ:Type}{kvs:List (κ×V)}{vs:List (κ×Value)}(r:KV kvs vs):(!vs.isEmpty)=!kvs.isEmpty:=by
 cases r <;> rfl
theorem zb{xs:List V}{bw:List Value}(r:Vals xs bw):(!bw.toArray.isEmpty)=!xs.isEmpty:=by
 cases r <;> simp
theorem yU:(bo:Nat) < 2 ^ 63:=by rw [cx]; decide
theorem UA:acF X (fun x H Q=>∃ k,Wo X.K x H k/\Q k H):=by
 intro pins s σ H x v Q I rx h;obtain⟨k,e,q⟩:=h;have hl:=yU;have hs:bo=16777216:=cx;cases x with
 | cL =>
  cases rx;have e':k=false:=e;subst e';exact truthy_none ⟨H,I,q⟩
 | bl b =>
  cases rx;have e':k=b:=e;subst e';exact jX ⟨H,I,q⟩
 | int i =>
  obtain⟨t,rfl⟩:=rx;have e':k=(i != 0):=e;subst e';exact PySem.P.truthy_int ⟨H,I,q⟩
 | str y =>
  obtain⟨t,rfl⟩:=rx;obtain⟨hy,e'⟩:y.length<=bo/\k=((y.length:Int) != 0):=e;subst e';exact PySem.P.truthy_str (by lia) ⟨H,I.tok _,q⟩
 | Wh y =>
  obtain⟨t,rfl⟩:=rx;obtain⟨hy,e'⟩:y.size<=bo/\k=((y.size:Int) != 0):=e;subst e';exact PySem.W.truthy_bytes (by lia) ⟨H,I.tok _,q⟩
 | ref p =>
  cases rx;have e':(∃ xs,oK X.K H p xs/\k=!xs.isEmpty)\/(∃ xs,zO X.K H p xs/\k=!xs.isEmpty)\/∃ kvs,H p=some (.dK kvs)/\k=!kvs.isEmpty:=e;rcases e' with ⟨xs,hx,e'⟩ | ⟨xs,hx,e'⟩ | ⟨kvs,hx,e'⟩
  ·subst e';obtain⟨bw,r,pl,hz⟩:=I.list hx;have hlen:=r.length;exact wpAny_truthy_list pl.isList (by simp only [aR]; lia) ⟨H,I.tok _,by rw [zb r]; exact q⟩
  ·subst e';obtain⟨bw,r,pl,hz⟩:=I.tuple hx;have hlen:=r.length;exact truthy_tuple pl (by simp only [aR]; lia) ⟨H,I.tok _,by rw [zb r]; exact q⟩
  ·subst e';obtain⟨hz,hS,vs,r,m⟩:kvs.length<=bo/\(p == eu)=false/\∃ vs,KV kvs vs/\s.heap.DictOf (bX X.prog X.w) p vs:=I.cz p _ hx;have hlen:kvs.length=vs.length:=fG r;exact GS hS m (by lia) ⟨H,I.tok _,by rw [Iq r]; exact q⟩
 | _=>exact(show False from e).elim
theorem HV:Lr X (j3 .Add) (fun x y H Q=>∃ i j,x=.str i/\y=.str j/\i.length+j.length<=bo/\Q (.str (i++j)) H):=by
 intro pins s σ H x y v u Q I rx ry h;obtain⟨i,j,rfl,rfl,hz,q⟩:=h;obtain⟨t,rfl⟩:=rx;obtain⟨t',rfl⟩:=ry;exact add_str (fun t' tk=>⟨.str (i++j),H,I.tok _,⟨_,rfl⟩,q⟩) hz
theorem vals1{x:V}{us:List Value}(r:Vals [x] us):∃ u,us=[u]/\RelV x u:=by
 cases r with
 | cons r1 r2=>cases r2; exact⟨_,rfl,r1⟩
theorem vals2{x y:V}{us:List Value}(r:Vals [x,y] us):∃ u w',us=[u,w']/\RelV x u/\RelV y w':=by
 cases r with
 | cons r1 r2 =>
  cases r2 with
  | cons r3 r4=>cases r4; exact⟨_,_,rfl,r1,r3⟩
noncomputable def Zj(K:ah)(x:V)(H:Hp)(n:Nat):Prop :=
 match x with
 | .str y=>y.length<=bo/\n=y.length
 | .Wh y=>y.size<=bo/\n=y.size
 | .ref p=>(∃ xs,oK K H p xs/\n=xs.length)\/∃ xs,zO K H p xs/\n=xs.length
 | _=>False
theorem QH:Um X (.builtin "len") (fun xs H Q=>∃ x n,xs=[x]/\Zj X.K x H n/\Q (.int n) H):=by
 intro pins s σ H xs us Q I r h;obtain⟨x,n,rfl,e,q⟩:=h;obtain⟨u,rfl,rx⟩:=vals1 r;have hl:=yU;have hs:bo=16777216:=cx;cases x with
 | str y =>
  obtain⟨t,rfl⟩:=rx;obtain⟨hy,e'⟩:y.length<=bo/\n=y.length:=e;subst e';exact len_str (by lia) ⟨.int _,H,I.tok _,⟨_,rfl⟩,q⟩
 | Wh y =>
  obtain⟨t,rfl⟩:=rx;obtain⟨hy,e'⟩:y.size<=bo/\n=y.size:=e;subst e';exact PySem.W.len_bytes (by lia) ⟨.int _,H,I.tok _,⟨_,rfl⟩,q⟩
 | ref p =>
  cases rx;have e':(∃ xs,oK X.K H p xs/\n=xs.length)\/∃ xs,zO X.K H p xs/\n=xs.length:=e;rcases e' with ⟨xs,hx,e'⟩ | ⟨xs,hx,e'⟩
  ·subst e';obtain⟨bw,r',pl,hz⟩:=I.list hx;have hlen:=r'.length;exact Calls.call_len_list pl.isList (by simp only [aR]; lia) ⟨.int xs.length,H,I.tok _,⟨_,by simp only [aR]; rw [hlen]⟩,q⟩
  ·subst e';obtain⟨bw,r',pl,hz⟩:=I.tuple hx;have hlen:=r'.length;exact len_tuple pl (by simp only [aR]; lia) ⟨.int xs.length,H,I.tok _,⟨_,by simp only [aR]; rw [hlen]⟩,q⟩
 | _=>exact(show False from e).elim
end
structure ahE(h:Heap)(x dx C:Addr)(mA:Str->Option Value):Prop where
 obj:h.get? x=some (PySem.W.instObj C dx)
 ns:h.Ns1 dx mA
 ne:dx≠x
theorem AR.some_of{v:V}{o:Option Value}(r:AR (some v) o):∃ u,o=some u/\RelV v u:=by
 cases o with
 | none=>exact(show False from r).elim
 | some u=>exact⟨u,rfl,r⟩
structure Cls(K:ah)(C:Addr):Prop where
 pg:PySem.W.plainGet K C Str.empty=true
 hd:PySem.W.hasDictIn K C=true
 po:PySem.W.plainOver K C=true
 sa:oU K (.ref C) "__setattr__" = some (some (.builtin "object.__setattr__"))
structure Con(K:ah)(C:Addr)(f:Str)(v:V)(u:Value):Prop where
 at_:oU K (.ref C) f=some (some u)
 rel:RelV v u
 get:Rw K u "__get__" = some none
 cp:PySem.W.copiedNames.contains f=false
structure Meth(K:ah)(C:Addr)(m:Str)(f:Addr):Prop where
 at_:oU K (.ref C) m=some (some (.ref f))
 fn:PySem.W.isFn K (.ref f)=true
 kp:lF K (.ref f)=true
section
variable {X:Cx} {pins:List (Addr×Obj)} {σ:St} {H:Hp} {s:ar} {A:c8} {E:Value->ar->Prop} {Q:Value->ar->Prop} {c:Value} {b:Bool}
inductive zN (K:ah) (H:Hp):V->Value->Prop where
 | cL:zN K H .cL (.type "NoneType")
 | bl (x:Bool):zN K H (.bl x) (.type "bool")
 | int (i:Int):zN K H (.int i) (.type "int")
 | str (x:Str):zN K H (.str x) (.type "str")
 | YV (x:UInt64):zN K H (.YV x) (.type "float")
 | lst {a:Addr} {xs:List V} (e:H a=some (.lst xs)):zN K H (.ref a) (.type "list")
 | mP {a:Addr} {o:Obj} {xs:List V} (e:H a=some (.mP o (.lst xs))):zN K H (.ref a) (.type "list")
 | tup {a:Addr} {xs:List V} (e:H a=some (.tup xs)):zN K H (.ref a) (.type "tuple")
 | dK {a:Addr} {kvs:List (Key×V)} (e:H a=some (.dK kvs)):zN K H (.ref a) (.type "dict")
 | dT {a:Addr} {kvs:List (List Key×V)} (e:H a=some (.dT kvs)):zN K H (.ref a) (.type "dict")
 | ins {a C dx:Addr} {fs:List (Str×V)} (e:H a=some (.ins C dx fs)) (cl:Cls K C) (ha:oU K (.ref C) "__class__" = some (some (.builtin "object.__class__")))
   (hn:Rw K (.builtin "object.__class__") "__get__" = some (some (.builtin "getset_descriptor.__get__"))) (htk:PySem.W.takesIn K (.builtin "object.__class__")=some true)
   (hm:PySem.W.mroIn K C (.type "object")=some true):zN K H (.ref a) (.ref C)
end
structure mK(k:Nat)(A:c8):Prop where
 hd:A.handled=none
 dp:A.depth+3 * k+5 < recursionLimit
 un:A.units+16 * k+200 < cLine
theorem mK.mono{j k:Nat}{A:c8}(r:mK k A)(h:j<=k):mK j A:=⟨r.hd,by have:=r.dp; lia,by have:=r.un; lia⟩
theorem mK.deeper{k:Nat}{A:c8}(r:mK (k+1) A)(env:Env):mK k (A.deeper env) :=
 ⟨r.hd,by have:=r.dp; show A.depth+1+3 * k+5 < _; lia,by have:=r.un; show A.units+3+16 * k+200 < _; lia⟩
theorem mK.depth{k:Nat}{A:c8}(r:mK k A):A.depth < recursionLimit:=by have:=r.dp; lia
theorem mK.units{k:Nat}{A:c8}(r:mK k A):A.units+64 < cLine:=by have:=r.un; lia
theorem mK.Oa{k:Nat}{A:c8}(r:mK k A):A.units < cLine:=by have:=r.un; lia
noncomputable abbrev Sp:=List V->Hp->VK->XK->Prop
noncomputable abbrev Na:=List Env->Hp->ar->XK->Value->ar->Prop
structure Tz(P:bE)(w:World)(K:ah)(mg:Str->Option Value)(base:Heap)(A:c8)(outer:List Env)(s:ar)(H:Hp):Prop where
 frames:A.frames=some outer
 mod:Mod K mg base
 bs:∀ b o,base.get? b=some o->s.heap.get? b=some o/\H b=none
 Tn:base.objs.size<=s.heap.objs.size
 zj:s.heap.FunFrames base outer
 WM:∀ b∈Nv outer,H b=none
 cz:tO P w H s.heap
 bare:Cf s.gens
noncomputable def CE(outer:List Env)(P:bE)(w:World)(H:Hp)(s:ar)(Q:VK)(u:Value)(s':ar):Prop :=
 ∃ v H',s'.os=s.os/\Cf s'.gens/\Un (Nv outer) [] H H' s.heap s'.heap/\tO P w H' s'.heap/\RelV v u/\Q v H'
noncomputable def CR(CX:Na)(outer:List Env)(P:bE)(w:World)(H:Hp)(s:ar)(Q:VK)(E:XK)(r:Result)(s':ar):Prop :=
 match r with
 | .ok (.ret u)=>CE outer P w H s Q u s'
 | .ok _=>False
 | .error e=>CX outer H s E e s'
structure fV(P:bE)(w:World)(K:ah)(mg:Str->Option Value)(base:Heap)(CX:Na)(k:Nat)(f:Addr)(fd:aJ)(ps:List Str)(sp:Sp):Prop where
 len:∀ vs H Q E,sp vs H Q E->vs.length=ps.length
 run:∀ (A:c8) (outer:List Env) (s:ar) (H:Hp) (args:Args) (us:List Value) (vs:List V) (Q:VK) (E:XK),mK k A->Tz P w K mg base A outer s H->NY s fd args (ps.zip us)->Vals vs us->sp vs H Q E ->
  vQ (model P w) A (.call (.ref f) args) (CR CX outer P w H s Q E) s
section
variable {X:Cx} {pins:List (Addr×Obj)} {σ:St} {H:Hp} {s s':ar}
theorem Inv.acy(I:Inv X pins σ H s):Tz X.prog X.w X.K X.mg X.base X.A X.stack s H :=
 ⟨I.ok.frames,I.ok.mod,I.bs,cC I.ok.Tn I.sz,I.stack,I.JO,I.cz,I.bare⟩
theorem Inv.after{Q:VK}{u:Value}(I:Inv X pins σ H s)(h:CE X.stack X.prog X.w H s Q u s'):EP X pins σ Q u s':=by
 obtain⟨v,H',os,bare,un,cz,r,q⟩:=h;obtain⟨hh,g,d,t,os'⟩:=s';obtain rfl:os'=s.os:=os;exact⟨v,H',I.call (h':=hh) (g':=g) (d':=d) (t':=t) (ch:=[]) un cz bare (fun b z=>absurd z (by simp)),r,q⟩
end
noncomputable def Binds(K:ah)(fd:aJ)(ps:List Str)(ds:List Value):Prop :=
 ∀ (s:ar) (us:List Value),K.In s.heap->(us++ds).length=ps.length->NY s fd ⟨us,[]⟩ (ps.zip (us++ds))
theorem Binds.all{K:ah}{fd:aJ}{ps:List Str}(h:∀ us:List Value,us.length=ps.length->bindArgs fd ⟨us,[]⟩=pure (ps.zip us)):Binds K fd ps []:=fun s us _ hl=>by
 rw [bU] at hl ⊢;exact .of_eq (h us hl)
noncomputable def Passes(CX:Na)(X:Cx)(E:XK):Prop:=∀ (pins:List (Addr×Obj)) (σ:St) (H:Hp) (s:ar) (e:Value) (s':ar),Inv X pins σ H s->CX X.stack H s E e s'->X.xe e s'
section
variable {X:Cx} {CX:Na} {k:Nat} {f C:Addr} {fd:aJ} {ps:List Str} {sp:Sp} {ZU:List V} {ds:List Value} {E:XK} {x m:Str} {p pos apos:Pos} {e o:Expr} {es:List Expr} {ta:TE} {t:TA}
theorem UT{pins:List (Addr×Obj)}{σ:St}{H:Hp}{s:ar}{Q:VK}{us:List Value}{vs:List V}(F:fV X.prog X.w X.K X.mg X.base CX k f fd ps sp)(hr:mK k X.A)(hb:Binds X.K fd ps ds)(hd:Vals ZU ds)(hx:Passes CX X E)
  (I:Inv X pins σ H s) (r:Vals vs us) (h:sp (vs++ZU) H Q E):wpAny (model X.prog X.w) X.A (call (.ref f) us) (EP X pins σ Q) X.xe s:=by
 have r2:Vals (vs++ZU) (us++ds):=r.append hd;have hl:(us++ds).length=ps.length:=by rw [<-r2.length]; exact F.len _ _ _ _ h
 refine wpAny_call (ot (F.run X.A X.stack s H ⟨us,[]⟩ (us++ds) (vs++ZU) Q E hr I.acy (hb s us I.KC hl) r2 h) fun r s' hq=>?_);cases r with
 | error e=>exact hx pins σ H s e s' I hq
 | ok fl =>
  cases fl with
  | ret u=>exact I.after hq
  | next=>exact bM hq
  | brk=>exact bM hq
  | cont=>exact bM hq
structure Mk(K:ah)(C f:Addr):Prop where
 makes:PySem.W.makesIn K C=true
 init:oU K (.ref C) "__init__" = some (some (.ref f))
 fn:PySem.W.isFn K (.ref f)=true
 kp:lF K (.ref C)=true
end
section
variable {X:Cx} {CX:Na} {k:Nat} {f C:Addr} {fd:aJ} {ps ks:List Str} {sp:Sp} {E:XK} {x m:Str} {p pos apos ae0:Pos} {e o:Expr} {es:List Expr} {kws:List NW} {te ta:TE} {t tk:TA} {nm:Option Str}
structure acJ(K:ah)(fd:aJ)(ps ks:List Str)(g:List Value->List Value->List Value)(gV:List V->List V->List V):Prop where
 to:∀ (s:ar) (us ws:List Value),K.In s.heap->(g us ws).length=ps.length->NY s fd ⟨us,ks.zip ws⟩ (ps.zip (g us ws))
 rel:∀ {vs:List V} {us:List Value} {zs:List V} {ws:List Value},Vals vs us->Vals zs ws->Vals (gV vs zs) (g us ws)
variable {g:List Value->List Value->List Value} {gV:List V->List V->List V}
end
structure cG(N P:List Str)(sc:Scope):Prop where
 kind:sc.kind=.function
 co:sc.isCoroutine=false
 gen:sc.isGenerator=false
 nd:N.Nodup
 pre:N.take P.length=P
 par:∀ x∈P,sc.names.lookup x=some .local\/sc.names.lookup x=some .cell
 Vm:∀ y∈sc.names,y.2≠.free
theorem B2{kindOf:Str->Option sk}{x:Str}:∀ {binds:List (Str×Value)} {m:Str->Option Value},(∀ v,(x,v)∉binds)->bindL kindOf binds m x=m x
 | [],_,_=>rfl
 | (n,v) :: r,m,h=>by
  unfold bindL;rw [B2 fun w hw=>h w (ao _ hw)];split
  ·have:x≠n:=by rintro rfl; exact h v aB
   simp [this]
  ·rfl
theorem B4{kindOf:Str->Option sk}{x:Str}:∀ {binds:List (Str×Value)} {m:Str->Option Value},(∀ v,(x,v)∉binds)->bindC kindOf binds m x=m x
 | [],_,_=>rfl
 | (n,v) :: r,m,h=>by
  unfold bindC;rw [B4 fun w hw=>h w (ao _ hw)];split
  ·rfl
  ·have:x≠n:=by rintro rfl; exact h v aB
   simp [this]
theorem B3{kindOf:Str->Option sk}{x:Str}{v:Value}:∀ {P:List Str} {vs:List Value} {i:Nat} {m:Str->Option Value},P.Nodup->P[i]?=some x->vs[i]?=some v->kindOf x=some .local ->
  bindL kindOf (P.zip vs) m x=some v
 | [],_,_,_,_,h,_,_=>by simp at h
 | _ :: _,[],_,_,_,_,h,_=>by simp at h
 | p :: P,w :: vs,0,m,nd,h1,h2,hk=>by
  simp at h1 h2; subst h1; subst h2;show bindL kindOf ((p,w) :: P.zip vs) m p=_;unfold bindL;rw [B2 fun v hv=>(List.nodup_cons.mp nd).1 (vF hv).1,if_pos hk];simp
 | p :: P,w :: vs,i+1,m,nd,h1,h2,hk=>by
  show bindL kindOf ((p,w) :: P.zip vs) m x=_;unfold bindL;exact B3 (i:=i) (List.nodup_cons.mp nd).2 (by simpa using h1) (by simpa using h2) hk
theorem B5{kindOf:Str->Option sk}{x:Str}{v:Value}:∀ {P:List Str} {vs:List Value} {i:Nat} {m:Str->Option Value},P.Nodup->P[i]?=some x->vs[i]?=some v->kindOf x≠some .local ->
  bindC kindOf (P.zip vs) m x=some v
 | [],_,_,_,_,h,_,_=>by simp at h
 | _ :: _,[],_,_,_,_,h,_=>by simp at h
 | p :: P,w :: vs,0,m,nd,h1,h2,hk=>by
  simp at h1 h2; subst h1; subst h2;show bindC kindOf ((p,w) :: P.zip vs) m p=_;unfold bindC;rw [B4 fun v hv=>(List.nodup_cons.mp nd).1 (vF hv).1,if_neg hk];simp
 | p :: P,w :: vs,i+1,m,nd,h1,h2,hk=>by
  show bindC kindOf ((p,w) :: P.zip vs) m x=_;unfold bindC;exact B5 (i:=i) (List.nodup_cons.mp nd).2 (by simpa using h1) (by simpa using h2) hk
noncomputable def start(N:List Str)(vs:List V):St:=vs.map some++aK (N.length - vs.length) none
noncomputable def FZ(CX:Na)(P:bE)(w:World)(K:ah)(mg:Str->Option Value)(base:Heap)(N:List Str)(qual:Str)(scope:Scope)(f:Addr)(cd:Value)(A:c8)(outer:List Env)(s:ar)(H:Hp)(E:XK):Cx where
 prog:=P
 w:=w
 K:=K
 mg:=mg
 base:=base
 A:=A.deeper (D9 qual scope s.heap.objs.size f cd)
 N:=N
 mV:=s
 Q0:=H
 env:=D9 qual scope s.heap.objs.size f cd
 outer:=outer
 stack:=D9 qual scope s.heap.objs.size f cd :: outer
 ex:=[]
 calm:=true
 fn:=fun _=>true
 pn:=[]
 xe:=fun e s'=>wpAny (model P w) (A.deeper (D9 qual scope s.heap.objs.size f cd)) (leaving (D9 qual scope s.heap.objs.size f cd) e) (fun _ UP=>CX outer H s E e UP) (fun e' UP=>CX outer H s E e' UP) s'
theorem Gg{sc:Scope}{n:Nat}{x:Str}(h:sc.names.lookup x=some .cell):∃ c,(cellsFrom n sc.names []).lookup x=some c:=by
 have q:=Jx sc.names n [] (.inl h);exact Option.isSome_iff_exists.mp q
theorem Ml{CX:Na}{P:bE}{w:World}{K:ah}{mg:Str->Option Value}{base:Heap}{N ps:List Str}{qual:Str}{scope:Scope}{f:Addr}{cd:Value}{A:c8}{outer:List Env}{s s1:ar}{H:Hp}{E:XK}{us:List Value}{vs:List V}
  (S:cG N ps scope) (hd:A.handled=none) (e0:Tz P w K mg base A outer s H) (hl:vs.length=ps.length) (r:Vals vs us)
  (x:InCallC s s.heap.objs.size (bindL (D9 qual scope s.heap.objs.size f cd).kindOf (ps.zip us) fun _=>none) (cellsFrom (s.heap.objs.size+1) scope.names []) (bindC (D9 qual scope s.heap.objs.size f cd).kindOf (ps.zip us) fun _=>none) s1) :
  Inv (FZ CX P w K mg base N qual scope f cd A outer s H E) [] (start N vs) H s1:=by
 have BH:ps.length<=N.length:=by have:=congrArg cV S.pre; rw [di] at this; lia
 obtain⟨h1,tk,rfl,hk⟩:=x.done;have XO:∀ b:Addr,b∉(FZ CX P w K mg base N qual scope f cd A outer s H E).ex:=fun b z=>absurd (show b∈([]:List Addr) from z) (by simp);refine⟨⟨e0.mod,S.kind,rfl,rfl,aC _,fun y z c h1 h2=>?_,fun y hy=>?_,fun y c _ h=>?_,fun _=>hd,Around.frames_deeper e0.frames,.inr ⟨rfl,rfl⟩,fun b z=>absurd z (XO b),e0.bs,e0.Tn,fun b _ _=>XO b,fun b z=>absurd z (XO b),e0.zj,e0.WM⟩,
  rfl,e0.bare,Un.kept hk,⟨_,x.toInCall.ns,fun i y v h1 h2 h3=>?_⟩,fun y c h=>⟨_,x.cell y c h⟩,e0.cz.fresh (aC _),fun y c h=>?_,fun p hp=>absurd (show p∈([]:List (Addr×Obj)) from hp) (by simp),e0.cz.kept hk,?_⟩
 ·exact name_of_addr x.apart (hU h1) (hU h2)
 ·have hy:scope.names.lookup y=some .cell\/scope.names.lookup y=some .free:=hy;rcases hy with hy | hy
  ·exact Gg hy
  ·exact absurd rfl (S.Vm _ (hU hy))
 ·exact DW (x.above y c (hU h))
 ·have hi:i < vs.length:=by
   unfold start at h2;by_cases hi:i < vs.length
   ·exact hi
   ·rw [cA (by simpa using hi)] at h2;rw [h8] at h2;split at h2 <;> cases h2
  have ha:vs[i]?=some v:=by
   unfold start at h2;rw [dq (by simpa using hi),aX] at h2;cases e:vs[i]? with
   | none=>rw [e] at h2; cases h2
   | some a=>rw [e] at h2; cases h2; rfl
  obtain⟨u,hu,rv⟩:=r.get ha;have hp:ps[i]?=some y:=by
   rw [<-S.pre,rh (by lia)]; exact h1
  have ndP:ps.Nodup:=by rw [<-S.pre]; exact S.nd.sublist (List.take_sublist _ _)
  refine⟨u,rv,?_⟩;rcases S.par y (eV hp) with k | k
  ·exact .inl ⟨k,B3 ndP hp hu k⟩
  ·obtain⟨c,e⟩:=Gg (n:=s.heap.objs.size+1) k;refine .inr ⟨.inl k,c,e,?_⟩;have q:=x.cell y c e;rw [B5 ndP hp hu (by show scope.names.lookup y≠_; rw [k]; decide)] at q;exact q
 ·exact e0.cz.fresh (DW (x.above y c (hU h)))
 ·unfold start;show _=N.length;rw [aw,ag,da];lia
theorem YU{CX:Na}{P:bE}{w:World}{K:ah}{mg:Str->Option Value}{base:Heap}{k:Nat}{f:Addr}{name qual:Str}{params:Arguments}{body:List Stmt}{scope:Scope}{dV kV doc pm oR ct oc:Value}{an od:Option Addr}
  {O0:Array (Option Value)} {N ps:List Str} {sp:Sp} (lk:K.lookup f=some ⟨oc,od,.func (jT name qual params body scope dV kV doc pm an oR ct),O0⟩) (GQ:Ec K oR qual=true) (S:cG N ps scope)
  (len:∀ vs H Q E,sp vs H Q E->vs.length=ps.length)
  (PU:∀ (A:c8) (outer:List Env) (s:ar) (H:Hp) (vs:List V) (Q:VK) (E:XK),mK k (A.deeper (D9 qual scope s.heap.objs.size f oR))->sp vs H Q E ->
   ∃ t,WQ (FZ CX P w K mg base N qual scope f oR A outer s H E) body t/\t { nx:=fun _ H'=>Q .cL H',rt:=Q } (start N vs) H) :
  fV P w K mg base CX (k+1) f (jT name qual params body scope dV kV doc pm an oR ct) ps sp:=by
 refine⟨len,fun A outer s H args us vs Q E hr e0 hb r T4=>?_⟩;have hl:=len _ _ _ _ T4;have KX:K.In s.heap:=e0.mod.VC.keeps fun b o e=>(e0.bs b o e).1;have lim:s.heap.NoLimit:=e0.mod.nolimit.keeps fun b o e=>(e0.bs b o e).1;have BJ:∀ y∈ps.zip us,scope.names.lookup y.1=some .local\/(scope.names.lookup y.1=some .cell/\((cellsFrom (s.heap.objs.size+1) scope.names []).lookup y.1).isSome=true):=fun ⟨n,v⟩ hy=>by
  rcases S.par n (vF hy).1 with q | q
  ·exact .inl q
  ·exact .inr ⟨q,Jx _ _ _ (.inl q)⟩
 refine codeAny_call_function hr.depth (KX _ _ lk) rfl S.co S.gen rfl (PySem.W.codeRec_of KX GQ) (hb _ _ _ _ ?_);refine wpAny_newFunctionEnv_cells S.kind BJ fun env he s1 x=>?_;subst he;refine⟨lim.keeps x.toInCall.keep,codeAny_func ?_⟩;obtain⟨t,ht,hq⟩:=PU A outer s H vs Q E (hr.deeper _) T4;have I:Inv (FZ CX P w K mg base N qual scope f oR A outer s H E) [] (start N vs) H s1:=Ml S hr.hd e0 hl r x;refine jc (ht [] s1 (start N vs) H _ I hq) (fun fl s' hs=>?_) fun e s' hs=>hs;have fin:∀ {jC:St} {H':Hp} {v:V} {u:Value},Inv (FZ CX P w K mg base N qual scope f oR A outer s H E) [] jC H' s'->RelV v u->Q v H'->CE outer P w H s Q u s' :=
  fun {jC H' v u} J rv q=>⟨v,H',J.os,J.bare,J.base,J.cz,rv,q⟩
 cases fl with
 | ret u =>
  obtain⟨v,jC,H',J,rv,q⟩:=hs;exact fin J rv q
 | next =>
  obtain⟨jC,H',J,q⟩:=hs;exact fin (v:=V.cL) (u:=dG) J rfl q
 | brk =>
  obtain⟨_,_,_,q⟩:=hs;exact bM q
 | cont =>
  obtain⟨_,_,_,q⟩:=hs;exact bM q
end L2
namespace HT
open PySem PyProof.Rows
noncomputable def lexLt:List Int->List Int->Bool
 | [],[]=>false
 | [],_ :: _=>true
 | _ :: _,[]=>false
 | x :: xs,y :: ys=>if x=y then lexLt xs ys else decide (x < y)
theorem Im(x y:Int)(xs ys:List Int):lexLt (x :: xs) (y :: ys)=if x=y then lexLt xs ys else decide (x < y):=rfl
theorem Av:lexLt [] []=false:=rfl
theorem yX(y:Int)(ys:List Int):lexLt [] (y :: ys)=true:=rfl
theorem yY(x:Int)(xs:List Int):lexLt (x :: xs) []=false:=rfl
theorem Ql(A:c8)(s:ar)(a:Int)(t:Tok)(c:Int)(u:Tok):∃ e,SeqAt.EqAt A s (.int a t) (.int c u) e/\(e=true↔a=c) :=
 ⟨(a == c),SeqAt.EqAt.int_int a t c u,by simp⟩
theorem yE(A:c8)(s:ar)(a:Int)(t:Tok)(c:Int)(u:Tok)(prog:bE)(w:World)(E:Value->ar->Prop)(Q:Value->ar->Prop)(h:Q (.bool (decide (a < c))) s) :
  wpAny (model prog w) A (qf .Lt (.int a t) (.int c u)) Q E s :=
 (PyProof.Rows.lt_int h:wpAny (model prog w) A (dB .Lt (.int a t) (.int c u)) Q E s)
section
open PySem.SeqAt
open PySem.AutoSeq1 (wpAny_loadPart')
open PySem.MeetsSeq PySem.MeetsSeq2 PySem.MeetsSeq3
theorem Am(l b:Addr)(items nX:Array Value)(n n2:Nat)(dd K7:Option Addr)(sl JV:Array (Option Value))(ns ms:List Int)(hi:me items.toList ns)(hj:me nX.toList ms) :
  Meets (Builtin.«tuple.__lt__» ⟨[.ref l,.ref b],[]⟩)
   (fun _ R s=>s.heap.get? l=some { cls:=.type "tuple",dict:=dd,data:=.seq items n,slots:=sl }/\s.heap.get? b=some { cls:=.type "tuple",dict:=K7,data:=.seq nX n2,slots:=JV } /\
    R (.ok (.ret (.bool (lexLt ns ms)))) s) :=
 .of_wp fun prog w A R s h=>by
  obtain⟨hp,g,d,tk,os⟩:=s; obtain⟨hl,hb,h⟩:=h;have f2:=pM;have z1:items.size=ns.length:=by rw [<-hi.length]; simp
  have z2:nX.size=ms.length:=by rw [<-hj.length]; simp
  wp_walk using bI hl,bI hb,iW _ (fun rest b s'=>b.1=none/\s'=⟨hp,g,d,tk,os⟩/\∃ (vs ws:List Value) (Wz WC:List Int),rest=vs.zip ws /\
   me vs Wz/\me ws WC/\Wz.length+nX.size=WC.length+items.size/\R (.ok (.ret (.bool (lexLt Wz WC)))) ⟨hp,g,d,tk,os⟩) _
  case turn =>
   rintro⟨y,x⟩ rest b s' ⟨uS,rfl,vs,ws,Wz,WC,hz,WE,ZE,hlen,hR⟩;cases WE with
   | nil=>rw [List.zip_nil_left] at hz; cases hz
   | cons a t abI =>
    cases ZE with
    | nil=>rw [List.zip_nil_right] at hz; cases hz
    | cons c u abF =>
     rw [pT] at hz;injection hz with hyx PO
     injection hyx with hy hx
     subst hy hx;rw [Im] at hR;simp only [ak] at hlen;obtain⟨e,he,Yw⟩:=Ql A.in1 ⟨hp,g,d,tk,os⟩ a t c u;refine ae (he prog w _ _ ?_);cases e with
     | true =>
      rw [if_pos (Yw.mp rfl)] at hR
      wp_walk
      exact⟨rfl,rfl,_,_,_,_,PO,abI,abF,by lia,hR⟩
     | false =>
      rw [if_neg (fun q=>absurd (Yw.mpr q) eT)] at hR;have Yi:=yE A.in1 ⟨hp,g,d,tk,os⟩ a t c u prog w
      wp_walk using Yi
      exact⟨_,rfl,by simpa using hR⟩
  case fin =>
   rintro⟨b1,b2⟩ s' ⟨uS,rfl,vs,ws,Wz,WC,hz,WE,ZE,hlen,hR⟩;simp only at uS;subst uS;have hv:lexLt Wz WC=decide (items.size < nX.size):=by
    cases WE with
    | nil =>
     cases ZE with
     | nil =>
      simp only [aG] at hlen;rw [Av];exact(decide_eq_false (by lia)).symm
     | cons c u hw =>
      simp only [aG,ak] at hlen;rw [yX];exact(decide_eq_true (by lia)).symm
    | cons a t hv =>
     cases ZE with
     | nil =>
      simp only [aG,ak] at hlen;rw [yY];exact(decide_eq_false (by lia)).symm
     | cons c u hw =>
      rw [pT] at hz;cases hz
   rw [hv] at hR
   wp_walk
   exact⟨_,rfl,by simpa [tW] using hR⟩
  case h =>
   exact⟨rfl,rfl,items.toList,nX.toList,ns,ms,rfl,hi,hj,by lia,h⟩
end
section
variable {prog:bE} {w:World} {A:c8} {E:Value->ar->Prop} {s:ar}
theorem yQ{l b:Addr}{items nX:Array Value}{ns ms:List Int}{Q:Value->ar->Prop}(hl:IsTup s.heap l items)(hb:IsTup s.heap b nX)(hi:me items.toList ns)(hj:me nX.toList ms)
  (hu:A.units < cLine) (h:Q (.bool (lexLt ns ms)) s):wpAny (model prog w) A (dB .Lt (.ref l) (.ref b)) Q E s:=by
 obtain⟨⟨cls,dd,data,sl⟩,ho,hc,n,hd⟩:=id hl;obtain⟨⟨QF,K7,data2,JV⟩,BI,C9,n2,hd2⟩:=id hb;simp only at hc hd C9 hd2;subst hc hd C9 hd2;exact xf (op:=.Lt) ⟨_,ho,rfl⟩ ⟨_,BI,rfl⟩ lK rP (qk _ _) (Am l b items nX n n2 dd K7 sl JV ns ms hi hj)
  ⟨ho,BI,show Value.bool (lexLt ns ms)≠Value.notImplemented/\Q (.bool (lexLt ns ms)) s from⟨(fun x=>nomatch x),h⟩⟩ hu
theorem Th{t b:Addr}{vs ws:List Value}{Q:Value->ar->Prop}(ht:IsTup s.heap t vs.toArray)(hb:IsTup s.heap b ws.toArray)(hv:vs≠[])
  (h1:ws=[]->Q (.ref t) s) (h2:ws≠[]->Q (.ref s.heap.objs.size) { s with heap:=s.heap.push { cls:=.type "tuple",data:=.seq (vs++ws).toArray } })
  (hsz:vs.length+ws.length<=bo):wpAny (model prog w) A (j3 .Add (.ref t) (.ref b)) Q E s:=by
 obtain⟨⟨cls,dd,data,sl⟩,ho,hc,n,hd⟩:=id ht;obtain⟨⟨QF,K7,data2,JV⟩,BI,C9,n2,hd2⟩:=id hb;simp only at hc hd C9 hd2;subst hc hd C9 hd2;have e:vs.toArray++ws.toArray=(vs++ws).toArray:=by simp
 by_cases hw:ws=[]
 ·exact concat_meets ⟨_,ho,rfl⟩ ⟨_,BI,rfl⟩ noFill_tuple_add seq_tuple_add Jy Hd (GF _ _)
   (tuple_addW1 t b vs.toArray ws.toArray n n2 dd K7 sl JV (by simpa using hv) (by simp [hw])) ⟨ho,BI,h1 hw⟩
 ·refine concat_meets ⟨_,ho,rfl⟩ ⟨_,BI,rfl⟩ noFill_tuple_add seq_tuple_add Jy Hd (GF _ _)
   (tuple_addW2 t b vs.toArray ws.toArray n n2 dd K7 sl JV (by simpa using hv) (by simpa using hw) (by rw [aR,aR]; exact hsz)) ⟨ho,BI,?_⟩
  rw [e];exact h2 hw
noncomputable def i4(n d:Nat):Option Int->Nat
 | none=>d
 | some v=>if v < 0 then (v+(n:Int)).toNat else min v.toNat n
theorem UO(n d:Nat)(hd:d<=n)(o:Option Int):i4 n d o<=n:=by
 cases o with
 | none=>exact hd
 | some v =>
  show (if v < 0 then (v+(n:Int)).toNat else min v.toNat n)<=n;by_cases hv:v < 0
  ·rw [if_pos hv]; lia
  ·rw [if_neg hv]; exact Nat.min_le_right _ _
theorem Lb(v:Int)(n d:Nat):(if v < 0 then max (v+(n:Int)) 0 else min v (n:Int))=((i4 n d (some v):Nat):Int):=by
 show (if v < 0 then max (v+(n:Int)) 0 else min v (n:Int))=(((if v < 0 then (v+(n:Int)).toNat else min v.toNat n):Nat):Int);by_cases hv:v < 0
 ·simp only [if_pos hv]; lia
 ·simp only [if_neg hv]; lia
theorem Jn(lo hi:Option Int)(n:Nat):mU lo hi 1 (n:Int)=(((i4 n 0 lo:Nat):Int),((i4 n n hi:Nat):Int)):=by
 have h1:¬ ((1:Int) < 0):=by lia
 unfold mU;simp only [h1,if_false];refine Prod.ext ?_ ?_
 ·cases lo with
  | none=>rfl
  | some v=>exact Lb v n 0
 ·cases hi with
  | none=>rfl
  | some v=>exact Lb v n n
theorem HP(i j:Nat):iR (i:Int) (j:Int) 1=j - i:=by
 unfold iR;have h1:(1:Int) > 0:=by lia
 simp only [h1,if_true,Int.ediv_one];split <;> lia
theorem yq{v:Value}{o:Option Int}{Q:Option Int->ar->Prop}(p:IsPart v o)(h:Q o s):wpAny (model prog w) A (Builtin.Slice.slicePartIndex v) Q E s:=by
 cases p with
 | none=>exact slicePart_none h
 | int i t=>exact slicePart_int h
theorem vZ{sl:Addr}{vl vu:Value}{lo hi:Option Int}{n:Nat}{Q:Int×Int×Nat->ar->Prop}(hs:s.heap.IsSliceOf sl vl vu .none)(pl:IsPart vl lo)(pu:IsPart vu hi)
  (h:Q (((i4 n 0 lo:Nat):Int),1,i4 n n hi - i4 n 0 lo) s):wpAny (model prog w) A (xC (.ref sl) (pure (n:Int))) Q E s:=by
 obtain⟨os,Yl,hcs,ZK⟩:=id hs;unfold xC Builtin.Slice.sliceFields;refine ae (ae (NH Yl ZK (x:=vl) rfl (ae (NH Yl ZK (x:=vu) rfl (ae (NH Yl ZK (x:=.none) rfl (aj ?_)))))));refine ae (slicePart_none ?_);show wpAny _ _ (if ((1:Int) == 0)=true then _ else _) _ _ s;rw [if_neg (by decide)];refine ae (yq pl (ae (yq pu (ae (aj ?_)))));show wpAny _ _ (match mU lo hi 1 (n:Int) with | (lo,hi)=>pure (lo,(1:Int),iR lo hi 1)) _ _ s;rw [Jn lo hi n];show wpAny _ _ (pure (((i4 n 0 lo:Nat):Int),(1:Int),iR ((i4 n 0 lo:Nat):Int) ((i4 n n hi:Nat):Int) 1)) _ _ s;rw [HP];exact aj h
theorem OV(xs:Array Value)(i k:Nat):((aU k).filterMap fun (m:Nat)=>xs[((i:Int)+(m:Int) * 1).toNat]?).toArray=((xs.toList.drop i).take k).toArray:=by
 have e:(fun (m:Nat)=>xs[((i:Int)+(m:Int) * 1).toNat]?)=fun m=>xs[i+m]?:=by
  funext m;have:((i:Int)+(m:Int) * 1).toNat=i+m:=by lia
  rw [this]
 rw [e];have:=pick_run xs i k;rw [List.filterMap_map] at this;have e2:((fun x=>xs[x]?)∘fun x=>i+x)=fun m=>xs[i+m]?:=rfl;rw [e2] at this;rw [this]
theorem uU{t sl:Addr}{items:Array Value}{vl vu:Value}{lo hi:Option Int}{Q:Value->ar->Prop}(ht:IsTup s.heap t items)(hs:s.heap.IsSliceOf sl vl vu .none)(pl:IsPart vl lo)(pu:IsPart vu hi)
  (hw:¬ (i4 items.size 0 lo=0/\i4 items.size items.size hi=items.size))
  (h:Q (.ref s.heap.objs.size) { s with heap:=s.heap.push { cls:=.type "tuple",data:=.seq ((items.toList.drop (i4 items.size 0 lo)).take (i4 items.size items.size hi - i4 items.size 0 lo)).toArray } })
  (hsz:items.size<=bo):wpAny (model prog w) A (getItem (.ref t) (.ref sl)) Q E s:=by
 have KN:sizeOk (.seq ((items.toList.drop (i4 items.size 0 lo)).take (i4 items.size items.size hi - i4 items.size 0 lo)).toArray):=by
  show ((items.toList.drop (i4 items.size 0 lo)).take (i4 items.size items.size hi - i4 items.size 0 lo)).toArray.size<=bo;rw [aR];exact cC (cC (List.length_take_le' _ _) (by rw [ck,bp]; exact Nat.sub_le _ _)) hsz
 have hj:i4 items.size items.size hi<=items.size:=UO _ _ (aC _) hi;obtain⟨os,Yl,hcs,ZK⟩:=id hs;have hTs:s.TypeIs (.ref sl) "slice":=⟨os,Yl,hcs⟩;unfold getItem
 try with_reducible refine cX ?_
 first | refine ae (aj ?_) | skip
 refine ae (wpAny_sequenceKey ht.typeIs (by decide) ?_);refine ae (eY (name:=mR "__getitem__") ht.typeIs vD
  (cI vD ht.typeIs entry_tuple_getitem ?_ (args_tuple_getitem _ _)))
 show wpAny _ _ (Builtin.Tuple.tupleItemsOf (.ref t) >>= _) _ _ s;refine ae (tupleItemsOf_ ht ?_);refine ae (Ju hTs ?_);rw [if_pos (by decide)];refine ae (vZ hs pl pu ?_);have VQ:¬ ((((i4 items.size 0 lo:Nat):Int) == 0&&(1:Int) == 1&&(i4 items.size items.size hi - i4 items.size 0 lo) == items.size)=true):=by
  intro q;rw [aN,aN] at q;have q1:((i4 items.size 0 lo:Nat):Int)=0:=eq_of_beq q.1.1;have q2:i4 items.size items.size hi - i4 items.size 0 lo=items.size:=eq_of_beq q.2;exact hw ⟨by lia,by lia⟩
 show wpAny _ _ (if (((i4 items.size 0 lo:Nat):Int) == 0&&(1:Int) == 1&&(i4 items.size items.size hi - i4 items.size 0 lo) == items.size)=true then _ else _) _ _ s;rw [if_neg VQ,OV]
 first
  | exact ae (m:=jh _) (cD (aj ⟨_,rfl,aj h⟩) KN)
  | exact ae (m:=jh _) (cD (ae (aj (aj ⟨_,rfl,aj h⟩))) KN)
  | exact ae (ae (m:=jh _) (cD (aj (aj ⟨_,rfl,aj h⟩)) KN))
  | exact ae (ae (m:=jh _) (cD (aj ⟨_,rfl,aj h⟩) KN))
end
end HT
namespace L2
open PySem PySem.Spec PyProof.Rows
noncomputable abbrev TO:=St->Hp->(Option Int->Hp->Prop)->Prop
theorem intsAre_of{ns:List Int}:∀ {us:List Value},Vals (ns.map V.int) us->me us ns:=by
 induction ns with
 | nil=>intro us r; rw [bc] at r; cases r; exact .nil
 | cons n ns ih =>
  intro us r;rw [av] at r;cases r with
  | cons r1 r2 =>
   obtain⟨t,e⟩:=r1;subst e;exact .cons n t (ih r2)
section
variable {X:Cx} {e:Expr} {te:TE} {lo hi:Option Expr} {tl th:TO} {pos p2:Pos}
noncomputable def SlR(X:Cx)(r:V->Option Int->Option Int->Hp->VK->Prop):Prop :=
 ∀ (pins:List (Addr×Obj)) (s:ar) (σ:St) (H:Hp) (x:V) (v vl vu:Value) (lo hi:Option Int) (sl:Addr) (Q:VK),Inv X pins σ H s->RelV x v->s.heap.IsSliceOf sl vl vu .none->IsPart vl lo->IsPart vu hi->r x lo hi H Q ->
  ∃ T id,typeLookup (.type T) "__getitem__" = pure (some (.builtin id))/\s.TypeIs v T/\wpAny (model X.prog X.w) X.A (getItem v (.ref sl)) (EP X pins σ Q) X.xe s
noncomputable def Gb(xs:List V)(lo hi:Option Int):List V:=(xs.drop (HT.i4 xs.length 0 lo)).take (HT.i4 xs.length xs.length hi - HT.i4 xs.length 0 lo)
theorem xa(xs:List V)(lo hi:Option Int):(Gb xs lo hi).length<=xs.length:=by
 unfold Gb;rw [di,ck];lia
noncomputable def aaG(K:ah):V->Option Int->Option Int->Hp->VK->Prop:=fun x lo hi H Q=>∃ a xs,x=.ref a/\zO K H a xs /\
 ¬ (HT.i4 xs.length 0 lo=0/\HT.i4 xs.length xs.length hi=xs.length)/\∀ p,H p=none->Q (.ref p) (upd H p (.tup (Gb xs lo hi)))
theorem UN:SlR X (aaG X.K):=by
 intro pins s σ H x v vl vu lo hi sl Q I rx hs pl pu h;obtain⟨a,xs,rfl,hx,hw,q⟩:=h;cases rx;obtain⟨bw,r,ht,hz⟩:=I.tuple hx;have hlen:bw.toArray.size=xs.length:=by rw [aR]; exact r.length.symm
 refine⟨"tuple",_,PyProof.Rows.slot_tuple_getitem.lookup,ht.typeIs,?_⟩;refine HT.uU ht hs pl pu (by rw [hlen]; exact hw) ?_ (by rw [hlen]; exact hz);rw [hlen];refine⟨.ref s.heap.objs.size,_,I.laid (t':=s.toks) (o:=.tup (Gb xs lo hi)) (fun b ob q=>aE _ q) (aC _) ?_,rfl,q _ (I.cz.fresh (aC _))⟩;exact⟨cC (xa xs lo hi) hz,_,(r.drop (HT.i4 xs.length 0 lo)).take (HT.i4 xs.length xs.length hi - HT.i4 xs.length 0 lo),IsTup.new _ _⟩
noncomputable def aaI(K:ah):R2:=fun x y H Q=>∃ a b ns ms,x=.ref a/\y=.ref b/\zO K H a (ns.map V.int)/\zO K H b (ms.map V.int)/\Q (.bl (HT.lexLt ns ms)) H
theorem Vg(hu:X.A.units < cLine):Lr X (dB .Lt) (aaI X.K):=by
 intro pins s σ H x y v u Q I rx ry h;obtain⟨a,b,ns,ms,rfl,rfl,ha,hb,q⟩:=h;cases rx;cases ry;obtain⟨bw,r1,p1,_⟩:=I.tuple ha;obtain⟨r8,r2,p2,_⟩:=I.tuple hb;have i1:me bw.toArray.toList ns:=intsAre_of r1;have i2:me r8.toArray.toList ms:=intsAre_of r2;exact HT.yQ p1 p2 i1 i2 hu ⟨.bl (HT.lexLt ns ms),H,I,rfl,q⟩
noncomputable def Xu(K:ah):R2:=fun x y H Q=>∃ a b xs ys,x=.ref a/\y=.ref b/\zO K H a xs/\zO K H b ys/\xs≠[]/\xs.length+ys.length<=bo /\
 (ys=[]->Q (.ref a) H)/\(ys≠[]->∀ p,H p=none->Q (.ref p) (upd H p (.tup (xs++ys))))
theorem Vals.CV{xs:List V}{us:List Value}(r:Vals xs us):us=[]↔xs=[]:=by
 cases r with
 | nil=>simp
 | cons _ _=>simp
theorem Sq:Lr X (j3 .Add) (Xu X.K):=by
 intro pins s σ H x y v u Q I rx ry h;obtain⟨a,b,xs,ys,rfl,rfl,ha,hb,hx,hz,q1,q2⟩:=h;cases rx;cases ry;obtain⟨bw,r1,p1,_⟩:=I.tuple ha;obtain⟨r8,r2,p2,_⟩:=I.tuple hb;refine HT.Th p1 p2 (fun z=>hx (r1.CV.mp z)) (fun z=>⟨.ref a,H,I,rfl,q1 (r2.CV.mp z)⟩) (fun z=>?_) (by rw [<-r1.length,<-r2.length]; exact hz);refine⟨.ref s.heap.objs.size,_,I.laid (t':=s.toks) (o:=.tup (xs++ys)) (fun b ob q=>aE _ q) (aC _) ?_,rfl,q2 (fun w=>z (r2.CV.mpr w)) _ (I.cz.fresh (aC _))⟩;exact⟨by rw [aw]; exact hz,_,r1.append r2,IsTup.new _ _⟩
end
noncomputable def Fh(n:Nat)(i:Int):Option Nat:=if 0<=i then (if i < n then some i.toNat else none) else if -(n:Int)<=i then some (i+n).toNat else none
noncomputable def pJ{α:Type}(xs:List α)(i:Int):Option α:=(Fh xs.length i).bind fun j=>xs[j]?
theorem KG{n:Nat}{i:Int}{j:Nat}(h:Fh n i=some j):seqIndex? i n=some j/\j < n/\-(n:Int)<=i/\i < n:=by
 unfold Fh at h;by_cases h0:0<=i
 ·rw [if_pos h0] at h;by_cases h1:i < n
  ·rw [if_pos h1] at h;have e:i.toNat=j:=bu h;exact⟨by rw [seqIndex_of h0 h1,e],by lia,by lia,h1⟩
  ·rw [if_neg h1] at h; cases h
 ·rw [if_neg h0] at h;by_cases h1:-(n:Int)<=i
  ·rw [if_pos h1] at h;have e:(i+n).toNat=j:=bu h;exact⟨by rw [seqIndex_neg (by lia) h1,e],by lia,h1,by lia⟩
  ·rw [if_neg h1] at h; cases h
theorem Lh{α:Type}{xs:List α}{i:Int}{v:α}(h:pJ xs i=some v):∃ j,seqIndex? i xs.length=some j/\xs[j]?=some v/\j < xs.length/\-(xs.length:Int)<=i/\i < xs.length:=by
 unfold pJ at h;cases e:Fh xs.length i with
 | none=>rw [e] at h; cases h
 | some j =>
  rw [e] at h;obtain⟨h1,h2,h3,h4⟩:=KG e;exact⟨j,h1,h,h2,h3,h4⟩
noncomputable def Tt(b:Expr):Prop:=∀ o i,subscripted b false o i=operate [o,i] (getItem o i)
noncomputable def IxR(X:Cx)(r:R2):Prop :=
 ∀ (value slice:Expr) (pins:List (Addr×Obj)) (s:ar) (σ:St) (H:Hp) (x y:V) (v u:Value) (Q:VK),Inv X pins σ H s->RelV x v->RelV y u->r x y H Q ->
  subscripted slice false v u=operate [v,u] (getItem v u)->wpAny (model X.prog X.w) X.A (subscriptTail value slice v u) (EP X pins σ Q) X.xe s
noncomputable def MtR(X:Cx)(id:String)(r:V->List V->Hp->VK->Prop):Prop :=
 ∀ (pins:List (Addr×Obj)) (s:ar) (σ:St) (H:Hp) (x:V) (xs:List V) (v:Value) (us:List Value) (Q:VK),Inv X pins σ H s->RelV x v->Vals xs us->r x xs H Q ->
  wpAny (model X.prog X.w) X.A (call (.builtin id) (v :: us)) (EP X pins σ Q) X.xe s
section
variable {X:Cx} {a b:Expr} {ta tb:TE} {pos:Pos}
noncomputable def aaK(K:ah):R2:=fun x y H Q=>∃ p xs i v,x=.ref p/\y=.int i/\oK K H p xs/\pJ xs i=some v/\Q v H
noncomputable def aaJ(K:ah):R2:=fun x y H Q=>∃ p xs i v,x=.ref p/\y=.int i/\zO K H p xs/\pJ xs i=some v/\Q v H
theorem KD:IxR X (aaK X.K):=by
 intro value slice pins s σ H x y v u Q I rx ry h hs;obtain⟨p,xs,i,z,rfl,rfl,hq,he,q⟩:=h;cases rx;obtain⟨t,rfl⟩:=ry;obtain⟨bw,r,pl,hz⟩:=I.list hq;obtain⟨j,h1,h2,h3,h4,h5⟩:=Lh he;obtain⟨w,ew,rY⟩:=r.get h2;have hl:=r.length;have hn:=yU;have fin:EP X pins σ Q w s:=⟨z,H,I,rY,q⟩;by_cases h0:0<=i
 ·have hj:i.toNat=j:=by
   rw [seqIndex_of h0 h5] at h1;exact bu h1
  exact item_listR pl.isList h0 (by lia) (by rw [hj]; simpa using ew) fin hs
 ·have hj:(i+(bw.toArray.size:Int)).toNat=j:=by
   rw [seqIndex_neg (by lia) h4] at h1;rw [aR,<-hl];exact bu h1
  exact subscriptTail_builtinR (x:=w) pl.isList.typeIs slot_list_getitem.lookup
   (wpAny_getItem_list_neg (Q:=fun r s'=>r=w/\EP X pins σ Q r s') pl.isList (by lia) (by rw [aR] <;> lia) (by lia) (by rw [hj]; simpa using ew) ⟨rfl,fin⟩) hs
theorem VG:IxR X (aaJ X.K):=by
 intro value slice pins s σ H x y v u Q I rx ry h hs;obtain⟨p,xs,i,z,rfl,rfl,hq,he,q⟩:=h;cases rx;obtain⟨t,rfl⟩:=ry;obtain⟨bw,r,pl,hz⟩:=I.tuple hq;obtain⟨j,h1,h2,h3,h4,h5⟩:=Lh he;obtain⟨w,ew,rY⟩:=r.get h2;have hl:=r.length;have hn:=yU;have fin:EP X pins σ Q w s:=⟨z,H,I,rY,q⟩;exact subscriptTail_builtinR (x:=w) pl.typeIs slot_tuple_getitem.lookup
  (getItem_tuple (j:=j) (Q:=fun r s'=>r=w/\EP X pins σ Q r s') pl (by lia) (by lia) (by rw [aR,<-hl]; exact h1) (by simpa using ew) ⟨rfl,fin⟩) hs
theorem Ig (bw:List Value) (n j:Nat) (u:Value):iL (·.setIfInBounds j u) { cls:=.type "list",data:=.seq bw.toArray n } = { cls:=.type "list",data:=.seq (bw.set j u).toArray n }:=by
 simp [iL]
theorem Inv.lst{pins:List (Addr×Obj)}{σ:St}{H:Hp}{s:ar}{p:Addr}{xs:List V}(I:Inv X pins σ H s)(h:H p=some (.lst xs)) :
  ∃ (bw:List Value) (n:Nat),Vals xs bw/\s.heap.get? p=some { cls:=.type "list",data:=.seq bw.toArray n }/\xs.length<=bo:=by
 obtain⟨z,bw,n,r,e⟩:=I.cz p _ h;exact⟨bw,n,r,e,z⟩
theorem Inv.Vx{pins:List (Addr×Obj)}{σ:St}{H:Hp}{s:ar}{p:Addr}{xs ys:List V}{bw its':List Value}{n n':Nat}{f:Obj->Obj}(I:Inv X pins σ H s)(h:H p=some (.lst xs))
  (ho:s.heap.get? p=some { cls:=.type "list",data:=.seq bw.toArray n }) (hf:f { cls:=.type "list",data:=.seq bw.toArray n } = { cls:=.type "list",data:=.seq its'.toArray n' }) (r:Vals ys its') (hz:ys.length<=bo) (t:Nat) :
  Inv X pins σ (upd H p (.lst ys)) { s with heap:=s.heap.update p f,toks:=t }:=by
 have e:(s.heap.update p f).get? p=some { cls:=.type "list",data:=.seq its'.toArray n' }:=by
  rw [df f ho (by rw [hf] <;> rfl),hf]
 refine I.write (x:=p) (e:=p) (by rw [h]; trivial) (.inl rfl) (fun b u hb q=>(cR _ _ (cW hb)).trans q) ⟨_,e⟩ ?_;exact⟨hz,its',n',r,e⟩
noncomputable def Xr:V->V->V->Hp->(Hp->Prop)->Prop:=fun o i v H Q=>∃ p xs k j,o=.ref p/\i=.int k/\H p=some (.lst xs)/\Fh xs.length k=some j/\Q (upd H p (.lst (xs.set j v)))
theorem set_list:acI X Xr:=by
 intro pins s σ H o i v ov iv u Q I ro ri rv h;obtain⟨p,xs,k,j,rfl,rfl,hp,hj,q⟩:=h;cases ro;obtain⟨t,rfl⟩:=ri;obtain⟨bw,n,r,ho,hz⟩:=I.lst hp;obtain⟨h1,h2,h3,h4⟩:=KG hj;have hl:=r.length;have hn:=yU;have I':Inv X pins σ (upd H p (.lst (xs.set j v))) { s with heap:=s.heap.update p (iL (·.setIfInBounds j u)) } :=
  I.Vx hp ho (Ig bw n j u) (r.set rv j) (by rw [dO]; exact hz) s.toks
 by_cases h0:0<=k
 ·have hk:k.toNat=j:=by
   rw [seqIndex_of h0 h4] at h1;exact bu h1
  exact PySem.W.ki_setAt ho h0 (by lia) (by rw [aR,<-hl]; exact h4) (by rw [hk]; exact⟨_,I',q⟩)
 ·have hk:(k+(bw.toArray.size:Int)).toNat=j:=by
   rw [seqIndex_neg (by lia) h3] at h1;rw [aR,<-hl];exact bu h1
  exact PySem.W.ki_setBack ho (by lia) (by rw [aR,<-hl]; exact h3) (by lia) (by rw [hk]; exact⟨_,I',q⟩)
theorem Cz(lo hi:Option Int)(n:Nat):(qe lo hi none n).1=((HT.i4 n 0 lo:Nat):Int)/\(qe lo hi none n).2.1=((HT.i4 n n hi:Nat):Int)/\(qe lo hi none n).2.2=1:=by
 refine⟨?_,?_,rfl⟩
 ·cases lo with
  | none=>simp [qe,HT.i4]
  | some i =>
   simp only [qe,HT.i4,Option.getD_none,show (1:Int) > 0 by decide,if_true];by_cases h:i < 0
   ·simp only [h,if_true] <;> lia
   ·simp only [h,if_false] <;> lia
 ·cases hi with
  | none=>simp [qe,HT.i4]
  | some i =>
   simp only [qe,HT.i4,Option.getD_none,show (1:Int) > 0 by decide,if_true];by_cases h:i < 0
   ·simp only [h,if_true] <;> lia
   ·simp only [h,if_false] <;> lia
theorem Ap(bw:List Value)(lo hi:Option Int):slicePick bw.toArray lo hi none=((bw.drop (HT.i4 bw.length 0 lo)).take (HT.i4 bw.length bw.length hi - HT.i4 bw.length 0 lo)).toArray:=by
 obtain⟨h1,h2,h3⟩:=Cz lo hi bw.toArray.size;unfold slicePick;rw [h1,h2,h3];simp only [sliceRange_one,pick_run,aR] <;> rfl
noncomputable def aaH(K:ah):V->Option Int->Option Int->Hp->VK->Prop:=fun x lo hi H Q=>∃ a xs,x=.ref a/\oK K H a xs/\∀ p,H p=none->Q (.ref p) (upd H p (.lst (Gb xs lo hi)))
theorem JU:SlR X (aaH X.K):=by
 intro pins s σ H x v vl vu lo hi sl Q I rx hs pl pu h;obtain⟨a,xs,rfl,hx,q⟩:=h;cases rx;obtain⟨bw,r,ht,hz⟩:=I.list hx;have hlen:=r.length;refine⟨"list",_,slot_list_getitem.lookup,ht.isList.typeIs,?_⟩;refine wpAny_getItem_list_slice ht.isList hs pl pu .none (by simp) ?_ (by rw [aR] <;> lia);rw [Ap,<-hlen];refine⟨.ref s.heap.objs.size,_,I.laid (t':=s.toks) (o:=.lst (Gb xs lo hi)) (fun b ob q=>aE _ q) (aC _) ?_,rfl,q _ (I.cz.fresh (aC _))⟩;exact⟨cC (xa xs lo hi) hz,_,0,(r.drop (HT.i4 xs.length 0 lo)).take (HT.i4 xs.length xs.length hi - HT.i4 xs.length 0 lo),aT _ rfl⟩
theorem DB:Um X (.type "list") (fun xs H Q=>∃ p ys,xs=[.ref p]/\(oK X.K H p ys\/zO X.K H p ys)/\∀ l,H l=none->Q (.ref l) (upd H l (.lst ys))):=by
 intro pins s σ H xs us Q I r h;obtain⟨p,ys,rfl,hq,q⟩:=h;obtain⟨u,rfl,rx⟩:=vals1 r;cases rx;have fin:∀ (bw:List Value),Vals ys bw->ys.length<=bo->∀ (h':Heap) (c':Nat),(∀ b o',s.heap.get? b=some o'->h'.get? b=some o') ->
   h'.get? s.heap.objs.size=some { cls:=.type "list",dict:=none,data:=.seq bw.toArray c',slots:=#[] }->EP X pins σ Q (.ref s.heap.objs.size) { s with heap:=h' }:=fun bw r' hz h' c' kp e =>
  ⟨.ref s.heap.objs.size,_,I.laid (t':=s.toks) kp (aC _) (show gC X.prog X.w _ h' _ (.lst ys) from⟨hz,bw,c',r',e⟩),rfl,q _ (I.cz.fresh (aC _))⟩
 rcases hq with hq | hq
 ·obtain⟨bw,r',pl,hz⟩:=I.list hq;have hlen:=r'.length;obtain⟨o,ho,hc,n,hd⟩:=pl.isList;exact call_list_seq p (.inl rfl) ho hc hd (fun h' c' kp e=>fin bw r' hz h' c' kp e) (by simp only [aR] <;> lia)
 ·obtain⟨bw,r',pl,hz⟩:=I.tuple hq;have hlen:=r'.length;obtain⟨o,ho,hc,n,hd⟩:=pl;exact call_list_seq p (.inr rfl) ho hc hd (fun h' c' kp e=>fin bw r' hz h' c' kp e) (by simp only [aR] <;> lia)
noncomputable def tyV(K:ah)(T:String)(x:V)(H:Hp):Prop:=match x with
 | .str _=>T = "str"
 | .int _=>T = "int"
 | .ref p=>(T = "list"/\∃ xs,oK K H p xs)\/(T = "tuple"/\∃ o,K.lookup p=some o/\o.cls=.type "tuple"/\o.dict=none) \/
   (T = "dict"/\((∃ kvs,H p=some (.dK kvs))\/∃ kvs,H p=some (.dT kvs)))\/(T = "set"/\∃ S n,H p=some (.set S n))
 | _=>False
theorem Co{pins:List (Addr×Obj)}{σ:St}{H:Hp}{s:ar}{T:String}{x:V}{v:Value}(I:Inv X pins σ H s)(r:RelV x v)(ty:tyV X.K T x H) :
  s.TypeIs v T/\∀ a,v=.ref a->∃ ob,s.heap.get? a=some ob/\ob.dict=none:=by
 cases x with
 | str z =>
  obtain⟨t,rfl⟩:=r;cases (show T = "str" from ty);exact⟨typeIs_str s z t,fun _ e=>nomatch e⟩
 | int i =>
  obtain⟨t,rfl⟩:=r;cases (show T = "int" from ty);exact⟨typeIs_int s i t,fun _ e=>nomatch e⟩
 | ref p =>
  cases r;rcases ty with ⟨rfl,xs,hq⟩ | ⟨rfl,o,hk,hc,hd⟩ | ⟨rfl,hk⟩ | ⟨rfl,S,n,hk⟩
  ·obtain⟨bw,_,pl,_⟩:=I.list hq;refine⟨pl.isList.typeIs,fun a e=>?_⟩;cases e;obtain⟨o,n,e,c,hd,_⟩:=pl;exact⟨o,e,hd⟩
  ·refine⟨⟨o,I.KC p o hk,hc⟩,fun a e=>?_⟩;cases e;exact⟨o,I.KC _ o hk,hd⟩
  ·have z:∃ o,s.heap.get? p=some o/\o.ExactDict:=by
    rcases hk with ⟨kvs,hk⟩ | ⟨kvs,hk⟩
    ·obtain⟨_,_,_,_,o,_,_,e,ex,_⟩:=I.cz p _ hk;exact⟨o,e,ex⟩
    ·obtain⟨_,_,_,_,o,_,_,e,ex,_⟩:=I.cz p _ hk;exact⟨o,e,ex⟩
   obtain⟨o,e,ex⟩:=z;refine⟨⟨o,e,ex.1⟩,fun a e2=>?_⟩;cases e2;exact⟨o,e,ex.2.1⟩
  ·obtain⟨o,_,_,_,e,ex,_⟩:=I.cz p _ hk;refine⟨⟨o,e,ex.1⟩,fun a e2=>?_⟩;cases e2;exact⟨o,e,ex.2.1⟩
 | _=>exact bM ty
variable {o e:Expr} {es:List Expr} {to:TE} {t:TA} {name:Str} {apos jq:Pos} {T id:String} {r:V->List V->Hp->VK->Prop}
/- xs.append(e),list.index on a XT tuple .. are MtR facts of 06m -/
end
noncomputable def MtM(X:Cx)(id:String)(r:V->List V->Hp->VK->Prop):Prop :=
 ∀ (pins:List (Addr×Obj)) (s:ar) (σ:St) (H:Hp) (x:V) (xs:List V) (v:Value) (us:List Value) (Q:VK),Inv X pins σ H s->RelV x v->Vals xs us->r x xs H Q ->
  wpAny (model X.prog X.w) X.A (call (.builtin id) (v :: us)) (EP X pins σ Q) X.xe s
theorem Vals.one:∀ {x:V} {us:List Value},Vals [x] us->∃ u,us=[u]/\RelV x u:=by
 intro x us h;cases h with
 | cons r t=>cases t; exact⟨_,rfl,r⟩
theorem Vals.two:∀ {x y:V} {us:List Value},Vals [x,y] us->∃ u v,us=[u,v]/\RelV x u/\RelV y v:=by
 intro x y us h;cases h with
 | cons r t =>
  obtain⟨v,rfl,q⟩:=Vals.one t;exact⟨_,_,rfl,r,q⟩
section
variable {X:Cx} {pins:List (Addr×Obj)} {σ:St} {H:Hp} {s:ar} {l b:Addr} {xs ys zs:List V}
theorem Inv.X0{bw its':List Value}{n:Nat}{f:Array Value->Array Value}{t':Nat}(I:Inv X pins σ H s)(hH:H l=some (.lst xs))
  (e:s.heap.get? l=some { cls:=.type "list",data:=.seq bw.toArray n }) (hf:f bw.toArray=its'.toArray) (hv:Vals ys its') (hz:ys.length<=bo) :
  Inv X pins σ (upd H l (.lst ys)) { s with heap:=s.heap.update l (iL f),toks:=t' }:=by
 have q:=PySem.IsL.update e f;rw [hf] at q;refine I.write (x:=l) (e:=l) (by rw [hH]; exact trivial) (.inl rfl) (fun b' u hb hu=>(cR s.heap (iL f) (cW hb)).trans hu) ⟨_,q⟩ ?_;exact⟨hz,its',_,hv,q⟩
theorem Inv.abm{bw:List Value}{t':Nat}(I:Inv X pins σ H s)(hv:Vals ys bw)(hz:ys.length<=bo) :
  Inv X pins σ (upd H s.heap.objs.size (.lst ys)) { s with heap:=s.heap.push { cls:=.type "list",data:=.seq bw.toArray },toks:=t' } :=
 I.laid (fun _ _ q=>aE _ q) (aC _) ⟨hz,bw,0,hv,aT _ rfl⟩
theorem Inv.XZ (I:Inv X pins σ H s) (hH:H l=some (.lst xs)):xs.length<=bo/\∃ (bw:List Value) (n:Nat),Vals xs bw/\xs.length=bw.length/\s.heap.get? l=some { cls:=.type "list",data:=.seq bw.toArray n }:=by
 obtain⟨z,bw,n,r,e⟩:=I.cz l _ hH;exact⟨z,bw,n,r,r.length,e⟩
theorem O5{n:Nat}(h:n<=bo):jk n=false:=by
 unfold jk;exact decide_eq_false (by lia)
end
section
variable {X:Cx}
noncomputable def Sd:V->List V->Hp->VK->Prop:=fun x vs H Q=>∃ l xs y,x=.ref l/\vs=[y]/\H l=some (.lst xs)/\xs.length < bo/\Q .cL (upd H l (.lst (xs++[y])))
theorem Bz:MtM X "list.append" Sd:=by
 intro pins s σ H x vs v us Q I rx rv h;obtain⟨l,xs,y,rfl,rfl,hH,hz,q⟩:=h;cases rx;obtain⟨u,rfl,ru⟩:=rv.one;obtain⟨z,bw,n,r,hl,e⟩:=I.XZ hH;refine G0 F.slot_list_append ⟨_,e,rfl⟩ F.entry_list_append (F.args_list_append_2 _ _) (PySem.list_append l bw.toArray n u (by rw [aR]; lia)) ⟨e,?_⟩;refine⟨.cL,_,I.X0 (its':=bw++[u]) hH e (by simp) (r.append (.cons ru .nil)) ?_,rfl,q⟩;rw [aw,bF];lia
end
section
variable {κ:Type} [DecidableEq κ]
noncomputable def lL(kvs:List (κ×V))(k:κ):Option V:=(kvs.find? fun kv=>decide (kv.1=k)).map (·.2)
noncomputable def putK(kvs:List (κ×V))(k:κ)(v:V):List (κ×V) :=
 if (kvs.any fun kv=>decide (kv.1=k))=true then kvs.map (fun kv=>if kv.1=k then (kv.1,v) else kv) else kvs++[(k,v)]
theorem qo{p:κ×V}{r:List (κ×V)}{k:κ}(e:p.1=k):lL (p :: r) k=some p.2:=by simp [lL,fW,e]
theorem qp{p:κ×V}{r:List (κ×V)}{k:κ}(e:¬ p.1=k):lL (p :: r) k=lL r k:=by simp [lL,fW,e]
theorem El(k:κ):∀ kvs:List (κ×V),(kvs.any fun kv=>decide (kv.1=k))=(lL kvs k).isSome
 | []=>rfl
 | p :: r=>by
  rw [k9];by_cases e:p.1=k
  ·simp only [qo e,decide_eq_true e,Bool.true_or,Option.isSome_some]
  ·rw [qp e,decide_eq_false e,Nj]; exact El k r
theorem wZ(kvs:List (κ×V))(k:κ)(v:V):(putK kvs k v).length<=kvs.length+1:=by
 unfold putK;split
 ·rw [ag]; lia
 ·rw [aw,ak,aG]; lia
theorem AR.oC{o:Option V}{u:Option Value}(r:AR o u):o.isSome=u.isSome:=by
 cases o with
 | none=>cases u with
  | none=>rfl
  | some _=>exact(show False from r).elim
 | some _=>cases u with
  | none=>exact(show False from r).elim
  | some _=>rfl
theorem KV.val{kvs:List (κ×V)}{vs:List (κ×Value)}(r:KV kvs vs)(k:κ):AR (lL kvs k) (NI vs k):=by
 unfold KV at r;induction r with
 | nil=>exact iD
 | @cons p q ps qs h t ih =>
  obtain⟨h1,h2⟩:=h;by_cases e:p.1=k
  ·have e':q.1=k:=h1.symm.trans e;have b:NI (q :: qs) k=some q.2:=by simp [NI,fW,e']
   rw [qo e,b]; exact h2
  ·have e':¬ q.1=k:=fun z=>e (h1.trans z);have b:NI (q :: qs) k=NI qs k:=by simp [NI,fW,e']
   rw [qp e,b]; exact ih
theorem KV.any{kvs:List (κ×V)}{vs:List (κ×Value)}(r:KV kvs vs)(k:κ):(kvs.any fun kv=>decide (kv.1=k))=vs.any fun kv=>decide (kv.1=k):=by
 unfold KV at r;induction r with
 | nil=>rfl
 | cons h t ih=>rw [k9,k9,ih,h.1]
theorem KV.UX{kvs:List (κ×V)}{vs:List (κ×Value)}(r:KV kvs vs)(k:κ){y:V}{u:Value}(ry:RelV y u) :
  KV (kvs.map fun kv=>if kv.1=k then (kv.1,y) else kv) (vs.map fun kv=>if kv.1=k then (kv.1,u) else kv):=by
 unfold KV at r ⊢;induction r with
 | nil=>exact .nil
 | @cons p q ps qs h t ih =>
  rw [av,av];refine .cons ?_ ih;obtain⟨h1,h2⟩:=h;by_cases e:p.1=k
  ·rw [if_pos e,if_pos (h1.symm.trans e)]; exact⟨h1,ry⟩
  ·rw [if_neg e,if_neg (fun z=>e (h1.trans z))]; exact⟨h1,h2⟩
theorem KV.put{kvs:List (κ×V)}{vs:List (κ×Value)}(r:KV kvs vs)(k:κ){y:V}{u:Value}(ry:RelV y u):KV (putK kvs k y) (stored vs k u):=by
 unfold putK stored;rw [r.any k];by_cases e:(vs.any fun kv=>decide (kv.1=k))=true
 ·rw [if_pos e,if_pos e]; exact r.UX k ry
 ·rw [if_neg e,if_neg e]; exact Paired.snoc r ⟨rfl,ry⟩
theorem KV.length{kvs:List (κ×V)}{vs:List (κ×Value)}(r:KV kvs vs):kvs.length=vs.length:=fG r
end
theorem za{P:bE}{w:World}{k:Key}{u:Value}(r:RelV (kV k) u):(bX P w).is k u=true:=by
 cases k with
 | inl i=>obtain⟨t,e⟩:=(show ∃ t,u=Value.int i t from r); subst e; exact ET P w i t
 | inr x=>obtain⟨t,e⟩:=(show ∃ t,u=Value.str x t from r); subst e; exact ES P w x t
theorem BF{P:bE}{w:World}:∀ {ks:List Key} {us:List Value},Vals (ks.map kV) us->ItemsAre (bX P w) ks us
 | [],_,r=>by rw [bc] at r; cases r; exact .nil
 | k :: ks,_,r=>by
  rw [av] at r;cases r with
  | cons h t=>exact .cons (za h) (BF t)
noncomputable abbrev KT(H:Hp):List (List Key×V)->List (List Key×Addr×Value)->Prop:=NR fun p q=>p.1=q.1/\H q.2.1=some (.tup (p.1.map kV))/\RelV p.2 q.2.2
theorem KT.val{H:Hp}{kvs:List (List Key×V)}{xs:List (List Key×Addr×Value)}(r:KT H kvs xs)(k:List Key):AR (lL kvs k) ((atKey xs k).map (·.2)):=by
 induction r with
 | nil=>exact iD
 | @cons p q ps qs h t ih =>
  obtain⟨h1,_,h2⟩:=h;by_cases e:p.1=k
  ·have e':q.1=k:=h1.symm.trans e;have b:atKey (q :: qs) k=some q.2:=by simp [atKey,fW,e']
   rw [qo e,b]; exact h2
  ·have e':¬ q.1=k:=fun z=>e (h1.trans z);have b:atKey (q :: qs) k=atKey qs k:=by simp [atKey,fW,e']
   rw [qp e,b]; exact ih
theorem KT.UX{H:Hp}{kvs:List (List Key×V)}{xs:List (List Key×Addr×Value)}(r:KT H kvs xs)(k:List Key){y:V}{u:Value}(ry:RelV y u) :
  KT H (kvs.map fun kv=>if kv.1=k then (kv.1,y) else kv) (xs.map (putAt k u)):=by
 induction r with
 | nil=>exact .nil
 | @cons p q ps qs h t ih =>
  rw [av,av];refine .cons ?_ ih;obtain⟨h1,h2,h3⟩:=h;unfold putAt;by_cases e:p.1=k
  ·rw [if_pos e,if_pos (h1.symm.trans e)]; exact⟨h1,h2,ry⟩
  ·rw [if_neg e,if_neg (fun z=>e (h1.trans z))]; exact⟨h1,h2,h3⟩
theorem KT.put{H:Hp}{kvs:List (List Key×V)}{xs:List (List Key×Addr×Value)}(r:KT H kvs xs)(k:List Key){b:Addr}{y:V}{u:Value}(hb:H b=some (.tup (k.map kV)))(ry:RelV y u) :
  KT H (putK kvs k y) (storedH xs k b u):=by
 have e:(kvs.any fun kv=>decide (kv.1=k))=(atKey xs k).isSome:=by
  rw [El,(r.val k).oC,lG]
 unfold putK storedH;rw [e];by_cases q:(atKey xs k).isSome=true
 ·rw [if_pos q,if_pos q]; exact r.UX k ry
 ·rw [if_neg q,if_neg q]; exact Paired.snoc r ⟨rfl,hb,ry⟩
theorem KT.keeps{H H':Hp}{kvs:List (List Key×V)}{xs:List (List Key×Addr×Value)}(r:KT H kvs xs)(ht:∀ b ys,H b=some (.tup ys)->H' b=some (.tup ys)):KT H' kvs xs :=
 Paired.XU r fun _ _ z=>⟨z.1,ht _ _ z.2.1,z.2.2⟩
section
variable {P:bE} {w:World} {H:Hp} {h:Heap} {a:Addr}
theorem TL{u:HO}(ok:tO P w H h)(e:Rd H a u):gC P w H h a u:=e.ok ok
theorem vc{kvs:List (Key×V)}(ok:tO P w H h)(e:Rd H a (.dK kvs)):kvs.length<=bo/\(a == eu)=false/\∃ vs,KV kvs vs/\h.DictOf (bX P w) a vs :=
 show gC P w H h a (.dK kvs) from TL ok e
theorem K4{kvs:List (Key×V)}(ok:tO P w H h)(e:H a=some (.dK kvs)):kvs.length<=bo/\(a == eu)=false/\∃ vs,KV kvs vs/\h.DictOf (bX P w) a vs:=vc ok (.inl e)
theorem sT{ks:List Key}(ok:tO P w H h)(e:H a=some (.tup (ks.map kV))):(dv (bX P w)).is h ks a:=by
 obtain⟨_,bw,r,o,h1,h2,n,h3⟩:=(show gC P w H h a (.tup (ks.map kV)) from ok a _ e);exact⟨o,bw.toArray,n,h1,h2,h3,by simpa using BF r⟩
theorem w9{kvs:List (List Key×V)}(ok:tO P w H h)(e:Rd H a (.dT kvs)):kvs.length<=bo/\(a == eu)=false /\
  ∃ xs,KT H kvs xs/\h.DictOfH (dv (bX P w)) a xs:=by
 obtain⟨z,y,xs,r,o,es,ep,h1,h2,h3,h4,h5⟩:=(show gC P w H h a (.dT kvs) from TL ok e);refine⟨z,y,xs,r,o,es,ep,h1,h2,h3,h4,fun x hx=>?_,h5⟩;have all:∀ {l:List (List Key×V)} {m:List (List Key×Addr×Value)},KT H l m->∀ x∈m,(dv (bX P w)).is h x.1 x.2.1:=by
  intro l m q;induction q with
  | nil=>intro x hx; exact nomatch hx
  | @cons p q ps qs hq t ih =>
   intro x hx;rcases List.mem_cons.mp hx with e | hx
   ·subst e;exact sT ok (by rw [<-hq.1]; exact hq.2.1)
   ·exact ih x hx
 exact all r x hx
theorem Qq{kvs:List (List Key×V)}(ok:tO P w H h)(e:H a=some (.dT kvs)):kvs.length<=bo/\(a == eu)=false /\
  ∃ xs,KT H kvs xs/\h.DictOfH (dv (bX P w)) a xs:=w9 ok (.inl e)
end
noncomputable def zX(H:Hp)(a:Addr)(y:V)(r:Option V):Prop :=
 (∃ kvs k,Rd H a (.dK kvs)/\y=kV k/\r=lL kvs k)\/∃ kvs k b,Rd H a (.dT kvs)/\y=.ref b/\H b=some (.tup (k.map kV))/\r=lL kvs k
noncomputable def M9(H:Hp)(a:Addr)(y v:V)(H':Hp):Prop :=
 (∃ kvs k,H a=some (.dK kvs)/\y=kV k/\kvs.length < bo/\H'=upd H a (.dK (putK kvs k v))) \/
 ∃ kvs k b,H a=some (.dT kvs)/\y=.ref b/\H b=some (.tup (k.map kV))/\kvs.length < bo/\H'=upd H a (.dT (putK kvs k v))
theorem zX.k{H:Hp}{a:Addr}{kvs:List (Key×V)}{k:Key}(e:H a=some (.dK kvs)):zX H a (kV k) (lL kvs k):=.inl ⟨kvs,k,.inl e,rfl,rfl⟩
theorem zX.t{H:Hp}{a b:Addr}{kvs:List (List Key×V)}{k:List Key}(e:H a=some (.dT kvs))(eb:H b=some (.tup (k.map kV))):zX H a (.ref b) (lL kvs k):=.inr ⟨kvs,k,b,.inl e,rfl,eb,rfl⟩
theorem M9.k{H:Hp}{a:Addr}{kvs:List (Key×V)}{k:Key}{v:V}(e:H a=some (.dK kvs))(hl:kvs.length < bo):M9 H a (kV k) v (upd H a (.dK (putK kvs k v))):=.inl ⟨kvs,k,e,rfl,hl,rfl⟩
theorem M9.t{H:Hp}{a b:Addr}{kvs:List (List Key×V)}{k:List Key}{v:V}(e:H a=some (.dT kvs))(eb:H b=some (.tup (k.map kV)))(hl:kvs.length < bo) :
  M9 H a (.ref b) v (upd H a (.dT (putK kvs k v))):=.inr ⟨kvs,k,b,e,rfl,eb,hl,rfl⟩
section
variable {X:Cx} {pins:List (Addr×Obj)} {σ:St} {H:Hp} {s:ar} {a:Addr} {y v:V} {u r:Value} {o:Option V} {A:c8} {E:Value->ar->Prop}
theorem Inv.big(I:Inv X pins σ H s):eu < s.heap.objs.size:=by
 have h:bQ < s.heap.objs.size:=(I.mod.glob.keeps I.bk).lt;exact Nat.lt_trans (by decide) h
theorem wz{Q:Value->ar->Prop}(hu:A.units+1 < cLine)(I:Inv X pins σ H s)(g:zX H a y (some v))(ry:RelV y u)(h:∀ w' s',Inv X pins σ H s'->RelV v w'->Q w' s') :
  wpAny (model X.prog X.w) A (getItem (.ref a) u) Q E s:=by
 rcases g with ⟨kvs,k,e,ey,l⟩ | ⟨kvs,k,b,e,ey,eb,l⟩
 ·subst ey;obtain⟨z,hd,vs,rel,dd⟩:=vc I.cz e;obtain⟨w',hw,rY⟩:=AR.some_of (v:=v) (o:=NI vs k) (by rw [l]; exact rel.val k);exact wpAny_getItem_of (za ry) dd.mapOf hw (h w' _ (I.tok _) rY)
 ·subst ey;cases (show u=eE b from ry);obtain⟨z,hd,xs,rel,dd⟩:=w9 I.cz e;obtain⟨w',hw,rY⟩:=AR.some_of (v:=v) (o:=(atKey xs k).map (·.2)) (by rw [l]; exact rel.val k);obtain⟨p,hp,Rk⟩:=Option.map_eq_some_iff.mp hw;refine wpAny_getItem_heap (si hu) (sT I.cz eb) dd hp ?_;rw [Rk];exact h w' _ (I.tok _) rY
theorem Y0{Q:Value->ar->Prop}(hu:A.units+1 < cLine)(I:Inv X pins σ H s)(g:zX H a y o)(ry:RelV y u)(h:∀ s',Inv X pins σ H s'->Q (.bool o.isSome) s') :
  wpAny (model X.prog X.w) A (dB .In u (.ref a)) Q E s:=by
 rcases g with ⟨kvs,k,e,ey,l⟩ | ⟨kvs,k,b,e,ey,eb,l⟩
 ·subst ey;obtain⟨z,hd,vs,rel,dd⟩:=vc I.cz e;refine wpAny_in_of (za ry) hd dd.mapOf ?_;rw [<-(rel.val k).oC,<-l];exact h _ (I.tok _)
 ·subst ey;cases (show u=eE b from ry);obtain⟨z,hd,xs,rel,dd⟩:=w9 I.cz e;refine wpAny_in_heap (si hu) (sT I.cz eb) hd dd ?_;have q:=(rel.val k).oC;rw [lG] at q;rw [<-q,<-l];exact h _ (I.tok _)
theorem K8{Q:Value->ar->Prop}(hu:A.units+1 < cLine)(I:Inv X pins σ H s)(g:zX H a y o)(ry:RelV y u)(h:∀ s',Inv X pins σ H s'->Q (.bool (!o.isSome)) s') :
  wpAny (model X.prog X.w) A (dB .NotIn u (.ref a)) Q E s:=by
 rcases g with ⟨kvs,k,e,ey,l⟩ | ⟨kvs,k,b,e,ey,eb,l⟩
 ·subst ey;obtain⟨z,hd,vs,rel,dd⟩:=vc I.cz e;refine wpAny_notIn_of (za ry) hd dd.mapOf ?_;rw [<-(rel.val k).oC,<-l];exact h _ (I.tok _)
 ·subst ey;cases (show u=eE b from ry);obtain⟨z,hd,xs,rel,dd⟩:=w9 I.cz e;refine wpAny_notIn_heap (si hu) (sT I.cz eb) hd dd ?_;have q:=(rel.val k).oC;rw [lG] at q;rw [<-q,<-l];exact h _ (I.tok _)
theorem Dv{h':Heap}{t':Nat}{ob:HO}(I:Inv X pins σ H s)(mu:Zi (H a))(hs:fM a s.heap h')(he:∃ q,h'.get? a=some q)(new:gC X.prog X.w (upd H a ob) h' a ob) :
  Inv X pins σ (upd H a ob) { s with heap:=h',toks:=t' } :=
 I.write (x:=a) (e:=a) mu (.inl rfl) (fun b q hb z=>(hs.2 b hb).trans z) he new
theorem V7{P:bE}{w:World}{H':Hp}{h':Heap}{kvs:List (Key×V)}{vs:List (Key×Value)}(z:kvs.length<=bo)(hd:(a == eu)=false)(rel:KV kvs vs)(dd:h'.DictOf (bX P w) a vs) :
  gC P w H' h' a (.dK kvs):=⟨z,hd,vs,rel,dd⟩
theorem MQ{H':Hp}{Q:Unit->ar->Prop}(hu:A.units+1 < cLine)(I:Inv X pins σ H s)(g:M9 H a y v H')(ry:RelV y u)(rv:RelV v r)(h:∀ s',Inv X pins σ H' s'->Q () s') :
  wpAny (model X.prog X.w) A (setItem (.ref a) u r) Q E s:=by
 rcases g with ⟨kvs,k,e,ey,l,eH⟩ | ⟨kvs,k,b,e,ey,eb,l,eH⟩
 ·subst ey eH;obtain⟨z,hd,vs,rel,dd⟩:=K4 I.cz e;have hz:vs.length<=bo:=by rw [<-rel.length]; exact z
  have hl:(putK kvs k v).length<=bo:=by have:=wZ kvs k v; lia
  refine wpAny_setItem_pairs (hsz:=hz) (za ry) dd fun h' ZV hs=>h _ ?_;have he:∃ q,h'.get? a=some q:=let ⟨q,_,_,hq,_⟩:=ZV; ⟨q,hq⟩
  exact Dv I (by rw [e]; exact iD) hs he (V7 hl hd (rel.put k rv) ZV)
 ·subst ey eH;cases (show u=eE b from ry);obtain⟨z,hd,xs,rel,dd⟩:=Qq I.cz e;have hz:xs.length<=bo:=by rw [<-fG rel]; exact z
  have hl:(putK kvs k v).length<=bo:=by have:=wZ kvs k v; lia
  refine wpAny_setItem_heap (hsz:=hz) (si hu) (sT I.cz eb) dd fun h' ZV hs=>h _ ?_;obtain⟨q,es,ep,hq,h2,h3,h4,_,h5⟩:=ZV;refine Dv I (by rw [e]; exact iD) hs ⟨q,hq⟩ ⟨hl,hd,_,(rel.put k eb rv).keeps fun c ys ec=>?_,q,es,ep,hq,h2,h3,h4,h5⟩;rw [bN (XR ec e (fun z=>nomatch z))];exact ec
end
section
variable {X:Cx} {pins:List (Addr×Obj)} {σ:St} {H:Hp} {s:ar} {a:Addr} {kvs:List (Key×V)} {k:Key} {u:Value} {A:c8} {E:Value->ar->Prop}
theorem Uh {Q:Value->ar->Prop} (I:Inv X pins σ H s) (e:Rd H a (.dK kvs)) (h:∀ t s',Inv X pins σ H s'->Q (.int kvs.length t) s'):wpAny (model X.prog X.w) A (call (.builtin "len") [.ref a]) Q E s:=by
 obtain⟨z,hd,vs,rel,dd⟩:=vc I.cz e;refine call_len_dict hd dd (by rw [<-rel.length]; rw [cx] at z; lia) ?_;rw [<-rel.length];exact h _ _ (I.tok _)
theorem S8{Q:Bool->ar->Prop}(I:Inv X pins σ H s)(e:Rd H a (.dK kvs))(h:∀ s',Inv X pins σ H s'->Q (!kvs.isEmpty) s'):wpAny (model X.prog X.w) A (truthy (.ref a)) Q E s:=by
 obtain⟨z,hd,vs,rel,dd⟩:=vc I.cz e;refine GS hd dd (by rw [<-rel.length]; rw [cx] at z; lia) ?_;have q:kvs.isEmpty=vs.isEmpty:=by cases rel <;> rfl
 rw [<-q];exact h _ (I.tok _)
end
theorem qV {X:Cx} {pins:List (Addr×Obj)} {σ:St} {H:Hp} {s:ar} {a:Addr} {y:V} {o:Option V} (I:Inv X pins σ H s) (g:zX H a y o):s.TypeIs (.ref a) "dict":=by
 rcases g with ⟨kvs,k,e,_,_⟩ | ⟨kvs,k,b,e,_,_,_⟩
 ·obtain⟨_,_,vs,_,dd⟩:=vc I.cz e;exact dd.typeIs
 ·obtain⟨_,_,xs,_,dd⟩:=w9 I.cz e;exact dd.typeIs
theorem Qt {P:bE} {w:World} {H:Hp} (h:Heap) (hb:eu < h.objs.size):gC P w H (h.push { cls:=.type "dict",data:=.dict #[] }) h.objs.size (.dK []) :=
 ⟨cb _,beq_eq_false_iff_ne.mpr (cW (bB hb)),[],.nil,Heap.DictOf.new h⟩
noncomputable def UD:TE:=fun _ H Q=>∀ p,H p=none->Q (.ref p) (upd H p (.dK []))
section
variable {X:Cx} {pos:Pos}
theorem OX:PE X (.Dict [] [] pos) UD:=fun pins s σ H Q I h =>
 wpAny_Dict_empty ⟨.ref s.heap.objs.size,_,I.laid (a:=s.heap.objs.size) (o:=.dK []) (t':=s.toks) (fun _ _ q=>aE _ q) (aC _) (Qt s.heap I.big),rfl,h _ (I.cz.fresh (aC _))⟩
end
structure M1(X:Cx)(o:Expr)(m:Str)(apos:Pos)(e:Expr)(jq:Pos):Prop where
 base:vS o m X.env (eval o X.env)=eval o X.env
 nH:((jr jq (bL [e] X.env)).all (fun x=>!x.1)&&(backToKw jq (keywordEach [] X.env)).all (fun x=>x.1.isSome)
  && decide (([e]:List Expr).length+([]:List NW).length+(if ([]:List NW).isEmpty then 0 else 1) < 30))=true
 line:(apos.endLine == jq.line)=true
 trees:jr jq (bL [e] X.env)=[(false,eval e X.env)]
structure M2(X:Cx)(o:Expr)(m:Str)(apos:Pos)(e f:Expr)(jq:Pos):Prop where
 base:vS o m X.env (eval o X.env)=eval o X.env
 nH:((jr jq (bL [e,f] X.env)).all (fun x=>!x.1)&&(backToKw jq (keywordEach [] X.env)).all (fun x=>x.1.isSome)
  && decide (([e,f]:List Expr).length+([]:List NW).length+(if ([]:List NW).isEmpty then 0 else 1) < 30))=true
 line:(apos.endLine == jq.line)=true
 trees:jr jq (bL [e,f] X.env)=[(false,eval e X.env),(false,eval f X.env)]
noncomputable def IsD(H:Hp)(a:Addr):Prop:=(∃ kvs,Rd H a (.dK kvs))\/∃ kvs,Rd H a (.dT kvs)
theorem Px{X:Cx}{pins:List (Addr×Obj)}{σ:St}{H:Hp}{s:ar}{a:Addr}(I:Inv X pins σ H s)(d:IsD H a) :
  s.TypeIs (.ref a) "dict"/\(∀ b,eE a=.ref b->∃ ob,s.heap.get? b=some ob/\ob.dict=none)/\(a == eu)=false:=by
 rcases d with ⟨kvs,e⟩ | ⟨kvs,e⟩
 ·obtain⟨_,hd,vs,_,dd⟩:=vc I.cz e;refine⟨dd.typeIs,fun b q=>?_,hd⟩;cases q;obtain⟨ob,_,_,h1,h2,_⟩:=dd;exact⟨ob,h1,h2.2.1⟩
 ·obtain⟨_,hd,xs,_,dd⟩:=w9 I.cz e;refine⟨dd.typeIs,fun b q=>?_,hd⟩;cases q;obtain⟨ob,_,_,h1,h2,_⟩:=dd;exact⟨ob,h1,h2.2.1⟩
end L2
namespace Att
open PySem PySem.W PySem.Calls PyProof.Rows
theorem xm{P:Params}{h:Heap}:∀ (ns:List Int) (vs:List Value),WellAll P h vs (ns.map WData.int)->me vs ns:=by
 intro ns;induction ns with
 | nil =>
  intro vs w;rw [bc] at w;cases w;exact .nil
 | cons n ns ih =>
  intro vs w;rw [av] at w;cases w with
  | cons a b =>
   cases a;exact .cons _ _ (ih _ b)
theorem LM{l:OpenLaw}{n:Nat}(hn:l.most=some n){P:Params}{h:Heap}{args:List WData}{vals:List Value}
  (PQ:l.row.toRowW.claim.pre args=true) (hwl:WellAll P h vals args) :
  ∃ a vs ns,vals=[eE a]/\args=[WData.list (ns.map WData.int)]/\h.get? a=some { cls:=.type "list",data:=.seq vs.toArray }/\me vs ns/\ns.length<=n:=by
 have hsh:WShape.hasAll [] args [.list .int]=true:=(pre_splitW PQ).1;have hc:l.pre.holds [] { args:=args } = true:=(pre_splitW PQ).2;obtain⟨d,r,rfl,h1,h2⟩:=hasAllW_cons hsh;obtain rfl:=hasAllW_nil h2;obtain⟨xs,rfl,h3⟩:=hasW_list h1;obtain⟨ns,rfl⟩:=items_int h3;have hlen:ns.length<=n:=by
  unfold OpenLaw.pre at hc;have h4:(WTm.not (.lt (.lit (.int (n:Int))) (.len (.arg 0)))).holds [] { args:=[.list (ns.map .int)] } = true:=by
   have h4:=(holds_andW hc).1;rw [hn] at h4;exact h4
  have h5:=condW_of h4 (w_not (w_lt w_lit (w_len_list (w_arg rfl))));rw [ag] at h5;refine Nat.le_of_not_lt fun q=>?_;have q':(n:Int) < ((ns.length:Nat):Int):=by lia
  first
   | (rw [decide_eq_true q'] at h5; exact absurd h5 (by decide))
   | (simp at h5; lia)
 cases hwl with
 | cons w1 w2 =>
  cases w2;cases w1 with
  | list ho sW=>exact⟨_,_,ns,rfl,rfl,ho,xm ns _ sW,hlen⟩
theorem L0(l:OpenLaw)(args:List WData):l.row.toRowW.claim.post args (.bool true) args=true :=
 postW_of (r:=l.row.toRowW) (X:=(true == true))
  (show WShape.has [] (.bool true) .bool=true by first | rfl | decide | simp [WShape.has,WShape.arms,WShape.armsAll])
  (show (WTm.eq .res (.lit (.bool true))).value [] { args:=args,res:=some (.bool true),after:=args } = some (.bool (true == true)) from w_eq_bool (w_res rfl) w_lit) rfl
theorem Gk{l:OpenLaw}{n:Nat}{q:bE}{loose:List Str}{XP:(Str->Option Value)->Heap->Prop}{YP:World->Heap->Prop}{d:DefRec}
  (hn:l.most=some n) (YC:d.params.defaults=[])
  (call:∀ (w:World) (mV eR:ar) (mg mb:Str->Option Value) (fa:Addr) (o:Obj) (pm cd doc:Value) (a:Addr) (vs:List Value) (ns:List Int),
   Ground q loose [] XP w mV mg mb eR.heap->YP w eR.heap ->
   eR.heap.get? fa=some o->o.data=.func (docDef d.name d.params d.body d.scope pm cd doc)->eR.heap.CodeRec cd d.name->mg d.name=some (.ref fa) ->
   eR.heap.get? a=some { cls:=.type "list",data:=.seq vs.toArray }->me vs ns->ns.length<=n->eR.gens=#[] ->
   vQ (model l.prog w) GZ (.call (.ref fa) ⟨[.ref a],[]⟩) (fun r s'=>r=.ok (.ret (.bool true))/\OldK eR.heap s'.heap/\s'.os=eR.os/\Cf s'.gens) eR) :
  WalkO q loose XP YP l.row.toRowW d [] (fun f vs=>Jw f vs):=by
 intro w mV eR mg mb G Y fa o pm cd doc dV kV ho hd GQ hD Yp hg args vals as PQ afw hrd hwl hlo;obtain rfl:dV=.none:=Dflts.none hD YC;obtain rfl:kV=.none:=Dflts.noKw hD;obtain⟨a,vs,ns,rfl,rfl,VP,hints,hlen⟩:=LM hn PQ hwl;refine enter_call (ot (call w mV eR mg mb fa o pm cd doc a vs ns G Y ho (fd_plain hd) GQ Yp VP hints hlen hg) fun r s' hq=>?_);obtain⟨rfl,h2,h3,h4⟩:=hq;exact⟨.inl ⟨.bool true,.bool true,[],rfl,fun _=>rfl,.bool true,L0 l _,fun _=>⟨List.Pairwise.nil,fun _ hm=>(nomatch hm)⟩⟩,h2,h3,h4⟩
end Att
namespace L2
open PySem PySem.Spec PyProof.Rows
theorem A5:∀ {vs:List Value} {ns:List Int},me vs ns->Vals (ns.map V.int) vs
 | _,_,.nil=>.nil
 | _,_,.cons n t h=>.cons ⟨t,rfl⟩ (A5 h)
noncomputable def Tv(H:Hp):Prop:=∀ b,H b=none\/∃ o xs,H b=some (.mP o (.lst xs))
theorem Pn{P:bE}{w:World}{K:ah}{mg mb:Str->Option Value}{CX:Na}{k:Nat}{fa a:Addr}{fd:aJ}{x:Str}{sp:Sp}{eR:ar}{vs:List Value}{ns:List Int}
  (KX:K.In eR.heap) (Rl:eR.heap.Ns bQ mg) (hb:eR.heap.Ns builtinsNs mb) (hbb:∀ x:Str,x≠"__name__"->mb x=dR x) (ab0:eR.heap.NoLimit) (hg:eR.gens=#[])
  (ha:eR.heap.get? a=some { cls:=.type "list",data:=.seq vs.toArray }) (hi:me vs ns) (hl:ns.length<=bo) (hr:mK k GZ)
  (F:∀ base:Heap,K.In base->base.Ns bQ mg->fV P w K mg base CX k fa fd [x] sp) (YF:∀ (s:ar) (u:Value),NY s fd ⟨[u],[]⟩ [(x,u)])
  (T4:∀ H:Hp,Tv H->oK K H a (ns.map V.int)->sp [.ref a] H (fun v _=>v=.bl true) fun _ _ _=>False)
  (hCX:∀ H e s',CX [] H eR (fun _ _ _=>False) e s'->False) :
  vQ (model P w) GZ (.call (.ref fa) ⟨[.ref a],[]⟩) (fun r s'=>r=.ok (.ret (.bool true))/\OldK eR.heap s'.heap/\s'.os=eR.os/\Cf s'.gens) eR:=by
 have rv:=A5 hi;have abn:=hi.length;have core:∀ H:Hp,Tv H->oK K H a (ns.map V.int)->tO P w H eR.heap->(∀ b,H b≠none->b=a)->(H a≠none->K.lookup a=none) ->
   vQ (model P w) GZ (.call (.ref fa) ⟨[.ref a],[]⟩) (fun r s'=>r=.ok (.ret (.bool true))/\OldK eR.heap s'.heap/\s'.os=eR.os/\Cf s'.gens) eR:=by
  intro H hO hS cz hA hK;have Le:∀ {b:Addr} {o:Obj},eR.heap.get? b=some o->H b=none->(C7 eR.heap H).get? b=some o:=fun e n=>PS e n;have XO:∀ {b:Addr} {o:Obj} {es:Array gK} {ep:Nat},eR.heap.get? b=some o->o.data=.dict es ep->H b=none:=fun {b o es ep} e d=>by
   cases q:H b with
   | none=>rfl
   | some u =>
    have e':b=a:=hA b (by rw [q]; simp);subst e';rw [ha] at e; cases e;have d':Data.seq vs.toArray _=Data.dict es ep:=d;cases d'
  have Zy:∀ {b:Addr} {m:Str->Option Value},eR.heap.Ns b m->(C7 eR.heap H).Ns b m:=fun {b m} ⟨o,es,ep,e,d,r⟩=>⟨o,es,ep,Le e (XO e d),d,r⟩;have hKb:K.In (C7 eR.heap H):=fun b o e=>Le (KX b o e) (by
   cases q:H b with
   | none=>rfl
   | some u =>
    have e':b=a:=hA b (by rw [q]; simp);subst e';rw [hK (by rw [q]; simp)] at e; cases e)
  have hM:Mod K mg (C7 eR.heap H):=⟨hKb,Zy Rl,⟨mb,Zy hb,hbb⟩,let ⟨mc,h1,h2⟩:=ab0; ⟨mc,Zy h1,h2⟩⟩;have e0:Tz P w K mg (C7 eR.heap H) GZ [] eR H:=⟨rfl,hM,fun b o e=>Su e,Nat.le_of_eq (Mq _ _),trivial,fun b hb=>absurd (show b∈([]:List Addr) from hb) (by simp),cz,.of_eq hg⟩;refine ot ((F _ hKb (Zy Rl)).run GZ [] eR H ⟨[.ref a],[]⟩ [.ref a] [.ref a] _ _ hr e0 (YF eR (.ref a)) (.cons rfl .nil) (T4 H hO hS)) fun r s' h=>?_;cases r with
  | error e=>exact(hCX H e s' h).elim
  | ok fl =>
   cases fl with
   | next=>exact bM h
   | brk=>exact bM h
   | cont=>exact bM h
   | ret u =>
    obtain⟨v,H',os,bare,un,abT,r',q⟩:=h;have q':v=.bl true:=q;subst q';obtain rfl:u=Value.bool true:=r';refine⟨rfl,OldK.of_keep fun b o e=>?_,os,bare⟩;cases q:H b with
    | none=>exact un.keep b o e q (by intro z; exact absurd (show b∈([]:List Addr) from z) (by simp)) (by simp)
    | some u =>
     rcases hO b with z | ⟨ob,xs,z⟩
     ·rw [q] at z; cases z
     ·have z2:=un.uW b ob _ z;obtain⟨e1,_⟩:=cz b _ z;obtain⟨e2,_⟩:=abT b _ z2;rw [e] at e1; cases e1;exact e2
 cases hk:K.lookup a with
 | some o =>
  have e:=KX a o hk;rw [ha] at e;cases e;refine core (fun _=>none) (fun _=>.inl rfl) (.inr ⟨_,vs.toArray,_,hk,rfl,rfl,rfl,by rw [aR,abn]; exact hl,by simpa using rv⟩) (fun b u z=>by have z':(none:Option HO)=some u:=z; cases z') (fun b z=>absurd rfl z) fun z=>absurd rfl z
 | none =>
  refine core (fun b=>if b=a then some (.mP { cls:=.type "list",data:=.seq vs.toArray } (.lst (ns.map V.int))) else none) (fun b=>?_) (.inl (.inr ⟨{ cls:=.type "list",data:=.seq vs.toArray },if_pos rfl⟩)) (fun b u z=>?_) (fun b z=>?_) fun _=>hk
  ·by_cases hb:b=a
   ·exact .inr ⟨_,_,if_pos hb⟩
   ·exact .inl (if_neg hb)
  ·by_cases hb:b=a
   ·have z':=(if_pos hb).symm.trans z;cases z';subst hb;exact⟨ha,by rw [ag]; exact hl,vs,_,rv,ha⟩
   ·have z':=(if_neg hb).symm.trans z;cases z'
  ·by_cases hb:b=a
   ·exact hb
   ·exact absurd (if_neg hb) z
theorem RN{l:B9}{n k:Nat}{q:bE}{loose:List Str}{XP:(Str->Option Value)->Heap->Prop}{YP:World->Heap->Prop}{d:DefRec}{K:Params->ah}{CX:World->Na}{sp:World->Sp}{x:Str}
  (hn:l.most=some n) (hn2:n<=bo) (YC:d.params.defaults=[]) (hr:mK k GZ)
  (hY:∀ (w:World) (h:Heap),YP w h->(K w.params).In h)
  (F:∀ (w:World) (mg:Str->Option Value) (fa:Addr) (h:Heap),(K w.params).In h->h.Ns bQ mg->mg d.name=some (.ref fa) ->
   ∃ fd:aJ,(∀ (s:ar) (u:Value),NY s fd ⟨[u],[]⟩ [(x,u)]) /\
    ∀ base:Heap,(K w.params).In base->base.Ns bQ mg->fV l.prog w (K w.params) mg base (CX w) k fa fd [x] (sp w))
  (T4:∀ (w:World) (H:Hp) (a:Addr) (ns:List Int),ns.length<=n->Tv H->oK (K w.params) H a (ns.map V.int)->sp w [.ref a] H (fun v _=>v=.bl true) fun _ _ _=>False)
  (hCX:∀ (w:World) (H:Hp) (s:ar) (e:Value) (s':ar),CX w [] H s (fun _ _ _=>False) e s'->False) :
  PySem.W.WalkO q loose XP YP l.row.toRowW d [] (fun f vs=>Jw f vs):=by
 refine Att.Gk hn YC fun w mV eR mg mb fa o pm cd doc a vs ns G Y ho hd GQ Yp VP hints hlen hg=>?_;have KX:=hY w _ Y;obtain⟨fd,hb,hF⟩:=F w mg fa _ KX G.T.g Yp;exact Pn KX G.T.g G.T.b G.T.builtins G.T.nolimit hg VP hints (cC hlen hn2) hr hF hb (fun H hO hS=>T4 w H a ns hlen hO hS) fun H e s'=>hCX w H eR e s'
end L2
/- THE ahH ZY (shape; LID,My.* are acQ):
   My.Adr: a structure of the addresses aem aef adj names (classes,WL); My.Txt K t: a structure (Prop) of the equations over K;
   My.aat:{K} {implicit addresses ..} (e1:nsIn K bQ "law" = some (some (.ref f))) (e2:K.lookup f=some ⟨oc,od,.func (fnOf "law" "law" params body scope dV kV doc pm an oR ct),sl⟩) (e3:codeIn K oR "law" = true) ..:∃ t,My.Txt K t
(the tactic k_is has no namespace: write k_is) -/
namespace L2
open PySem PySem.Spec PyProof.Rows
noncomputable def nJ(s:Stmt):Arguments:=match s with
 | .FunctionDef _ a _ _ _ _ _ _ _ _=>a
 | _=>{ posonlyargs:=[],args:=[],vararg:=none,kwonlyargs:=[],kw_defaults:=[],kwarg:=none,defaults:=[] }
noncomputable def jQ(s:Stmt):List Stmt:=match s with
 | .FunctionDef _ _ b _ _ _ _ _ _ _=>b
 | _=>[]
noncomputable def a9(s:Stmt):Scope:=match s with
 | .FunctionDef _ _ _ _ _ _ sc _ _ _=>sc
 | _=>{ kind:=.function,names:=[],isGenerator:=false,isCoroutine:=false }
noncomputable abbrev gP:Na:=fun _ _ _ _ _ _=>False
noncomputable abbrev E0:XK:=fun _ _ _=>False
theorem Xx{X:Cx}:Passes gP X E0:=fun _ _ _ _ _ _ _ h=>h.elim
structure oS(K:ah)(x qual:Str)(st:Stmt)(f:Addr)(fd:aJ):Prop where
 ex:∃ (oc:Value) (od:Option Addr) (kV doc pm:Value) (an:Option Addr) (oR ct:Value) (O0:Array (Option Value)),
  fd=jT x qual (nJ st) (jQ st) (a9 st) .none kV doc pm an oR ct/\K.lookup f=some ⟨oc,od,.func fd,O0⟩/\Ec K oR qual=true
 kp:lF K (.ref f)=true
section
variable {P:bE} {w:World} {K:ah} {mg:Str->Option Value} {base:Heap}
theorem oS.ok{x qual:Str}{st:Stmt}{f:Addr}{fd:aJ}{N ps:List Str}{k:Nat}{sp:Sp}(F:oS K x qual st f fd)(S:cG N ps (a9 st))(len:∀ vs H Q E,sp vs H Q E->vs.length=ps.length)
  (PU:∀ (oR:Value) (A:c8) (outer:List Env) (s:ar) (H:Hp) (vs:List V) (Q:VK) (E:XK),mK k (A.deeper (D9 qual (a9 st) s.heap.objs.size f oR))->sp vs H Q E ->
   ∃ t,WQ (FZ gP P w K mg base N qual (a9 st) f oR A outer s H E).WA (jQ st) t/\t { nx:=fun _ H'=>Q .cL H',rt:=Q } (start N vs) H):fV P w K mg base gP (k+1) f fd ps sp:=by
 obtain⟨oc,od,kV,doc,pm,an,oR,ct,O0,rfl,lk,GQ⟩:=F.ex;refine YU lk GQ S len fun A outer s H vs Q E hr T4=>?_;obtain⟨t,h,q⟩:=PU oR A outer s H vs Q E hr T4;exact⟨t,h.WA,q⟩
theorem oS.binds{x qual:Str}{st:Stmt}{f:Addr}{fd:aJ}{ps:List Str}(F:oS K x qual st f fd)
  (h:∀ (kV doc pm:Value) (an:Option Addr) (oR ct:Value) (us:List Value),us.length=ps.length->bindArgs (jT x qual (nJ st) (jQ st) (a9 st) .none kV doc pm an oR ct) ⟨us,[]⟩=pure (ps.zip us)):Binds K fd ps []:=by
 obtain⟨oc,od,kV,doc,pm,an,oR,ct,O0,rfl,lk,GQ⟩:=F.ex;exact .all (h kV doc pm an oR ct)
theorem V2{x qual:Str}{st:Stmt}{f:Addr}{oc:Value}{od an:Option Addr}{O0:Array (Option Value)}{kV doc pm oR ct:Value}(l:K.lookup f=some ⟨oc,od,.func (jT x qual (nJ st) (jQ st) (a9 st) .none kV doc pm an oR ct),O0⟩)
  (c:Ec K oR qual=true) (k:lF K (.ref f)=true):oS K x qual st f (jT x qual (nJ st) (jQ st) (a9 st) .none kV doc pm an oR ct):=⟨⟨oc,od,kV,doc,pm,an,oR,ct,O0,rfl,l,c⟩,k⟩
end
end L2
set_option autoImplicit false
section
namespace K2
open PySem (Str)
inductive D where
 | cL | bl (b:Bool) | int (i:Int) | str (x:Str) | tup (ds:List D) | dJ (ds:List D) | kh (kvs:List (D×D)) | ref (a:Nat) | exc (c:Str)
 deriving Inhabited
inductive GO where
 | lst (ds:List D)
 | ja (kvs:List (D×D))
noncomputable abbrev Gp:=Nat->Option GO
noncomputable def c6(G:Gp)(a:Nat)(o:GO):Gp:=fun b=>if b=a then some o else G b
theorem aH{G:Gp}{a:Nat}{o:GO}:c6 G a o a=some o:=by unfold c6; rw [if_pos rfl]
theorem dh{G:Gp}{a b:Nat}{o:GO}(h:b≠a):c6 G a o b=G b:=by unfold c6; rw [if_neg h]
noncomputable abbrev SZ:Nat:=16777216
structure Ex where
 cls:Str
 agj:List (Str×D)
noncomputable abbrev lb:=Ex->Gp->Prop
noncomputable abbrev gS:=List (Option D)
noncomputable abbrev DK:=D->Gp->Prop
noncomputable abbrev fC:=lb->gS->Gp->DK->Prop
noncomputable abbrev x2:=lb->gS->Gp->(Bool->Gp->Prop)->Prop
noncomputable abbrev Gu:=lb->gS->Gp->(List D->Gp->Prop)->Prop
structure mL where
 nx:gS->Gp->Prop
 rt:DK
 bk:gS->Gp->Prop
 ct:gS->Gp->Prop
noncomputable abbrev iO:=lb->mL->gS->Gp->Prop
noncomputable abbrev om:=List D->Gp->DK->lb->Prop
noncomputable abbrev AS:=D->D->Gp->DK->Prop
noncomputable def Fh(n:Nat)(i:Int):Option Nat:=if 0<=i then (if i < n then some i.toNat else none) else if -(n:Int)<=i then some (i+n).toNat else none
noncomputable def pJ{α:Type}(xs:List α)(i:Int):Option α:=(Fh xs.length i).bind fun j=>xs[j]?
noncomputable def i4(n d:Nat):Option Int->Nat
 | none=>d
 | some v=>if v < 0 then (v+(n:Int)).toNat else min v.toNat n
noncomputable def cut{α:Type}(xs:List α)(lo hi:Option Int):List α:=(xs.drop (i4 xs.length 0 lo)).take (i4 xs.length xs.length hi - i4 xs.length 0 lo)
mutual
noncomputable def ic:D->D->Bool
 | .cL,.cL=>true
 | .bl a,.bl b=>a == b
 | .bl a,.int b=>(if a then 1 else 0) == b
 | .int a,.bl b=>a == (if b then 1 else 0)
 | .int a,.int b=>a == b
 | .str a,.str b=>a == b
 | .tup a,.tup b=>kW a b
 | .dJ a,.dJ b=>kW a b
 | _,_=>false
noncomputable def kW:List D->List D->Bool
 | [],[]=>true
 | a :: r,b :: t=>ic a b&&kW r t
 | _,_=>false
end
mutual
noncomputable def nr:D->Bool
 | .ref _=>false
 | .exc _=>false
 | .kh _=>false
 | .str x=>x.cps.all (· < 0x110000)
 | .tup ds=>pO ds
 | .dJ ds=>pO ds
 | _=>true
noncomputable def pO:List D->Bool
 | []=>true
 | d :: r=>nr d&&pO r
end
class inductive Sn (G:Gp):Nat->D->D->Prop
 | cL {n:Nat}:Sn G n .cL .cL
 | bl {n:Nat} (b:Bool):Sn G n (.bl b) (.bl b)
 | int {n:Nat} (i:Int):Sn G n (.int i) (.int i)
 | str {n:Nat} (x:Str) (h:x.cps.all (· < 0x110000)=true):Sn G n (.str x) (.str x)
 | Hu {n:Nat}:Sn G (n+1) (.tup []) (.tup [])
 | qu {n:Nat} {d s:D} {ds ss:List D}:Sn G n d s->Sn G (n+1) (.tup ds) (.tup ss)->Sn G (n+1) (.tup (d :: ds)) (.tup (s :: ss))
 | OD {n:Nat}:Sn G (n+1) (.dJ []) (.dJ [])
 | EE {n:Nat} {d s:D} {ds ss:List D}:Sn G n d s->Sn G (n+1) (.dJ ds) (.dJ ss)->Sn G (n+1) (.dJ (d :: ds)) (.dJ (s :: ss))
 | ref {n:Nat} {a:Nat} {ds ss:List D}:G a=some (.lst ds)->Sn G n (.dJ ds) (.dJ ss)->Sn G n (.ref a) (.dJ ss)
noncomputable abbrev SN:Nat:=8
theorem Sn.nr{G:Gp}{n:Nat}{d t:D}(h:Sn G n d t):K2.nr t=true:=by
 induction h with
 | cL=>rfl
 | bl b=>rfl
 | int i=>rfl
 | str x h=>exact h
 | Hu=>rfl
 | qu _ _ PD PC =>
  show (K2.nr _&&K2.pO _)=true;rw [PD];exact PC
 | OD=>rfl
 | EE _ _ PD PC =>
  show (K2.nr _&&K2.pO _)=true;rw [PD];exact PC
 | ref _ _ ih=>exact ih
noncomputable def fh:D->Bool
 | .int _=>true
 | .str _=>true
 | _=>false
noncomputable def LG:D->Gp->Option Bool
 | .cL,_=>some false
 | .bl b,_=>some b
 | .int i,_=>some (i != 0)
 | .str x,_=>if x.length<=SZ then some ((x.length:Int) != 0) else none
 | .tup ds,_=>some (!ds.isEmpty)
 | .dJ ds,_=>some (!ds.isEmpty)
 | .exc _,_=>none
 | .kh kvs,_=>if (kvs.all fun p=>fh p.1)=true then some (!kvs.isEmpty) else none
 | .ref a,G=>match G a with
  | some (.lst ds)=>some (!ds.isEmpty)
  | some (.ja kvs)=>if (kvs.all fun p=>fh p.1)=true then some (!kvs.isEmpty) else none
  | none=>none
noncomputable def au(i:Nat):fC:=fun _ τ G Q=>match τ[i]? with
 | some (some d)=>Q d G
 | _=>False
noncomputable def dC(d:D):fC:=fun _ _ G Q=>Q d G
noncomputable def bx:Gu:=fun _ _ G Q=>Q [] G
noncomputable def aI(a:fC)(r:Gu):Gu:=fun E τ G Q=>a E τ G fun x G1=>r E τ G1 fun xs G2=>Q (x :: xs) G2
noncomputable def mH(t:Gu):fC:=fun E τ G Q=>t E τ G fun ds G1=>ds.length<=SZ/\Q (.tup ds) G1
noncomputable def ku(t:Gu):fC:=fun E τ G Q=>t E τ G fun ds G1=>ds.length<=SZ/\∀ p,G1 p=none->Q (.ref p) (c6 G1 p (.lst ds))
noncomputable def br(r:AS)(a b:fC):fC:=fun E τ G Q=>a E τ G fun x G1=>b E τ G1 fun y G2=>r x y G2 Q
noncomputable def Jd(r:D->Gp->DK->Prop)(a:fC):fC:=fun E τ G Q=>a E τ G fun x G1=>r x G1 Q
noncomputable def jb(G:Gp)(o:GO)(Q:DK):Prop:=∀ p,G p=none->Q (.ref p) (c6 G p o)
noncomputable def MulOk(i j:Int):Prop:=(-(2 ^ 64) < i/\i < 2 ^ 64)\/(-(2 ^ 64) < j/\j < 2 ^ 64)
noncomputable def oA:D->Gp->Option (List D)
 | .dJ ds,_=>some ds
 | .ref a,G=>match G a with
  | some (.lst ds)=>some ds
  | _=>none
 | _,_=>none
noncomputable def DL(x y:D)(G:Gp)(Q:DK):Prop:=match oA x G,oA y G with
 | some xs,some ys=>xs.length+ys.length<=SZ/\jb G (.lst (xs++ys)) Q
 | _,_=>False
noncomputable def pX:AS
 | .int i,.int j,G,Q=>Q (.int (i+j)) G
 | .str a,.str b,G,Q=>a.length+b.length<=SZ/\Q (.str (a++b)) G
 | .tup a,.tup b,G,Q=>a≠[]/\a.length+b.length<=SZ/\Q (.tup (a++b)) G
 | x,y,G,Q=>DL x y G Q
noncomputable def uk:AS
 | .int i,.int j,G,Q=>Q (.int (i - j)) G
 | _,_,_,_=>False
noncomputable def v3:AS
 | .int i,.int j,G,Q=>MulOk i j/\Q (.int (i * j)) G
 | _,_,_,_=>False
noncomputable def sO:AS
 | .int i,.int j,G,Q=>0 < j/\Q (.int (i % j)) G
 | _,_,_,_=>False
noncomputable def EF:AS
 | .int i,.int j,G,Q=>0 < j/\j < 2 ^ 30/\Q (.int (i / j)) G
 | _,_,_,_=>False
noncomputable def HL:D->Gp->DK->Prop
 | .int i,G,Q=>Q (.int (-i)) G
 | _,_,_=>False
noncomputable def GN(neg:Bool):AS:=fun x y G Q=>∃ a b,Sn G SN x a/\Sn G SN y b/\Q (.bl (if neg then !ic a b else ic a b)) G
noncomputable def lexLt:List Int->List Int->Bool
 | [],[]=>false
 | [],_ :: _=>true
 | _ :: _,[]=>false
 | x :: xs,y :: ys=>if x=y then lexLt xs ys else decide (x < y)
noncomputable def Xs:AS
 | .int i,.int j,G,Q=>Q (.bl (decide (i < j))) G
 | .tup a,.tup b,G,Q=>∃ xs ys,a=xs.map D.int/\b=ys.map D.int/\Q (.bl (lexLt xs ys)) G
 | _,_,_,_=>False
noncomputable def TM:AS
 | .int i,.int j,G,Q=>Q (.bl (decide (i<=j))) G
 | _,_,_,_=>False
noncomputable def TN:AS
 | .int i,.int j,G,Q=>Q (.bl (decide (i > j))) G
 | _,_,_,_=>False
noncomputable def rGe:AS
 | .int i,.int j,G,Q=>Q (.bl (decide (i>=j))) G
 | _,_,_,_=>False
noncomputable def LS(neg:Bool):D->Gp->DK->Prop:=fun x G Q=>match x with
 | .cL=>Q (.bl (!neg)) G
 | _=>Q (.bl neg) G
noncomputable def itemsOf:D->Gp->Option (List D)
 | .tup ds,_=>some ds
 | .dJ ds,_=>some ds
 | .ref a,G=>match G a with
  | some (.lst ds)=>some ds
  | _=>none
 | _,_=>none
noncomputable def lr:D->Bool
 | .tup ds=>ds.all fh
 | _=>false
noncomputable def iu(kvs:List (D×D))(k:D):Bool:=(fh k&&kvs.all fun p=>fh p.1)||(lr k&&kvs.all fun p=>lr p.1)
noncomputable def look(kvs:List (D×D))(k:D):Option D:=(kvs.find? fun p=>ic p.1 k).map (·.2)
noncomputable def put(kvs:List (D×D))(k v:D):List (D×D) :=
 if (kvs.any fun p=>ic p.1 k)=true then kvs.map (fun p=>if ic p.1 k=true then (p.1,v) else p) else kvs++[(k,v)]
noncomputable def HM(neg:Bool):AS:=fun x y G Q=>match y with
 | .ref a=>(match G a with
  | some (.ja kvs)=>iu kvs x=true/\Q (.bl (if neg then !(look kvs x).isSome else (look kvs x).isSome)) G
  | some (.lst ds)=>∃ s ss,Sn G SN x s/\Sn G SN (.dJ ds) (.dJ ss)/\Q (.bl (if neg then !ss.any (ic · s) else ss.any (ic · s))) G
  | none=>False)
 | .kh kvs=>kvs≠[]/\iu kvs x=true/\Q (.bl (if neg then !(look kvs x).isSome else (look kvs x).isSome)) G
 | .tup ds=>∃ s ss,Sn G SN x s/\Sn G SN (.dJ ds) (.dJ ss)/\Q (.bl (if neg then !ss.any (ic · s) else ss.any (ic · s))) G
 | .dJ ds=>∃ s ss,Sn G SN x s/\Sn G SN (.dJ ds) (.dJ ss)/\Q (.bl (if neg then !ss.any (ic · s) else ss.any (ic · s))) G
 | _=>False
noncomputable def j6:AS
 | .tup ds,.int i,G,Q=>(match pJ ds i with
  | some d=>Q d G
  | none=>False)
 | .dJ ds,.int i,G,Q=>(match pJ ds i with
  | some d=>Q d G
  | none=>False)
 | .kh kvs,k,G,Q=>iu kvs k=true/\(match look kvs k with
  | some d=>Q d G
  | none=>False)
 | .ref a,k,G,Q=>(match G a with
  | some (.lst ds)=>(match k with
   | .int i=>(match pJ ds i with
    | some d=>Q d G
    | none=>False)
   | _=>False)
  | some (.ja kvs)=>iu kvs k=true/\(match look kvs k with
   | some d=>Q d G
   | none=>False)
  | none=>False)
 | _,_,_,_=>False
noncomputable abbrev Zf:=lb->gS->Gp->(Option Int->Gp->Prop)->Prop
noncomputable def iJ:Zf:=fun _ _ G Q=>Q none G
noncomputable def qW(t:fC):Zf:=fun E τ G Q=>t E τ G fun x G1=>match x with
 | .int i=>Q (some i) G1
 | _=>False
noncomputable def UZ:D->Option Int->Option Int->Gp->DK->Prop
 | .tup ds,lo,hi,G,Q=>¬ (i4 ds.length 0 lo=0/\i4 ds.length ds.length hi=ds.length)/\Q (.tup (cut ds lo hi)) G
 | .dJ ds,lo,hi,G,Q=>jb G (.lst (cut ds lo hi)) Q
 | .ref a,lo,hi,G,Q=>(match G a with
  | some (.lst ds)=>jb G (.lst (cut ds lo hi)) Q
  | _=>False)
 | _,_,_,_,_=>False
noncomputable def Je(a:fC)(lo hi:Zf):fC:=fun E τ G Q=>a E τ G fun x G1=>lo E τ G1 fun l G2=>hi E τ G2 fun h G3=>UZ x l h G3 Q
noncomputable def iI(a:fC):x2:=fun E τ G Q=>a E τ G fun x G1=>match LG x G1 with
 | some b=>Q b G1
 | none=>False
noncomputable def acA(a b:x2):x2:=fun E τ G Q=>a E τ G fun c G1=>if c=true then b E τ G1 Q else Q false G1
noncomputable def dOr(a b:x2):x2:=fun E τ G Q=>a E τ G fun c G1=>if c=true then Q true G1 else b E τ G1 Q
noncomputable def AO(a:x2):x2:=fun E τ G Q=>a E τ G fun c G1=>Q (!c) G1
noncomputable def BX(a b:fC):fC:=fun E τ G Q=>a E τ G fun x G1=>match LG x G1 with
 | some true=>b E τ G1 Q
 | some false=>Q x G1
 | none=>False
noncomputable def Y2(a b:fC):fC:=fun E τ G Q=>a E τ G fun x G1=>match LG x G1 with
 | some true=>Q x G1
 | some false=>b E τ G1 Q
 | none=>False
noncomputable def QC(a:fC):fC:=fun E τ G Q=>a E τ G fun x G1=>match LG x G1 with
 | some c=>Q (.bl (!c)) G1
 | none=>False
noncomputable def QD(c:x2)(a b:fC):fC:=fun E τ G Q=>c E τ G fun k G1=>if k=true then a E τ G1 Q else b E τ G1 Q
noncomputable def cE(sp:om)(t:Gu):fC:=fun E τ G Q=>t E τ G fun ds G1=>sp ds G1 Q fun _ _=>False
noncomputable def sG(r:List D->Gp->DK->Prop)(t:Gu):fC:=fun E τ G Q=>t E τ G fun ds G1=>r ds G1 Q
noncomputable def vN(x:D)(G:Gp):Prop:=match x with
 | .ref a=>(match G a with
  | some (.lst _)=>True
  | _=>False)
 | .dJ _=>True
 | _=>False
noncomputable def Zn(x:D)(G:Gp):Prop:=match x with
 | .kh _=>True
 | .ref a=>(match G a with
  | some (.ja _)=>True
  | _=>False)
 | _=>False
noncomputable def tyS(x:D)(_:Gp):Prop:=match x with
 | .str _=>True
 | _=>False
noncomputable def tN(ty:D->Gp->Prop)(r:D->List D->Gp->DK->Prop)(o:fC)(t:Gu):fC:=fun E τ G Q=>o E τ G fun x G1=>ty x G1/\t E τ G1 fun ds G2=>r x ds G2 Q
noncomputable def lenOf:D->Gp->Option Nat
 | .tup ds,_=>some ds.length
 | .dJ ds,_=>some ds.length
 | .str x,_=>if x.length<=SZ then some x.length else none
 | .kh kvs,_=>if (kvs.all fun p=>fh p.1)=true then some kvs.length else none
 | .ref a,G=>match G a with
  | some (.lst ds)=>some ds.length
  | some (.ja kvs)=>if (kvs.all fun p=>fh p.1)=true then some kvs.length else none
  | none=>none
 | _,_=>none
noncomputable def xx(ds:List D)(G:Gp)(Q:DK):Prop:=match ds with
 | [x]=>(match lenOf x G with
  | some n=>Q (.int (n:Int)) G
  | none=>False)
 | _=>False
noncomputable def xc(ds:List D)(G:Gp)(Q:DK):Prop:=match ds with
 | [x]=>(match itemsOf x G with
  | some xs=>jb G (.lst xs) Q
  | none=>False)
 | _=>False
noncomputable def X6(C:String):D->Gp->Option Bool
 | .cL,_=>some false
 | .bl _,_=>some (C == "bool" || C == "int")
 | .int _,_=>some (C == "int")
 | .str _,_=>some (C == "str")
 | .tup _,_=>some (C == "tuple")
 | .dJ _,_=>some (C == "list")
 | .kh _,_=>some (C == "dict")
 | .exc _,_=>none
 | .ref a,G=>match G a with
  | some (.lst _)=>some (C == "list")
  | some (.ja _)=>some (C == "dict")
  | none=>none
noncomputable def Tb(C:String)(a:fC):fC:=fun E τ G Q=>a E τ G fun x G1=>match X6 C x G1 with
 | some b=>Q (.bl b) G1
 | none=>False
noncomputable def jO(x:D)(ds:List D)(G:Gp)(Q:DK):Prop:=match x,ds with
 | .ref a,[d]=>(match G a with
  | some (.lst xs)=>xs.length < SZ/\Q .cL (c6 G a (.lst (xs++[d])))
  | _=>False)
 | _,_=>False
noncomputable def lP(x:D)(ds:List D)(G:Gp)(Q:DK):Prop:=match x,ds with
 | .ref a,[y]=>(match G a,oA y G with
  | some (.lst xs),some ys=>xs.length+ys.length<=SZ/\Q .cL (c6 G a (.lst (xs++ys)))
  | _,_=>False)
 | _,_=>False
noncomputable def Sz(x:D)(ds:List D)(G:Gp)(Q:DK):Prop:=match x,ds with
 | .ref a,[.int i,d]=>(match G a with
  | some (.lst xs)=>0<=i/\i<=xs.length/\xs.length < SZ/\Q .cL (c6 G a (.lst (xs.take i.toNat++d :: xs.drop i.toNat)))
  | _=>False)
 | _,_=>False
noncomputable def qN(x:D)(ds:List D)(G:Gp)(Q:DK):Prop:=match ds with
 | [d]=>vN x G/\∃ xs s ss,itemsOf x G=some xs/\Sn G SN d s/\Sn G SN (.dJ xs) (.dJ ss)/\(match ss.findIdx? (ic · s) with
  | some k=>Q (.int (k:Int)) G
  | none=>False)
 | _=>False
noncomputable def EW(x:D)(ds:List D)(G:Gp)(Q:DK):Prop:=match x,ds with
 | .ref a,[k,d]=>(match G a with
  | some (.ja kvs)=>iu kvs k=true/\fh k=true/\(match look kvs k with
   | some v=>Q v G
   | none=>kvs.length < SZ/\Q d (c6 G a (.ja (put kvs k d))))
  | _=>False)
 | _,_=>False
noncomputable def gx:iO:=fun _ K τ G=>K.nx τ G
noncomputable def cw(a b:iO):iO:=fun E K τ G=>a E { K with nx:=b E K } τ G
noncomputable def fF(a:fC):iO:=fun E K τ G=>a E τ G fun _ G1=>K.nx τ G1
noncomputable def dN(a:fC):iO:=fun E K τ G=>a E τ G K.rt
noncomputable def Y1:iO:=fun _ K _ G=>K.rt .cL G
noncomputable def kY(c:x2)(a b:iO):iO:=fun E K τ G=>c E τ G fun k G1=>if k=true then a E K τ G1 else b E K τ G1
noncomputable def zF:iO:=fun _ _ _ _=>False
noncomputable abbrev AQ:=lb->D->gS->Gp->(gS->Gp->Prop)->Prop
noncomputable abbrev DM:=lb->List D->gS->Gp->(gS->Gp->Prop)->Prop
noncomputable def aM(i:Nat):AQ:=fun _ d τ G Q=>Q (τ.set i (some d)) G
noncomputable def sX:DM:=fun _ ds τ G Q=>match ds with
 | []=>Q τ G
 | _=>False
noncomputable def iN(t:AQ)(r:DM):DM:=fun E ds τ G Q=>match ds with
 | d :: ds=>t E d τ G fun rV G1=>r E ds rV G1 Q
 | _=>False
noncomputable def uV(t:DM):AQ:=fun E d τ G Q=>match d with
 | .tup ds=>t E ds τ G Q
 | _=>False
noncomputable def sr(o k d:D)(G:Gp)(Q:Gp->Prop):Prop:=match o with
 | .ref a=>(match G a with
  | some (.lst xs)=>(match k with
   | .int i=>(match Fh xs.length i with
    | some j=>Q (c6 G a (.lst (xs.set j d)))
    | none=>False)
   | _=>False)
  | some (.ja kvs)=>iu kvs k=true/\kvs.length < SZ/\Q (c6 G a (.ja (put kvs k d)))
  | none=>False)
 | _=>False
noncomputable def lA(o k:fC):AQ:=fun E d τ G Q=>o E τ G fun x G1=>k E τ G1 fun y G2=>sr x y d G2 fun G3=>Q τ G3
noncomputable def bK(a:fC)(g:AQ):iO:=fun E K τ G=>a E τ G fun x G1=>g E x τ G1 K.nx
noncomputable abbrev MZ:=lb->gS->Gp->(List D->(Gp->Prop)->Gp->Prop)->Prop
noncomputable def nY(a:fC):MZ:=fun E τ G R=>a E τ G fun x G1=>match x with
 | .tup ds=>R ds (fun _=>True) G1
 | .dJ ds=>R ds (fun _=>True) G1
 | .ref p=>(match G1 p with
  | some (.lst ds)=>R ds (fun G2=>G2 p=some (.lst ds)) G1
  | _=>False)
 | _=>False
noncomputable def dQ(lo:Int)(n:Nat):List D:=(aU n).map fun (i:Nat)=>D.int (lo+(i:Int))
noncomputable def uM(a:fC):MZ:=fun E τ G R=>a E τ G fun x G1=>match x with
 | .int n=>-(2 ^ 62)<=n/\n < 2 ^ 62/\R (dQ 0 n.toNat) (fun _=>True) G1
 | _=>False
noncomputable def KJ(a b:fC):MZ:=fun E τ G R=>a E τ G fun x G1=>b E τ G1 fun y G2=>match x,y with
 | .int i,.int j=>(-(2 ^ 62)<=i/\i < 2 ^ 62/\-(2 ^ 62)<=j/\j < 2 ^ 62)/\R (dQ i (j - i).toNat) (fun _=>True) G2
 | _,_=>False
noncomputable def qU(g:AQ)(body:iO)(ok:Gp->Prop):List D->iO
 | []=>fun _ K τ G=>ok G/\K.nx τ G
 | d :: r=>fun E K τ G=>ok G/\g E d τ G fun rV G1=>body E { K with nx:=qU g body ok r E K,ct:=qU g body ok r E K,bk:=K.nx } rV G1
noncomputable def gO(i:MZ)(g:AQ)(body:iO):iO:=fun E K τ G=>i E τ G fun ds ok G1=>qU g body ok ds E K τ G1
noncomputable def Hk(c:x2)(body:iO):Nat->iO
 | 0=>fun _ _ _ _=>False
 | n+1=>fun E K τ G=>c E τ G fun k G1=>if k=true then body E { K with nx:=Hk c body n E K,ct:=Hk c body n E K,bk:=K.nx } τ G1 else K.nx τ G1
noncomputable def QB(c:x2)(body:iO):iO:=fun E K τ G=>∃ n,Hk c body n E K τ G
noncomputable def iS(g:AQ)(c:Option x2)(e:fC)(ok:Gp->Prop):List D->lb->gS->Gp->List D->(List D->Gp->Prop)->Prop
 | [],_,_,G,acc,Q=>ok G/\Q acc G
 | d :: r,E,τ,G,acc,Q=>ok G/\g E d τ G fun rV G1=>match c with
  | none=>e E rV G1 fun x G2=>iS g c e ok r E rV G2 (acc++[x]) Q
  | some c=>c E rV G1 fun k G2=>if k=true then e E rV G2 fun x G3=>iS g (some c) e ok r E rV G3 (acc++[x]) Q else iS g (some c) e ok r E rV G2 acc Q
noncomputable def zH(m:Nat)(fr:List Nat)(τ:gS):gS:=aK m none++fr.map fun i=>(τ[i]?).getD none
noncomputable def fm(m:Nat)(fr:List Nat)(i:MZ)(g:AQ)(c:Option x2)(e:fC):fC:=fun E τ G Q =>
 i E τ G fun ds ok G1=>ds.length<=SZ/\iS g c e ok ds (fun _ _=>False) (zH m fr τ) G1 [] fun xs G2=>jb G2 (.lst xs) Q
noncomputable abbrev tI(ns:List Int):D:=.tup (ns.map D.int)
noncomputable def abk:List Int->Option Int
 | []=>none
 | a :: r=>some (r.foldl (fun m x=>if x < m then x else m) a)
noncomputable def abj:List (List Int)->Option (List Int)
 | []=>none
 | a :: r=>some (r.foldl (fun m x=>if lexLt x m=true then x else m) a)
noncomputable def QJ(ds:List D)(G:Gp)(Q:DK):Prop:=match ds with
 | [x]=>(∃ ns m,itemsOf x G=some (ns.map D.int)/\abk ns=some m/\Q (.int m) G)\/∃ Zx m,itemsOf x G=some (Zx.map tI)/\abj Zx=some m/\Q (tI m) G
 | _=>False
noncomputable def xq:fC:=fun _ _ G Q=>jb G (.ja []) Q
noncomputable def gz(G G':Gp):Prop:=∀ a o,G a=some o->G' a=some o
theorem gz.refl(G:Gp):gz G G:=fun _ _ h=>h
theorem gz.trans{G G1 G2:Gp}(a:gz G G1)(b:gz G1 G2):gz G G2:=fun c o h=>b c o (a c o h)
theorem gz.new{G:Gp}{p:Nat}{o:GO}(h:G p=none):gz G (c6 G p o):=fun a ob e=>by
 by_cases ha:a=p
 ·subst ha; rw [h] at e; cases e
 ·rw [dh ha]; exact e
theorem gz.free{G G':Gp}{p:Nat}(l:gz G G')(h:G' p=none):G p=none:=by
 cases q:G p with
 | none=>rfl
 | some o=>rw [l p o q] at h; cases h
theorem gz.put{G G':Gp}{p:Nat}{o:GO}(l:gz G G')(h:G p=none):gz G (c6 G' p o):=fun a ob e=>by
 by_cases ha:a=p
 ·subst ha; rw [h] at e; cases e
 ·rw [dh ha]; exact l a ob e
noncomputable def ends(Q:DK):mL:=⟨fun _ G=>Q .cL G,Q,fun _ _=>False,fun _ _=>False⟩
noncomputable def bG(n:Nat)(ds:List D):gS:=ds.map some++aK (n - ds.length) none
noncomputable def SS(x:D)(G1:Gp)(R:List D->(Gp->Prop)->Gp->Prop):Prop:=match x with
 | .tup ds=>R ds (fun _=>True) G1
 | .dJ ds=>R ds (fun _=>True) G1
 | .ref p=>(match G1 p with
  | some (.lst ds)=>R ds (fun G2=>G2 p=some (.lst ds)) G1
  | _=>False)
 | _=>False
noncomputable def HS(x:D)(G1:Gp)(Q:Option Int->Gp->Prop):Prop:=match x with
 | .int i=>Q (some i) G1
 | _=>False
noncomputable def so(x:D)(G1:Gp)(Q:Bool->Gp->Prop):Prop:=match LG x G1 with
 | some b=>Q b G1
 | none=>False
noncomputable def TJ(x:D)(G1:Gp)(R:List D->(Gp->Prop)->Gp->Prop):Prop:=match x with
 | .int n=>-(2 ^ 62)<=n/\n < 2 ^ 62/\R (dQ 0 n.toNat) (fun _=>True) G1
 | _=>False
noncomputable def isAt(C:String)(x:D)(G1:Gp)(Q:DK):Prop:=match X6 C x G1 with
 | some b=>Q (.bl b) G1
 | none=>False
theorem kR{i j:Int}{G:Gp}{Q:DK}:pX (.int i) (.int j) G Q=Q (.int (i+j)) G:=rfl
theorem OO{a b:List D}{G:Gp}{Q:DK}:pX (.tup a) (.tup b) G Q=(a≠[]/\a.length+b.length<=SZ/\Q (.tup (a++b)) G):=rfl
theorem kP{i j:Int}{G:Gp}{Q:DK}:uk (.int i) (.int j) G Q=Q (.int (i - j)) G:=rfl
theorem kQ{i j:Int}{G:Gp}{Q:DK}:v3 (.int i) (.int j) G Q=(MulOk i j/\Q (.int (i * j)) G):=rfl
theorem i5{i j:Int}{G:Gp}{Q:DK}:sO (.int i) (.int j) G Q=(0 < j/\Q (.int (i % j)) G):=rfl
theorem v5{i j:Int}{G:Gp}{Q:DK}:EF (.int i) (.int j) G Q=(0 < j/\j < 2 ^ 30/\Q (.int (i / j)) G):=rfl
theorem qK{i:Int}{G:Gp}{Q:DK}:HL (.int i) G Q=Q (.int (-i)) G:=rfl
theorem CL{i j:Int}{G:Gp}{Q:DK}:Xs (.int i) (.int j) G Q=Q (.bl (decide (i < j))) G:=rfl
theorem xI{i j:Int}{G:Gp}{Q:DK}:TM (.int i) (.int j) G Q=Q (.bl (decide (i<=j))) G:=rfl
theorem uo{i j:Int}{G:Gp}{Q:DK}:TN (.int i) (.int j) G Q=Q (.bl (decide (i > j))) G:=rfl
theorem Sb{i j:Int}{G:Gp}{Q:DK}:rGe (.int i) (.int j) G Q=Q (.bl (decide (i>=j))) G:=rfl
theorem R7{ds:List D}{i:Int}{d:D}{G:Gp}{Q:DK}(h:pJ ds i=some d):j6 (.dJ ds) (.int i) G Q=Q d G:=by unfold j6; simp only [h]
theorem R8{a:Nat}{ds:List D}{i:Int}{d:D}{G:Gp}{Q:DK}(h1:G a=some (.lst ds))(h:pJ ds i=some d):j6 (.ref a) (.int i) G Q=Q d G:=by unfold j6; simp only [h1,h]
theorem CJ{ds:List D}{lo hi:Option Int}{G:Gp}{Q:DK}:UZ (.tup ds) lo hi G Q=(¬ (i4 ds.length 0 lo=0/\i4 ds.length ds.length hi=ds.length)/\Q (.tup (cut ds lo hi)) G):=rfl
theorem CK{ds:List D}{lo hi:Option Int}{G:Gp}{Q:DK}:UZ (.dJ ds) lo hi G Q=jb G (.lst (cut ds lo hi)) Q:=rfl
theorem R6{a:Nat}{ds:List D}{lo hi:Option Int}{G:Gp}{Q:DK}(h:G a=some (.lst ds)):UZ (.ref a) lo hi G Q=jb G (.lst (cut ds lo hi)) Q:=by unfold UZ; simp only [h]
theorem zK{ds:List D}{G:Gp}{Q:DK}:xx [.dJ ds] G Q=Q (.int (ds.length:Int)) G:=rfl
theorem QK{ds:List D}{G:Gp}{Q:DK}:xx [.tup ds] G Q=Q (.int (ds.length:Int)) G:=rfl
theorem QL{a:Nat}{ds:List D}{G:Gp}{Q:DK}(h:G a=some (.lst ds)):xx [.ref a] G Q=Q (.int (ds.length:Int)) G:=by unfold xx lenOf; simp only [h]
theorem fA{a:fC}{E:lb}{τ:gS}{G:Gp}{R:List D->(Gp->Prop)->Gp->Prop}:nY a E τ G R=a E τ G fun x G1=>SS x G1 R:=by
 unfold nY SS; rfl
theorem uO{ds:List D}{G:Gp}{R:List D->(Gp->Prop)->Gp->Prop}:SS (.dJ ds) G R=R ds (fun _=>True) G:=rfl
theorem SQ{ds:List D}{G:Gp}{R:List D->(Gp->Prop)->Gp->Prop}:SS (.tup ds) G R=R ds (fun _=>True) G:=rfl
theorem KL{a:Nat}{ds:List D}{G:Gp}{R:List D->(Gp->Prop)->Gp->Prop}(h:G a=some (.lst ds)):SS (.ref a) G R=R ds (fun G2=>G2 a=some (.lst ds)) G:=by unfold SS; simp only [h]
theorem oI{t:fC}{E:lb}{τ:gS}{G:Gp}{Q:Option Int->Gp->Prop}:qW t E τ G Q=t E τ G fun x G1=>HS x G1 Q:=rfl
theorem mC{i:Int}{G:Gp}{Q:Option Int->Gp->Prop}:HS (.int i) G Q=Q (some i) G:=rfl
theorem eC{a:fC}{E:lb}{τ:gS}{G:Gp}{Q:Bool->Gp->Prop}:iI a E τ G Q=a E τ G fun x G1=>so x G1 Q:=rfl
theorem cH{b:Bool}{G:Gp}{Q:Bool->Gp->Prop}:so (.bl b) G Q=Q b G:=rfl
theorem LD{a:Nat}{ds:List D}{G:Gp}{Q:Bool->Gp->Prop}(h:G a=some (.lst ds)):so (.ref a) G Q=Q (!ds.isEmpty) G:=by unfold so LG; simp only [h]
theorem kU{a:fC}{E:lb}{τ:gS}{G:Gp}{R:List D->(Gp->Prop)->Gp->Prop}:uM a E τ G R=a E τ G fun x G1=>TJ x G1 R:=rfl
theorem ju{n:Int}{G:Gp}{R:List D->(Gp->Prop)->Gp->Prop}:TJ (.int n) G R=(-(2 ^ 62)<=n/\n < 2 ^ 62/\R (dQ 0 n.toNat) (fun _=>True) G):=rfl
theorem K9{C:String}{a:fC}{E:lb}{τ:gS}{G:Gp}{Q:DK}:Tb C a E τ G Q=a E τ G fun x G1=>isAt C x G1 Q:=rfl
theorem Fj {C:String} {i:Int} {G:Gp} {Q:DK}:isAt C (.int i) G Q=Q (.bl (C == "int")) G:=rfl
theorem Py {C:String} {ds:List D} {G:Gp} {Q:DK}:isAt C (.tup ds) G Q=Q (.bl (C == "tuple")) G:=rfl
theorem zG{a b:fC}{E:lb}{τ:gS}{G:Gp}{Q:DK}:BX a b E τ G Q=a E τ G fun x G1=>so x G1 fun k G2=>if k=true then b E τ G2 Q else Q x G2:=by
 unfold BX so;refine congrArg (a E τ G) ?_;funext x G1;cases LG x G1 with
 | none=>rfl
 | some k=>cases k <;> simp
theorem Ta{a b:fC}{E:lb}{τ:gS}{G:Gp}{Q:DK}:Y2 a b E τ G Q=a E τ G fun x G1=>so x G1 fun k G2=>if k=true then Q x G2 else b E τ G2 Q:=by
 unfold Y2 so;refine congrArg (a E τ G) ?_;funext x G1;cases LG x G1 with
 | none=>rfl
 | some k=>cases k <;> simp
theorem FY{a:fC}{E:lb}{τ:gS}{G:Gp}{Q:DK}:QC a E τ G Q=a E τ G fun x G1=>so x G1 fun k G2=>Q (.bl (!k)) G2:=rfl
theorem yG{a:Nat}{y:D}{G:Gp}{Q:DK}:pX (.ref a) y G Q=DL (.ref a) y G Q:=by cases y <;> rfl
theorem ur{a:List D}{y:D}{G:Gp}{Q:DK}:pX (.dJ a) y G Q=DL (.dJ a) y G Q:=by cases y <;> rfl
theorem J1{a:Nat}{lo hi:Option Int}{G:Gp}{Q:DK}:UZ (.ref a) lo hi G Q=(match G a with
  | some (.lst ds)=>jb G (.lst (cut ds lo hi)) Q
  | _=>False):=rfl
theorem J4{a:Nat}{k:D}{G:Gp}{Q:DK}:j6 (.ref a) k G Q=(match G a with
  | some (.lst ds)=>(match k with
   | .int i=>(match pJ ds i with
    | some d=>Q d G
    | none=>False)
   | _=>False)
  | some (.ja kvs)=>iu kvs k=true/\(match look kvs k with
   | some d=>Q d G
   | none=>False)
  | none=>False):=by unfold j6; cases k <;> rfl
theorem i6{ds:List D}{i:Int}{G:Gp}{Q:DK}:j6 (.tup ds) (.int i) G Q=(match pJ ds i with
  | some d=>Q d G
  | none=>False):=rfl
theorem yF{ds:List D}{i:Int}{G:Gp}{Q:DK}:j6 (.dJ ds) (.int i) G Q=(match pJ ds i with
  | some d=>Q d G
  | none=>False):=rfl
theorem MV{a:Nat}{G:Gp}{Q:DK}:xc [.ref a] G Q=(match G a with
  | some (.lst ds)=>jb G (.lst ds) Q
  | _=>False):=by
 unfold xc itemsOf;cases h:G a with
 | none=>simp only [h]
 | some g=>cases g <;> simp only [h]
theorem jw{a:Nat}{d:D}{G:Gp}{Q:DK}:jO (.ref a) [d] G Q=(match G a with
  | some (.lst xs)=>xs.length < SZ/\Q .cL (c6 G a (.lst (xs++[d])))
  | _=>False):=rfl
theorem kS{a:Nat}{y:D}{G:Gp}{Q:DK}:lP (.ref a) [y] G Q=(match G a,oA y G with
  | some (.lst xs),some ys=>xs.length+ys.length<=SZ/\Q .cL (c6 G a (.lst (xs++ys)))
  | _,_=>False):=rfl
theorem EX{a:Nat}{i:Int}{d:D}{G:Gp}{Q:DK}:Sz (.ref a) [.int i,d] G Q=(match G a with
  | some (.lst xs)=>0<=i/\i<=xs.length/\xs.length < SZ/\Q .cL (c6 G a (.lst (xs.take i.toNat++d :: xs.drop i.toNat)))
  | _=>False):=rfl
theorem xl{a:Nat}{k d:D}{G:Gp}{Q:DK}:EW (.ref a) [k,d] G Q=(match G a with
  | some (.ja kvs)=>iu kvs k=true/\fh k=true/\(match look kvs k with
   | some v=>Q v G
   | none=>kvs.length < SZ/\Q d (c6 G a (.ja (put kvs k d))))
  | _=>False):=rfl
theorem SR{p:Nat}{G:Gp}{R:List D->(Gp->Prop)->Gp->Prop}:SS (.ref p) G R=(match G p with
  | some (.lst ds)=>R ds (fun G2=>G2 p=some (.lst ds)) G
  | _=>False):=rfl
theorem SK {C:String} {b:Bool} {G:Gp} {Q:DK}:isAt C (.bl b) G Q=Q (.bl (C == "bool" || C == "int")) G:=rfl
theorem nj{a:Nat}{G:Gp}:vN (.ref a) G=(match G a with
  | some (.lst _)=>True
  | _=>False):=rfl
theorem JH{a:Nat}{G:Gp}:Zn (.ref a) G=(match G a with
  | some (.ja _)=>True
  | _=>False):=rfl
theorem RS{ds:List D}{G:Gp}:vN (.dJ ds) G=True:=rfl
theorem um{kvs:List (D×D)}{k:D}{G:Gp}{Q:DK}:j6 (.kh kvs) k G Q=(iu kvs k=true/\(match look kvs k with
  | some d=>Q d G
  | none=>False)):=by unfold j6; cases k <;> rfl
theorem RR{x:Str}{G:Gp}:tyS (.str x) G=True:=rfl
end K2
end
section
namespace K2
open PySem (Str)
noncomputable def AH(R:Nat->Bool)(G:Gp):Gp:=fun a=>if R a=true then none else G a
mutual
inductive Fz (G:Gp) (R:Nat->Bool):D->D->Prop
 | same (d:D):Fz G R d d
 | tup {ds ss:List D}:DS G R ds ss->Fz G R (.tup ds) (.tup ss)
 | dJ {ds ss:List D}:DS G R ds ss->Fz G R (.dJ ds) (.dJ ss)
 | ref {a:Nat} {ds ss:List D}:G a=some (.lst ds)->R a=true->DS G R ds ss->Fz G R (.ref a) (.dJ ss)
 | ja {a:Nat} {kvs kvt:List (D×D)}:G a=some (.ja kvs)->R a=true->Jt G R kvs kvt->Fz G R (.ref a) (.kh kvt)
inductive DS (G:Gp) (R:Nat->Bool):List D->List D->Prop
 | nil:DS G R [] []
 | cons {d s:D} {ds ss:List D}:Fz G R d s->DS G R ds ss->DS G R (d :: ds) (s :: ss)
inductive Jt (G:Gp) (R:Nat->Bool):List (D×D)->List (D×D)->Prop
 | nil:Jt G R [] []
 | cons {k d s:D} {ds ss:List (D×D)}:Fz G R d s->Jt G R ds ss->Jt G R ((k,d) :: ds) ((k,s) :: ss)
end
theorem Jt.same{G:Gp}{R:Nat->Bool}:∀ (kvs:List (D×D)),Jt G R kvs kvs
 | []=>.nil
 | (k,v) :: r=>.cons (.same v) (Jt.same r)
noncomputable def ND(G:Gp)(x:D)(Q:DK):Prop:=∃ (R:Nat->Bool) (t:D),Fz G R x t/\Q t (AH R G)
noncomputable def gB(e:fC):fC:=fun E τ G Q=>e E τ G fun x G1=>ND G1 x Q
theorem DS.same{G:Gp}{R:Nat->Bool}:∀ (ds:List D),DS G R ds ds
 | []=>.nil
 | d :: ds=>.cons (.same d) (DS.same ds)
theorem vd{G G1:Gp}(l:gz G G1):AH (fun a=>(G a).isNone) G1=G:=by
 funext a;unfold AH;cases h:G a with
 | none=>simp [h]
 | some o=>simp [l a o h,h]
theorem MP{G G1:Gp}{p:Nat}{o:GO}(l:gz G G1)(hp:G p=none)(h1:G1 p=some o):AH (fun a=>(G a).isNone&&decide (a≠p)) G1=c6 G p o:=by
 funext a;unfold AH c6;by_cases ha:a=p
 ·subst ha; simp [h1]
 ·cases h:G a with
  | none=>simp [ha,h]
  | some o=>simp [l a o h,ha,h]
theorem sE{G:Gp}{d:D}{Q:DK}(q:Q d G):ND G d Q:=⟨fun _=>false,d,.same d,by
 have e:AH (fun _=>false) G=G:=by funext a; simp [AH]
 rw [e]; exact q⟩
theorem Df{G G1:Gp}{d:D}{Q:DK}(l:gz G G1)(q:Q d G):ND G1 d Q:=⟨_,d,.same d,by rw [vd l]; exact q⟩
theorem V1{G G1:Gp}{p:Nat}{o:GO}{Q:DK}(l:gz G G1)(hp:G p=none)(h1:G1 p=some o)(q:Q (.ref p) (c6 G p o)):ND G1 (.ref p) Q :=
 ⟨_,.ref p,.same _,by rw [MP l hp h1]; exact q⟩
theorem sY{G G1:Gp}{p:Nat}{ds ss:List D}{Q:DK}(l:gz G G1)(hp:G p=none)(h1:G1 p=some (.lst ds))(hs:DS G1 (fun a=>(G a).isNone) ds ss)(q:Q (.dJ ss) G):ND G1 (.ref p) Q :=
 ⟨_,.dJ ss,.ref h1 (by simp [hp]) hs,by rw [vd l]; exact q⟩
theorem zi{G G1:Gp}{p:Nat}{kvs:List (D×D)}{Q:DK}(l:gz G G1)(hp:G p=none)(h1:G1 p=some (.ja kvs))(q:Q (.kh kvs) G):ND G1 (.ref p) Q :=
 ⟨fun a=>(G a).isNone,.kh kvs,.ja h1 (by simp [hp]) (.same _),by rw [vd l]; exact q⟩
theorem P4{G G1:Gp}{d t:D}{Q:DK}(l:gz G G1)(hs:Fz G1 (fun a=>(G a).isNone) d t)(q:Q t G):ND G1 d Q :=
 ⟨_,t,hs,by rw [vd l]; exact q⟩
noncomputable def Bb:om:=fun ds G Q _=>∃ ns:List Int,ds=[.dJ (ns.map D.int)]/\ns.length<=63/\(∀ a,G a=none)/\∀ G',Q (.bl true) G'
theorem fO{a b:iO}{E:lb}{K:mL}{τ:gS}{G:Gp}(P:gS->Gp->Prop)(h1:∀ N,(∀ τ G,P τ G->N τ G)->a E { K with nx:=N } τ G)(h2:∀ τ G,P τ G->b E K τ G):cw a b E K τ G:=h1 (b E K) h2
theorem Et{a b:iO}{E:lb}{K:mL}{τ:gS}{G:Gp}:cw a b E K τ G=a E { K with nx:=b E K } τ G:=rfl
theorem cQ{a:fC}{g:AQ}{b:iO}{E:lb}{K:mL}{τ:gS}{G:Gp}:cw (bK a g) b E K τ G=bK a g E { K with nx:=b E K } τ G:=rfl
theorem qx{a:fC}{b:iO}{E:lb}{K:mL}{τ:gS}{G:Gp}:cw (fF a) b E K τ G=fF a E { K with nx:=b E K } τ G:=rfl
theorem P7{g:AQ}{body:iO}{ok:Gp->Prop}{ds:List D}{E:lb}{K:mL}{τ:gS}{G:Gp}(I:List D->gS->Gp->Prop)
  (h0:I [] τ G) (cz:∀ pre τ G,I pre τ G->ok G)
  (step:∀ (pre:List D) (d:D) (post:List D) τ G (N:gS->Gp->Prop),ds=pre++d :: post->I pre τ G->(∀ vW G2,I (pre++[d]) vW G2->N vW G2) ->
   g E d τ G fun rV G1=>body E { K with nx:=N,ct:=N,bk:=K.nx } rV G1)
  (fin:∀ τ G,I ds τ G->K.nx τ G):qU g body ok ds E K τ G:=by
 have main:∀ (post pre:List D) τ G,ds=pre++post->I pre τ G->qU g body ok post E K τ G:=by
  intro post;induction post with
  | nil =>
   intro pre τ G e h;rw [bU] at e;subst e;exact⟨cz _ _ _ h,fin _ _ h⟩
  | cons d post ih =>
   intro pre τ G e h;refine⟨cz _ _ _ h,?_⟩;exact step pre d post τ G _ e h fun vW G2 h2=>ih (pre++[d]) vW G2 (by rw [e,cK]; rfl) h2
 exact main ds [] τ G rfl h0
theorem xW{g:AQ}{c:Option x2}{e:fC}{ok:Gp->Prop}{ds:List D}{E:lb}{τ:gS}{G:Gp}{Q:List D->Gp->Prop}(I:List D->List D->gS->Gp->Prop)
  (h0:I [] [] τ G) (cz:∀ pre acc τ G,I pre acc τ G->ok G)
  (step:∀ (pre:List D) (d:D) (post acc:List D) τ G (N:gS->List D->Gp->Prop),ds=pre++d :: post->I pre acc τ G->(∀ vW wG G2,I (pre++[d]) wG vW G2->N vW wG G2) ->
   g E d τ G fun rV G1=>match c with
    | none=>e E rV G1 fun x G2=>N rV (acc++[x]) G2
    | some c=>c E rV G1 fun k G2=>if k=true then e E rV G2 fun x G3=>N rV (acc++[x]) G3 else N rV acc G2)
  (fin:∀ acc τ G,I ds acc τ G->Q acc G):iS g c e ok ds E τ G [] Q:=by
 have main:∀ (post pre acc:List D) τ G,ds=pre++post->I pre acc τ G->iS g c e ok post E τ G acc Q:=by
  intro post;induction post with
  | nil =>
   intro pre acc τ G e h;rw [bU] at e;subst e;exact⟨cz _ _ _ _ h,fin _ _ _ h⟩
  | cons d post ih =>
   intro pre acc τ G e' h;refine⟨cz _ _ _ _ h,?_⟩;have:=step pre d post acc τ G (fun vW wG G2=>iS g c e ok post E vW G2 wG Q) e' h fun vW wG G2 h2=>ih (pre++[d]) wG vW G2 (by rw [e',cK]; rfl) h2;cases c with
   | none=>exact this
   | some c=>exact this
 exact main ds [] [] τ G rfl h0
theorem ph(a b:D)(r t:List D):kW (a :: r) (b :: t)=(ic a b&&kW r t):=rfl
theorem tu(a b:Int):ic (.int a) (.int b)=(a == b):=rfl
theorem IT(a b:List D):ic (.tup a) (.tup b)=kW a b:=rfl
theorem FT{α:Type} [DecidableEq α](a b:α)(as bs:List α):(decide (a=b)&&decide (as=bs))=decide (a :: as=b :: bs):=by
 by_cases h:a=b <;> by_cases h2:as=bs <;> simp [h,h2]
end K2
end
section
namespace K2
open PySem (Str)
set_option genInjectivity true in structure T2 where
 a:Int
 b:Int
 deriving DecidableEq
set_option genInjectivity true in structure T3 where
 a:Int
 b:Int
 c:Int
 deriving DecidableEq
class Enc (α:Type) [DecidableEq α] where
 enc:α->D
 dep:Nat
 eqv:∀ a b,ic (enc a) (enc b)=decide (a=b)
 sn:∀ (G:Gp) (n:Nat) (a:α),dep<=n->Sn G n (enc a) (enc a)
open Enc (enc)
noncomputable instance:Enc Int where
 enc:=D.int
 dep:=0
 eqv:=fun a b=>rfl
 sn:=fun G n a _=>.int a
noncomputable instance:Enc Bool where
 enc:=D.bl
 dep:=0
 eqv:=fun a b=>Q8 a b
 sn:=fun G n a _=>.bl a
noncomputable instance:Enc T2 where
 enc:=fun t=>.tup [.int t.a,.int t.b]
 dep:=1
 eqv:=fun x y=>by
  cases x; cases y;rw [IT,ph,ph,tu,tu]; simp only [T2.mk.injEq]; rename_i a b c d; by_cases h:a=c <;> by_cases h2:b=d <;> simp [h,h2,show kW [] []=true from rfl]
 sn:=fun G n t h=>by
  obtain⟨m,rfl⟩:∃ m,n=m+1:=⟨n - 1,by lia⟩;exact .qu (.int _) (.qu (.int _) .Hu)
noncomputable instance:Enc T3 where
 enc:=fun t=>.tup [.int t.a,.int t.b,.int t.c]
 dep:=1
 eqv:=fun x y=>by
  cases x; cases y;rw [IT,ph,ph,ph,tu,tu,tu]; simp only [T3.mk.injEq]; rename_i a b e c d f; by_cases h:a=c <;> by_cases h2:b=d <;> by_cases h3:e=f <;> simp [h,h2,h3,show kW [] []=true from rfl]
 sn:=fun G n t h=>by
  obtain⟨m,rfl⟩:∃ m,n=m+1:=⟨n - 1,by lia⟩;exact .qu (.int _) (.qu (.int _) (.qu (.int _) .Hu))
noncomputable instance {α β:Type} [DecidableEq α] [DecidableEq β] [Enc α] [Enc β]:Enc (α×β) where
 enc:=fun t=>.tup [enc t.1,enc t.2]
 dep:=max (Enc.dep α) (Enc.dep β)+1
 eqv:=fun x y=>by
  cases x; cases y;rw [IT,ph,ph,Enc.eqv,Enc.eqv]; simp only [Prod.mk.injEq]; rename_i a b c d; by_cases h:a=c <;> by_cases h2:b=d <;> simp [h,h2,show kW [] []=true from rfl]
 sn:=fun G n t h=>by
  obtain⟨m,rfl⟩:∃ m,n=m+1:=⟨n - 1,by lia⟩;exact .qu (Enc.sn _ _ _ (by lia)) (.qu (Enc.sn _ _ _ (by lia)) .Hu)
theorem FL{α:Type} [DecidableEq α] [Enc α]:∀ (a b:List α),kW (a.map enc) (b.map enc)=decide (a=b)
 | [],[]=>(decide_eq_true rfl).symm
 | [],b :: bs=>(decide_eq_false (fun z=>nomatch z)).symm
 | a :: as,[]=>(decide_eq_false (fun z=>nomatch z)).symm
 | a :: as,b :: bs=>by
  show (ic (enc a) (enc b)&&kW (as.map enc) (bs.map enc))=_;rw [Enc.eqv,FL as bs,FT]
theorem sM{α:Type} [DecidableEq α] [Enc α](G:Gp)(n:Nat)(h:Enc.dep α<=n):∀ (xs:List α),Sn G (n+1) (.dJ (xs.map enc)) (.dJ (xs.map enc))
 | []=>.OD
 | a :: as=>.EE (Enc.sn _ _ _ h) (sM G n h as)
noncomputable instance {α:Type} [DecidableEq α] [Enc α]:Enc (List α) where
 enc:=fun xs=>.dJ (xs.map enc)
 dep:=Enc.dep α+1
 eqv:=fun a b=>by
  show kW _ _=_;exact FL a b
 sn:=fun G n t h=>by
  obtain⟨m,rfl⟩:∃ m,n=m+1:=⟨n - 1,by lia⟩;exact sM G m (by lia) t
section
variable {α:Type} [DecidableEq α] [Enc α]
theorem Lj(L:List α)(t:α):(L.map enc).any (ic · (enc t))=decide (t∈L):=by
 induction L with
 | nil=>simp
 | cons a r ih =>
  simp only [av,k9,Enc.eqv,ih,hX];by_cases h:a=t
  ·simp [h]
  ·have h':¬ t=a:=fun z=>h z.symm;by_cases h2:t∈r <;> simp [h,h',h2]
end
section
variable {κ α:Type} [DecidableEq κ] [Enc κ] [DecidableEq α] [Enc α]
noncomputable def bD(l:List (κ×α)):List (D×D):=l.map fun p=>(enc p.1,enc p.2)
noncomputable def pL(l:List (κ×α))(k:κ):Option α:=(l.find? fun p=>p.1=k).map (·.2)
noncomputable def mZ(l:List (κ×α))(k:κ)(v:α):List (κ×α):=if (l.any fun p=>p.1=k)=true then l.map (fun p=>if p.1=k then (p.1,v) else p) else l++[(k,v)]
theorem kT(l:List (κ×α))(k:κ):look (bD l) (enc k)=(pL l k).map enc:=by
 unfold look pL bD;induction l with
 | nil=>rfl
 | cons p r ih =>
  rw [av,fW,fW];simp only [Enc.eqv];by_cases h:p.1=k
  ·simp [h]
  ·simp only [h,decide_false]; exact ih
theorem Ka(l:List (κ×α))(k:κ)(v:α):put (bD l) (enc k) (enc v)=bD (mZ l k v):=by
 unfold put mZ;have e:((bD l).any fun p=>ic p.1 (enc k))=l.any fun p=>decide (p.1=k):=by
  unfold bD; rw [List.any_map]; congr 1; funext p; exact Enc.eqv _ _
 rw [e];split
 ·unfold bD; rw [bA,bA];refine oN fun p _=>?_;simp only [wK,Enc.eqv,decide_eq_true_eq];split <;> rfl
 ·unfold bD; rw [aA]; rfl
theorem Gr(l:List (κ×α))(k:κ)(v:α):(mZ l k v).length<=l.length+1:=by
 unfold mZ; split <;> simp
end
class tH (κ:Type) [DecidableEq κ] [Enc κ] where
 ok:(∀ k:κ,fh (enc k)=true)\/∀ k:κ,lr (enc k)=true
noncomputable instance:tH Int:=⟨.inl fun _=>rfl⟩
noncomputable instance:tH T2:=⟨.inr fun _=>rfl⟩
noncomputable instance:tH T3:=⟨.inr fun _=>rfl⟩
theorem fY{κ α:Type} [DecidableEq κ] [Enc κ] [tH κ] [DecidableEq α] [Enc α](l:List (κ×α))(k:κ):iu (bD l) (enc k)=true:=by
 unfold iu bD;rcases tH.ok (κ:=κ) with h | h
 ·rw [vM]; left;rw [h k,Ad,vJ,iA];intro p _; exact h p.1
 ·rw [vM]; right;rw [h k,Ad,vJ,iA];intro p _; exact h p.1
end K2
end
section
namespace K2
open PySem (Str)
open Enc (enc)
mutual
noncomputable def mY:D->D->Bool
 | .int a,.int b=>decide (a < b)
 | .tup a,.tup b=>mX a b
 | .dJ a,.dJ b=>mX a b
 | _,_=>false
noncomputable def mX:List D->List D->Bool
 | [],[]=>false
 | [],_ :: _=>true
 | _ :: _,[]=>false
 | x :: xs,y :: ys=>if ic x y=true then mX xs ys else mY x y
end
theorem o8(x y:D)(xs ys:List D):mX (x :: xs) (y :: ys)=if ic x y=true then mX xs ys else mY x y:=rfl
theorem Pg(a b:Int):mY (.int a) (.int b)=decide (a < b):=rfl
inductive nc where
 | int | tup (l:List nc) | lst (s:nc)
mutual
noncomputable def cM:nc->D->Bool
 | .int,.int _=>true
 | .tup l,.tup ds=>ff l ds
 | .lst s,.dJ ds=>gv s ds
 | _,_=>false
noncomputable def ff:List nc->List D->Bool
 | [],[]=>true
 | s :: l,d :: ds=>cM s d&&ff l ds
 | _,_=>false
noncomputable def gv:nc->List D->Bool
 | _,[]=>true
 | s,d :: ds=>cM s d&&gv s ds
end
theorem dF{a:D}(h:cM .int a=true):∃ i,a=.int i:=by cases a <;> first | exact⟨_,rfl⟩ | exact bH (show false=true from h)
theorem dD{l:List nc}{a:D}(h:cM (.tup l) a=true):∃ x,a=.tup x:=by cases a <;> first | exact⟨_,rfl⟩ | exact bH (show false=true from h)
theorem dE{l:nc}{a:D}(h:cM (.lst l) a=true):∃ x,a=.dJ x:=by cases a <;> first | exact⟨_,rfl⟩ | exact bH (show false=true from h)
mutual
noncomputable def S5:nc->Nat
 | .int=>0
 | .tup l=>Qs l+1
 | .lst s=>S5 s+1
noncomputable def Qs:List nc->Nat
 | []=>0
 | s :: l=>max (S5 s) (Qs l)
end
noncomputable def O3(sh:nc):Bool:=decide (S5 sh<=7)&&(match sh with
 | .tup []=>false
 | _=>true)
noncomputable def Rb(a b:D):Bool:=!mY b a
noncomputable def nA(ds:List D):List D:=ds.mergeSort Rb
noncomputable def xZ(ds:List D)(G:Gp)(Q:DK):Prop:=match ds with
 | [x]=>∃ (sh:nc) (xs:List D),vN x G/\itemsOf x G=some xs/\xs.all (cM sh)=true/\O3 sh=true/\xs.length < 64/\jb G (.lst (nA xs)) Q
 | _=>False
class bY (α:Type) [DecidableEq α] [Enc α] where
 lt:α->α->Bool
 wN:nc
 ID:∀ a:α,cM wN (enc a)=true
 WD:∀ a b:α,mY (enc a) (enc b)=lt a b
 Rf:∀ a,lt a a=false
 trans:∀ a b c,lt a b=true->lt b c=true->lt a c=true
 RT:∀ a b,lt a b=false->lt b a=false->a=b
noncomputable instance:bY Int where
 lt:=fun a b=>decide (a < b)
 wN:=.int
 ID:=fun _=>rfl
 WD:=fun a b=>rfl
 Rf:=fun a=>by simp
 trans:=fun a b c h1 h2=>by simp at *; lia
 RT:=fun a b h1 h2=>by simp at *; lia
noncomputable def uG{α:Type} [DecidableEq α](lt:α->α->Bool):List α->List α->Bool
 | [],[]=>false
 | [],_ :: _=>true
 | _ :: _,[]=>false
 | x :: xs,y :: ys=>if x=y then uG lt xs ys else lt x y
theorem yW{α:Type} [DecidableEq α](lt:α->α->Bool)(x y:α)(xs ys:List α):uG lt (x :: xs) (y :: ys)=if x=y then uG lt xs ys else lt x y:=rfl
section
variable {α:Type} [DecidableEq α] {lt:α->α->Bool}
theorem uF:∀ x:List α,uG lt x x=false
 | []=>rfl
 | a :: x=>by simp only [yW,if_true]; exact uF x
theorem uE(t:∀ a b,lt a b=false->lt b a=false->a=b):∀ (x y:List α),uG lt x y=false->uG lt y x=false->x=y
 | [],[],_,_=>rfl
 | [],_ :: _,h,_=>by cases h
 | _ :: _,[],_,h=>by cases h
 | a :: x,b :: y,h1,h2=>by
  simp only [yW] at h1 h2;by_cases e:a=b
  ·subst e;simp only [if_true] at h1 h2;rw [uE t x y h1 h2]
  ·rw [if_neg e] at h1;rw [if_neg (cW e)] at h2;exact absurd (t a b h1 h2) e
theorem o9(ir:∀ a,lt a a=false)(tr:∀ a b c,lt a b=true->lt b c=true->lt a c=true):∀ (x y z:List α),uG lt x y=true->uG lt y z=true->uG lt x z=true
 | [],[],_,h,_=>by cases h
 | [],_ :: _,[],_,h=>by cases h
 | [],_ :: _,_ :: _,_,_=>rfl
 | _ :: _,[],_,h,_=>by cases h
 | _ :: _,_ :: _,[],_,h=>by cases h
 | a :: x,b :: y,c :: z,h1,h2=>by
  simp only [yW] at h1 h2 ⊢;by_cases e1:a=b
  ·subst e1;simp only [if_true] at h1;by_cases e2:a=c
   ·subst e2;simp only [if_true] at h2 ⊢;exact o9 ir tr x y z h1 h2
   ·rw [if_neg e2] at h2 ⊢; exact h2
  ·rw [if_neg e1] at h1;by_cases e2:b=c
   ·subst e2;rw [if_neg e1]; exact h1
   ·rw [if_neg e2] at h2;have h3:=tr _ _ _ h1 h2;rw [if_neg (by rintro rfl; rw [ir] at h3; cases h3)]; exact h3
end
theorem uB{α:Type} [DecidableEq α] [Enc α] [bY α]:∀ (x y:List α),mX (x.map enc) (y.map enc)=uG (bY.lt (α:=α)) x y
 | [],[]=>rfl
 | [],_ :: _=>rfl
 | _ :: _,[]=>rfl
 | a :: x,b :: y=>by simp only [av,o8,yW,Enc.eqv,uB x y,bY.WD,decide_eq_true_eq]
theorem BK{α:Type} [DecidableEq α] [Enc α] [bY α]:∀ (x:List α),gv (bY.wN α) (x.map enc)=true
 | []=>rfl
 | a :: x=>by simp only [av,gv,bY.ID,BK x,Bool.and_self]
noncomputable instance {α:Type} [DecidableEq α] [Enc α] [bY α]:bY (List α) where
 lt:=uG bY.lt
 wN:=.lst (bY.wN α)
 ID:=fun a=>BK a
 WD:=fun a b=>uB a b
 Rf:=uF
 trans:=o9 bY.Rf bY.trans
 RT:=uE bY.RT
noncomputable def T2.l(t:T2):List Int:=[t.a,t.b]
noncomputable def T3.l(t:T3):List Int:=[t.a,t.b,t.c]
noncomputable instance:bY T2 where
 lt:=fun x y=>uG (fun a b=>decide (a < b)) x.l y.l
 wN:=.tup [.int,.int]
 ID:=fun _=>rfl
 WD:=fun a b=>uB a.l b.l
 Rf:=fun a=>uF _
 trans:=fun a b c=>o9 (α:=Int) bY.Rf bY.trans _ _ _
 RT:=fun ⟨a,b⟩ ⟨c,d⟩ h1 h2=>by
  have:=uE (α:=Int) bY.RT _ _ h1 h2;simpa [T2.l] using this
noncomputable instance:bY T3 where
 lt:=fun x y=>uG (fun a b=>decide (a < b)) x.l y.l
 wN:=.tup [.int,.int,.int]
 ID:=fun _=>rfl
 WD:=fun a b=>uB a.l b.l
 Rf:=fun a=>uF _
 trans:=fun a b c=>o9 (α:=Int) bY.Rf bY.trans _ _ _
 RT:=fun ⟨a,b,e⟩ ⟨c,d,f⟩ h1 h2=>by
  have:=uE (α:=Int) bY.RT _ _ h1 h2;simpa [T3.l] using this
section
variable {α:Type} [DecidableEq α] [Enc α] [bY α]
noncomputable def Ag(a b:α):Bool:=!bY.lt b a
noncomputable def LK(xs:List α):List α:=xs.mergeSort Ag
theorem Bc(xs:List α):nA (xs.map enc)=(LK xs).map enc:=by
 unfold nA LK;symm;exact List.map_mergeSort fun a _ b _=>by unfold Ag Rb; rw [bY.WD]
theorem wj(a b c:α)(h1:Ag a b=true)(h2:Ag b c=true):Ag a c=true:=by
 unfold Ag at *;simp only [A3] at *;cases h:bY.lt c a with
 | false=>rfl
 | true =>
  by_cases e:a=b
  ·subst e; rw [h] at h2; cases h2
  ·have IE:bY.lt a b=true:=by
    cases q:bY.lt a b with
    | true=>rfl
    | false=>exact absurd (bY.RT _ _ q h1) e
   rw [bY.trans _ _ _ h IE] at h2; cases h2
theorem Me(a b:α):(Ag a b||Ag b a)=true:=by
 unfold Ag;cases h:bY.lt b a with
 | false=>rfl
 | true =>
  cases h2:bY.lt a b with
  | false=>rfl
  | true=>have:=bY.trans _ _ _ h h2; rw [bY.Rf] at this; cases this
theorem E7(a b:α)(h1:Ag a b=true)(h2:Ag b a=true):a=b:=by
 unfold Ag at *;exact bY.RT a b (by simpa using h2) (by simpa using h1)
theorem qv(xs:List α):(LK xs).Perm xs:=List.mergeSort_perm xs Ag
theorem yn(xs:List α):(LK xs).Pairwise fun a b=>Ag a b=true:=Nh wj Me xs
theorem An:∀ {xs ys:List α},xs.Perm ys->xs.Pairwise (fun a b=>Ag a b=true)->ys.Pairwise (fun a b=>Ag a b=true)->xs=ys:=by
 intro xs ys hp h1 h2;exact D0 (fun a b _ _ h h'=>E7 a b h h') h1 h2 hp
theorem UL{xs ys:List α}(h:xs.Perm ys):LK xs=LK ys:=An (((qv xs).trans h).trans (qv ys).symm) (yn xs) (yn ys)
theorem Cv{xs:List α}{x:α}:x∈LK xs↔x∈xs:=(qv xs).mem_iff
theorem JQ(xs:List α):(LK xs).length=xs.length:=(qv xs).length_eq
end
end K2
end
section
namespace K2
open PySem (Str)
mutual
theorem kr:∀ (sh:nc) (a:D),cM sh a=true->ic a a=true
 | .int,.int i,_=>by show (i == i)=true; exact beq_self_eq_true i
 | .tup l,.tup xs,h=>by show kW xs xs=true; exact w7 l xs h
 | .lst l,.dJ xs,h=>by show kW xs xs=true; exact w8 l xs h
theorem w7:∀ (l:List nc) (xs:List D),ff l xs=true->kW xs xs=true
 | [],[],_=>rfl
 | s :: l,x :: xs,h=>by
  have h:(cM s x&&ff l xs)=true:=h;rw [aN] at h;show (ic x x&&kW xs xs)=true;rw [kr s x h.1,w7 l xs h.2]; rfl
theorem w8:∀ (s:nc) (xs:List D),gv s xs=true->kW xs xs=true
 | _,[],_=>rfl
 | s,x :: xs,h=>by
  have h:(cM s x&&gv s xs)=true:=h;rw [aN] at h;show (ic x x&&kW xs xs)=true;rw [kr s x h.1,w8 s xs h.2]; rfl
end
theorem V4(s:nc)(ih:∀ (a b:D),cM s a=true->cM s b=true->ic a b=true->a=b):∀ (xs ys:List D),gv s xs=true->gv s ys=true->kW xs ys=true->xs=ys:=by
 intro xs;induction xs with
 | nil=>intro ys _ _ h; cases ys with
  | nil=>rfl
  | cons _ _=>cases h
 | cons x xs X7 =>
  intro ys h1 h2 h;cases ys with
  | nil=>cases h
  | cons y ys =>
   have h1:(cM s x&&gv s xs)=true:=h1;have h2:(cM s y&&gv s ys)=true:=h2;have h:(ic x y&&kW xs ys)=true:=h;rw [aN] at h1 h2 h;rw [ih x y h1.1 h2.1 h.1,X7 ys h1.2 h2.2 h.2]
mutual
theorem pQ:∀ (sh:nc) (a b:D),cM sh a=true->cM sh b=true->ic a b=true->a=b
 | .int,a,b,h1,h2,h=>by
  first | obtain⟨_,rfl⟩:=dF h1 | obtain⟨_,rfl⟩:=dD h1 | obtain⟨_,rfl⟩:=dE h1
  first | obtain⟨_,rfl⟩:=dF h2 | obtain⟨_,rfl⟩:=dD h2 | obtain⟨_,rfl⟩:=dE h2
  rw [tu] at h; rw [beq_iff_eq.mp h]
 | .tup l,a,b,h1,h2,h=>by
  first | obtain⟨_,rfl⟩:=dF h1 | obtain⟨_,rfl⟩:=dD h1 | obtain⟨_,rfl⟩:=dE h1
  first | obtain⟨_,rfl⟩:=dF h2 | obtain⟨_,rfl⟩:=dD h2 | obtain⟨_,rfl⟩:=dE h2
  rw [Qk l _ _ h1 h2 h]
 | .lst l,a,b,h1,h2,h=>by
  first | obtain⟨_,rfl⟩:=dF h1 | obtain⟨_,rfl⟩:=dD h1 | obtain⟨_,rfl⟩:=dE h1
  first | obtain⟨_,rfl⟩:=dF h2 | obtain⟨_,rfl⟩:=dD h2 | obtain⟨_,rfl⟩:=dE h2
  rw [V4 l (pQ l) _ _ h1 h2 h]
theorem Qk:∀ (l:List nc) (xs ys:List D),ff l xs=true->ff l ys=true->kW xs ys=true->xs=ys
 | [],xs,ys,h1,h2,_=>by
  cases xs with
  | nil=>cases ys with
   | nil=>rfl
   | cons _ _=>cases h2
  | cons _ _=>cases h1
 | s :: l,xs,ys,h1,h2,h=>by
  cases xs with
  | nil=>cases h1
  | cons x xs =>
   cases ys with
   | nil=>cases h2
   | cons y ys =>
    have h1:(cM s x&&ff l xs)=true:=h1;have h2:(cM s y&&ff l ys)=true:=h2;have h:(ic x y&&kW xs ys)=true:=h;rw [aN] at h1 h2 h;rw [pQ s x y h1.1 h2.1 h.1,Qk l xs ys h1.2 h2.2 h.2]
end
theorem Pf(s:nc)(ih:∀ (a b:D),cM s a=true->cM s b=true->mY a b=false->mY b a=false->a=b):∀ (xs ys:List D),gv s xs=true->gv s ys=true->mX xs ys=false->mX ys xs=false->xs=ys:=by
 intro xs;induction xs with
 | nil=>intro ys _ _ h _; cases ys with
  | nil=>rfl
  | cons _ _=>cases h
 | cons x xs X7 =>
  intro ys h1 h2 h3 h4;cases ys with
  | nil=>cases h4
  | cons y ys =>
   have h1:(cM s x&&gv s xs)=true:=h1;have h2:(cM s y&&gv s ys)=true:=h2;rw [aN] at h1 h2;simp only [o8] at h3 h4;by_cases e:ic x y=true
   ·have exy:=pQ s x y h1.1 h2.1 e;subst exy;rw [if_pos e] at h3 h4;rw [X7 ys h1.2 h2.2 h3 h4]
   ·rw [if_neg e] at h3;by_cases e2:ic y x=true
    ·have:=pQ s y x h2.1 h1.1 e2;subst this; exact absurd e2 e
    ·rw [if_neg e2] at h4;have:=ih x y h1.1 h2.1 h3 h4;subst this;exact absurd (kr s x h1.1) e
mutual
theorem xP:∀ (sh:nc) (a b:D),cM sh a=true->cM sh b=true->mY a b=false->mY b a=false->a=b
 | .int,a,b,h1,h2,h3,h4=>by
  first | obtain⟨_,rfl⟩:=dF h1 | obtain⟨_,rfl⟩:=dD h1 | obtain⟨_,rfl⟩:=dE h1
  first | obtain⟨_,rfl⟩:=dF h2 | obtain⟨_,rfl⟩:=dD h2 | obtain⟨_,rfl⟩:=dE h2
  simp [Pg] at h3 h4; congr 1; lia
 | .tup l,a,b,h1,h2,h3,h4=>by
  first | obtain⟨_,rfl⟩:=dF h1 | obtain⟨_,rfl⟩:=dD h1 | obtain⟨_,rfl⟩:=dE h1
  first | obtain⟨_,rfl⟩:=dF h2 | obtain⟨_,rfl⟩:=dD h2 | obtain⟨_,rfl⟩:=dE h2
  rw [EY l _ _ h1 h2 h3 h4]
 | .lst l,a,b,h1,h2,h3,h4=>by
  first | obtain⟨_,rfl⟩:=dF h1 | obtain⟨_,rfl⟩:=dD h1 | obtain⟨_,rfl⟩:=dE h1
  first | obtain⟨_,rfl⟩:=dF h2 | obtain⟨_,rfl⟩:=dD h2 | obtain⟨_,rfl⟩:=dE h2
  rw [Pf l (xP l) _ _ h1 h2 h3 h4]
theorem EY:∀ (l:List nc) (xs ys:List D),ff l xs=true->ff l ys=true->mX xs ys=false->mX ys xs=false->xs=ys
 | [],xs,ys,h1,h2,_,_=>by
  cases xs with
  | nil=>cases ys with
   | nil=>rfl
   | cons _ _=>cases h2
  | cons _ _=>cases h1
 | s :: l,xs,ys,h1,h2,h3,h4=>by
  cases xs with
  | nil=>cases h1
  | cons x xs =>
   cases ys with
   | nil=>cases h2
   | cons y ys =>
    have h1:(cM s x&&ff l xs)=true:=h1;have h2:(cM s y&&ff l ys)=true:=h2;rw [aN] at h1 h2;simp only [o8] at h3 h4;by_cases e:ic x y=true
    ·have exy:=pQ s x y h1.1 h2.1 e;subst exy;rw [if_pos e] at h3 h4;rw [EY l xs ys h1.2 h2.2 h3 h4]
    ·rw [if_neg e] at h3;by_cases e2:ic y x=true
     ·have:=pQ s y x h2.1 h1.1 e2;subst this; exact absurd e2 e
     ·rw [if_neg e2] at h4;have:=xP s x y h1.1 h2.1 h3 h4;subst this;exact absurd (kr s x h1.1) e
end
mutual
theorem CY:∀ (sh:nc) (a:D),cM sh a=true->mY a a=false
 | .int,.int i,_=>by rw [Pg]; exact decide_eq_false (Int.lt_irrefl _)
 | .tup l,.tup xs,h=>by show mX xs xs=false; exact EZ l xs h
 | .lst l,.dJ xs,h=>by show mX xs xs=false; exact E1 l xs h
theorem EZ:∀ (l:List nc) (xs:List D),ff l xs=true->mX xs xs=false
 | [],[],_=>rfl
 | s :: l,x :: xs,h=>by
  have h:(cM s x&&ff l xs)=true:=h;rw [aN] at h;simp only [o8,kr s x h.1,if_true]; exact EZ l xs h.2
theorem E1:∀ (s:nc) (xs:List D),gv s xs=true->mX xs xs=false
 | _,[],_=>rfl
 | s,x :: xs,h=>by
  have h:(cM s x&&gv s xs)=true:=h;rw [aN] at h;simp only [o8,kr s x h.1,if_true]; exact E1 s xs h.2
end
theorem Ij(s:nc)(ih:∀ (a b c:D),cM s a=true->cM s b=true->cM s c=true->mY a b=true->mY b c=true->mY a c=true):∀ (xs ys zs:List D),gv s xs=true->gv s ys=true->gv s zs=true->mX xs ys=true->mX ys zs=true->mX xs zs=true:=by
 intro xs;induction xs with
 | nil =>
  intro ys zs _ _ _ h4 h5;cases ys with
  | nil=>cases h4
  | cons _ _=>cases zs with
   | nil=>cases h5
   | cons _ _=>rfl
 | cons x xs X7 =>
  intro ys zs h1 h2 h3 h4 h5;cases ys with
  | nil=>cases h4
  | cons y ys =>
   cases zs with
   | nil=>cases h5
   | cons z zs =>
    have h1:(cM s x&&gv s xs)=true:=h1;have h2:(cM s y&&gv s ys)=true:=h2;have h3:(cM s z&&gv s zs)=true:=h3;rw [aN] at h1 h2 h3;simp only [o8] at h4 h5 ⊢;by_cases e1:ic x y=true
    ·have:=pQ s x y h1.1 h2.1 e1;subst this;rw [if_pos e1] at h4;by_cases e2:ic x z=true
     ·rw [if_pos e2] at h5 ⊢;exact X7 ys zs h1.2 h2.2 h3.2 h4 h5
     ·rw [if_neg e2] at h5 ⊢; exact h5
    ·rw [if_neg e1] at h4;by_cases e2:ic y z=true
     ·have:=pQ s y z h2.1 h3.1 e2;subst this;rw [if_neg e1]; exact h4
     ·rw [if_neg e2] at h5;have h6:=ih x y z h1.1 h2.1 h3.1 h4 h5;rw [if_neg (fun e3=>by
       have:=pQ s x z h1.1 h3.1 e3;subst this;rw [CY s x h1.1] at h6; cases h6)]
      exact h6
mutual
theorem rF:∀ (sh:nc) (a b c:D),cM sh a=true->cM sh b=true->cM sh c=true->mY a b=true->mY b c=true->mY a c=true
 | .int,a,b,c,h1,h2,h3,h4,h5=>by
  first | obtain⟨_,rfl⟩:=dF h1 | obtain⟨_,rfl⟩:=dD h1 | obtain⟨_,rfl⟩:=dE h1
  first | obtain⟨_,rfl⟩:=dF h2 | obtain⟨_,rfl⟩:=dD h2 | obtain⟨_,rfl⟩:=dE h2
  first | obtain⟨_,rfl⟩:=dF h3 | obtain⟨_,rfl⟩:=dD h3 | obtain⟨_,rfl⟩:=dE h3
  simp [Pg] at *; lia
 | .tup l,a,b,c,h1,h2,h3,h4,h5=>by
  first | obtain⟨_,rfl⟩:=dF h1 | obtain⟨_,rfl⟩:=dD h1 | obtain⟨_,rfl⟩:=dE h1
  first | obtain⟨_,rfl⟩:=dF h2 | obtain⟨_,rfl⟩:=dD h2 | obtain⟨_,rfl⟩:=dE h2
  first | obtain⟨_,rfl⟩:=dF h3 | obtain⟨_,rfl⟩:=dD h3 | obtain⟨_,rfl⟩:=dE h3
  exact yR l _ _ _ h1 h2 h3 h4 h5
 | .lst l,a,b,c,h1,h2,h3,h4,h5=>by
  first | obtain⟨_,rfl⟩:=dF h1 | obtain⟨_,rfl⟩:=dD h1 | obtain⟨_,rfl⟩:=dE h1
  first | obtain⟨_,rfl⟩:=dF h2 | obtain⟨_,rfl⟩:=dD h2 | obtain⟨_,rfl⟩:=dE h2
  first | obtain⟨_,rfl⟩:=dF h3 | obtain⟨_,rfl⟩:=dD h3 | obtain⟨_,rfl⟩:=dE h3
  exact Ij l (rF l) _ _ _ h1 h2 h3 h4 h5
theorem yR:∀ (l:List nc) (xs ys zs:List D),ff l xs=true->ff l ys=true->ff l zs=true->mX xs ys=true->mX ys zs=true->mX xs zs=true
 | [],xs,ys,zs,h1,h2,_,h,_=>by
  cases xs with
  | nil=>cases ys with
   | nil=>cases h
   | cons _ _=>cases h2
  | cons _ _=>cases h1
 | s :: l,xs,ys,zs,h1,h2,h3,h4,h5=>by
  cases xs with
  | nil=>cases h1
  | cons x xs =>
   cases ys with
   | nil=>cases h2
   | cons y ys =>
    cases zs with
    | nil=>cases h3
    | cons z zs =>
     have h1:(cM s x&&ff l xs)=true:=h1;have h2:(cM s y&&ff l ys)=true:=h2;have h3:(cM s z&&ff l zs)=true:=h3;rw [aN] at h1 h2 h3;simp only [o8] at h4 h5 ⊢;by_cases e1:ic x y=true
     ·have:=pQ s x y h1.1 h2.1 e1;subst this;rw [if_pos e1] at h4;by_cases e2:ic x z=true
      ·rw [if_pos e2] at h5 ⊢;exact yR l xs ys zs h1.2 h2.2 h3.2 h4 h5
      ·rw [if_neg e2] at h5 ⊢; exact h5
     ·rw [if_neg e1] at h4;by_cases e2:ic y z=true
      ·have:=pQ s y z h2.1 h3.1 e2;subst this;rw [if_neg e1]; exact h4
      ·rw [if_neg e2] at h5;have h6:=rF s x y z h1.1 h2.1 h3.1 h4 h5;rw [if_neg (fun e3=>by
        have:=pQ s x z h1.1 h3.1 e3;subst this;rw [CY s x h1.1] at h6; cases h6)]
       exact h6
end
theorem wg(sh:nc){a b:D}(h1:cM sh a=true)(h2:cM sh b=true)(h:mY a b=true):mY b a=false:=by
 cases q:mY b a with
 | false=>rfl
 | true=>have:=rF sh a b a h1 h2 h1 h q; rw [CY sh a h1] at this; cases this
theorem sR(sh:nc){a b c:D}(h1:cM sh a=true)(h2:cM sh b=true)(h3:cM sh c=true)(q1:mY b a=false)(q2:mY c b=false):mY c a=false:=by
 cases h:mY c a with
 | false=>rfl
 | true =>
  exfalso;cases q:mY a b with
  | false =>
   have:=xP sh a b h1 h2 q q1;subst this; rw [h] at q2; cases q2
  | true=>rw [rF sh c a b h3 h1 h2 h q] at q2; cases q2
theorem lN(sh:nc){xs ys:List D}(hx:∀ x∈xs,cM sh x=true)(hp:ys.Perm xs)(hs:ys.Pairwise fun a b=>mY b a=false):nA xs=ys:=by
 have hy:∀ y∈ys,cM sh y=true:=fun y h=>hx y (hp.mem_iff.mp h);have p1:(nA xs).Perm xs:=List.mergeSort_perm xs Rb;have hz:∀ z∈nA xs,cM sh z=true:=fun z h=>hx z (p1.mem_iff.mp h);have s1:(nA xs).Pairwise fun a b=>mY b a=false:=by
  let W2:List { d:D // cM sh d=true }:=xs.attach.map fun x=>⟨x.1,hx x.1 x.2⟩
  have ex:xs=W2.map (·.1):=by
   simp only [W2,bA]
   conv=>lhs; rw [<-List.attach_map_subtype_val xs]
   rfl
  have e2:nA xs=(W2.mergeSort fun a b=>Rb a.1 b.1).map (·.1):=by
   unfold nA;rw [ex];exact(List.map_mergeSort (r:=fun (a b:{ d:D // cM sh d=true })=>Rb a.1 b.1) (s:=Rb) (f:=fun x=>x.1) (l:=W2) fun a _ b _=>rfl).symm
  rw [e2,eI]
  have:=Nh (le:=fun (a b:{ d:D // cM sh d=true })=>Rb a.1 b.1) (fun a b c h1 h2=>by
   unfold Rb at *;simp only [A3] at *;exact sR sh a.2 b.2 c.2 h1 h2) (fun a b=>by
   unfold Rb;cases q:mY b.1 a.1 with
   | false=>rfl
   | true=>rw [wg sh b.2 a.2 q]; rfl) W2
  exact this.imp fun h=>by unfold Rb at h; simpa using h
 refine D0 (le:=fun a b=>mY b a=false) (fun a b ha hb h h'=>?_) s1 hs (p1.trans hp.symm);exact xP sh a b (hz a ha) (hy b hb) h' h
end K2
end
section
namespace K2
open PySem (Str)
open Enc (enc)
noncomputable def iw(k:Nat):List D->List D
 | []=>[]
 | d :: r=>.tup [.int (k:Int),d] :: iw (k+1) r
theorem BS:∀ (ds:List D) (k i:Nat),(iw k ds)[i]?=(ds[i]?).map fun d=>D.tup [.int ((k+i:Nat):Int),d]
 | [],k,i=>by simp [iw]
 | d :: r,k,0=>by simp [iw]
 | d :: r,k,i+1=>by
  rw [iw,af,BS r (k+1) i,af];congr 1; funext x; congr 3; lia
theorem BQ:∀ (ds:List D) (k:Nat),(iw k ds).length=ds.length
 | [],_=>rfl
 | d :: r,k=>by rw [iw,ak,ak,BQ r]
noncomputable def uN(x:D)(G1:Gp)(R:List D->(Gp->Prop)->Gp->Prop):Prop:=match x with
 | .dJ ds=>R (iw 0 ds) (fun _=>True) G1
 | .ref p=>(match G1 p with
  | some (.lst ds)=>R (iw 0 ds) (fun G2=>G2 p=some (.lst ds)) G1
  | _=>False)
 | _=>False
noncomputable def Fo(a:fC):MZ:=fun E τ G R=>a E τ G fun x G1=>uN x G1 R
noncomputable def XD(P:D->Gp->Prop):List D->Gp->Prop
 | [x],G=>P x G
 | _,_=>False
noncomputable def aaQ(P:D->D->Gp->Prop):List D->Gp->Prop
 | [x,y],G=>P x y G
 | _,_=>False
noncomputable def oW:List D->List D->List D
 | x :: xs,y :: ys=>.tup [x,y] :: oW xs ys
 | _,_=>[]
theorem Ei:∀ (xs ys:List D) (i:Nat),(oW xs ys)[i]?=(xs[i]?).bind fun x=>(ys[i]?).map fun y=>D.tup [x,y]
 | [],ys,i=>by simp [oW]
 | x :: xs,[],i=>by cases h:(x :: xs)[i]? <;> simp [oW]
 | x :: xs,y :: ys,0=>by simp [oW]
 | x :: xs,y :: ys,i+1=>by rw [oW,af,Ei xs ys i,af,af]
theorem Eg:∀ (xs ys:List D),(oW xs ys).length=min xs.length ys.length
 | [],ys=>by simp [oW]
 | x :: xs,[]=>by simp [oW]
 | x :: xs,y :: ys=>by rw [oW,ak,Eg xs ys,ak,ak]; lia
noncomputable def uC(x:D)(G:Gp):Option (List D×(Gp->Prop)):=match x with
 | .dJ ds=>some (ds,fun _=>True)
 | .ref p=>(match G p with
  | some (.lst ds)=>some (ds,fun G2=>G2 p=some (.lst ds))
  | _=>none)
 | _=>none
noncomputable def sV(x y:D)(G1:Gp)(R:List D->(Gp->Prop)->Gp->Prop):Prop:=match uC x G1,uC y G1 with
 | some (xs,k1),some (ys,k2)=>R (oW xs ys) (fun G2=>k1 G2/\k2 G2) G1
 | _,_=>False
noncomputable def PG(a b:fC):MZ:=fun E τ G R=>a E τ G fun x G1=>b E τ G1 fun y G2=>sV x y G2 R
noncomputable def C6(x:D)(G1:Gp)(R:List D->(Gp->Prop)->Gp->Prop):Prop:=match x with
 | .kh kvs=>R (kvs.map (·.1)) (fun _=>True) G1
 | _=>False
noncomputable def PH(a:fC):MZ:=fun E τ G R=>a E τ G fun x G1=>C6 x G1 R
noncomputable def IsL(G:Gp)(d:D)(ds:List D):Prop:=d=.dJ ds\/∃ a,d=.ref a/\G a=some (.lst ds)
theorem IsL.dJ{G:Gp}{ds:List D}:IsL G (.dJ ds) ds:=.inl rfl
theorem IsL.enc{α:Type} [DecidableEq α] [Enc α]{G:Gp}(xs:List α):IsL G (enc xs) (xs.map enc):=.inl rfl
theorem IsL.ref{G:Gp}{a:Nat}{ds:List D}(h:G a=some (.lst ds)):IsL G (.ref a) ds:=.inr ⟨a,rfl,h⟩
theorem IsL.mono{G G':Gp}{d:D}{ds:List D}(h:IsL G d ds)(l:gz G G'):IsL G' d ds:=by
 rcases h with h | ⟨a,h,e⟩
 ·exact .inl h
 ·exact .inr ⟨a,h,l a _ e⟩
theorem PJ{G:Gp}{d:D}{ds:List D}{R:List D->(Gp->Prop)->Gp->Prop}(h:IsL G d ds)(k:∀ ok:Gp->Prop,(∀ G',gz G G'->ok G')->R ds ok G):SS d G R:=by
 rcases h with rfl | ⟨a,rfl,e⟩
 ·exact k _ fun _ _=>trivial
 ·rw [KL e]; exact k _ fun G' l=>l a _ e
theorem E3{G:Gp}{d:D}{ds:List D}(h:IsL G d ds):∃ ok:Gp->Prop,uC d G=some (ds,ok)/\∀ G',gz G G'->ok G':=by
 rcases h with rfl | ⟨a,rfl,e⟩
 ·exact⟨_,rfl,fun _ _=>trivial⟩
 ·unfold uC; simp only [e]; exact⟨_,rfl,fun G' l=>l a _ e⟩
theorem Mm{G:Gp}{d d':D}{ds ds':List D}{R:List D->(Gp->Prop)->Gp->Prop}(h:IsL G d ds)(h':IsL G d' ds')(k:∀ ok:Gp->Prop,(∀ G',gz G G'->ok G')->R (oW ds ds') ok G):sV d d' G R:=by
 obtain⟨k1,e1,h1⟩:=E3 h;obtain⟨k2,e2,h2⟩:=E3 h';unfold sV; simp only [e1,e2];exact k _ fun G' l=>⟨h1 G' l,h2 G' l⟩
theorem yj{G:Gp}{d:D}{ds:List D}{Q:Bool->Gp->Prop}(h:IsL G d ds)(k:Q (!ds.isEmpty) G):so d G Q:=by
 rcases h with rfl | ⟨a,rfl,e⟩
 ·exact k
 ·rw [LD e]; exact k
theorem sU{G:Gp}{d:D}{ds:List D}(h:IsL G d ds):itemsOf d G=some ds:=by
 rcases h with rfl | ⟨a,rfl,e⟩
 ·rfl
 ·unfold itemsOf; simp only [e]
theorem yg{G:Gp}{d:D}{ds:List D}(h:IsL G d ds):vN d G:=by
 rcases h with rfl | ⟨a,rfl,e⟩
 ·trivial
 ·unfold vN; simp only [e]
theorem OL{G:Gp}{d:D}{ds:List D}{lo hi:Option Int}{Q:DK}(h:IsL G d ds)(k:jb G (.lst (cut ds lo hi)) Q):UZ d lo hi G Q:=by
 rcases h with rfl | ⟨a,rfl,e⟩
 ·exact k
 ·rw [R6 e]; exact k
theorem DE{G:Gp}{d:D}{ds:List D}{Q:DK}(h:IsL G d ds)(k:Q (.int (ds.length:Int)) G):xx [d] G Q:=by
 rcases h with rfl | ⟨a,rfl,e⟩
 ·exact k
 ·rw [QL e]; exact k
theorem Gi{G:Gp}{d:D}{ds:List D}{Q:DK}(h:IsL G d ds)(k:jb G (.lst ds) Q):xc [d] G Q:=by
 unfold xc; simp only [sU h]; exact k
theorem Jk{α:Type} [DecidableEq α] [Enc α] [bY α]{G:Gp}{d:D}{xs:List α}{Q:DK}(h:IsL G d (xs.map enc))(hl:xs.length < 64)(k:jb G (.lst ((LK xs).map enc)) Q)(ok:O3 (bY.wN α)=true:=by decide):xZ [d] G Q :=
 ⟨bY.wN α,xs.map enc,yg h,sU h,by rw [vJ,iA]; intro x _; exact bY.ID x,ok,by rw [ag]; exact hl,by rw [Bc]; exact k⟩
theorem mx{G:Gp}{d x:D}{ds:List D}{i:Int}{Q:DK}(h:IsL G d ds)(e:pJ ds i=some x)(k:Q x G):j6 d (.int i) G Q:=by
 rcases h with rfl | ⟨a,rfl,e2⟩
 ·rw [R7 e]; exact k
 ·rw [R8 e2 e]; exact k
theorem mF{G:Gp}{d:D}{ds:List D}(h:IsL G d ds):oA d G=some ds:=by
 rcases h with rfl | ⟨a,rfl,e⟩
 ·rfl
 ·unfold oA; simp only [e]
theorem Ll{G:Gp}{d e:D}{ds es:List D}{Q:DK}(h:IsL G d ds)(h':IsL G e es)(hz:ds.length+es.length<=SZ)(k:jb G (.lst (ds++es)) Q):DL d e G Q:=by
 unfold DL; simp only [mF h,mF h']; exact⟨hz,k⟩
theorem Se{G:Gp}{d e:D}{ds es:List D}{Q:DK}(h:IsL G d ds)(h':IsL G e es)(hz:ds.length+es.length<=SZ)(k:jb G (.lst (ds++es)) Q):pX d e G Q:=by
 have:=Ll h h' hz k;rcases h with rfl | ⟨a,rfl,_⟩
 ·rw [ur]; exact this
 ·rw [yG]; exact this
theorem Ga{α:Type}(xs:List α)(i:Nat)(h:i<=xs.length):cut xs (some (i:Int)) none=xs.drop i:=by
 unfold cut i4;simp only;rw [if_neg (by lia),aS,Nat.min_eq_left h];exact tK (by rw [ck]; lia)
theorem QE{α:Type}(xs:List α)(i:Nat)(h:i<=xs.length):cut xs none (some (i:Int))=xs.take i:=by
 unfold cut i4;simp only;rw [if_neg (by lia),aS,Nat.min_eq_left h];simp
theorem pA{α β:Type}(f:α->β)(xs:List α)(lo hi:Option Int):cut (xs.map f) lo hi=(cut xs lo hi).map f:=by
 unfold cut; rw [ag,Ni,List.map_drop]
theorem vq{α:Type}(xs:List α){k:Int}(h0:0<=k)(h1:k < xs.length):pJ xs k=some (xs[k.toNat]'(by lia)):=by
 unfold pJ Fh;rw [if_pos h0,if_pos h1];show xs[k.toNat]?=_;exact ai (by lia)
theorem sN{n:Nat}{pre post:List D}{d:D}(h:dQ 0 n=pre++d :: post):d=.int (pre.length:Int)/\pre.length < n:=by
 have hl:pre.length < n:=by
  have:=congrArg cV h;simp [dQ] at this; lia
 have:=congrArg (fun l=>l[pre.length]?) h;simp only [dQ,aX,List.getElem?_range hl] at this;rw [cA (aC _)] at this;simp at this;exact⟨this.symm,hl⟩
noncomputable def Xh{α β:Type} [DecidableEq α] [Enc α] [DecidableEq β] [Enc β](pre:α->Prop)(f:α->β):om:=fun ds G Q _=>∃ a:α,ds=[enc a]/\pre a/\Q (enc (f a)) G
noncomputable def aaz{α β γ:Type} [DecidableEq α] [Enc α] [DecidableEq β] [Enc β] [DecidableEq γ] [Enc γ](pre:α->β->Prop)(f:α->β->γ):om:=fun ds G Q _=>∃ (a:α) (b:β),ds=[enc a,enc b]/\pre a b/\Q (enc (f a b)) G
end K2
end
section
namespace K2
open PySem (Str)
open Enc (enc)
noncomputable def Fe(kvs:List (D×D)):Bool:=kvs.all fun p=>fh p.1
noncomputable def Fn(x:D)(G1:Gp)(R:List D->(Gp->Prop)->Gp->Prop):Prop:=match x with
 | .kh kvs=>Fe kvs=true/\R (kvs.map fun p=>.tup [p.1,p.2]) (fun _=>True) G1
 | _=>False
noncomputable def Iw(a:fC):MZ:=fun E τ G R=>a E τ G fun x G1=>Fn x G1 R
noncomputable def sP:D->Bool
 | .cL=>true
 | .bl _=>true
 | .int _=>true
 | _=>false
section
variable {κ α:Type} [DecidableEq κ] [Enc κ] [DecidableEq α] [Enc α] {l:List (κ×α)} {G G':Gp} {d:D}
theorem Mg{β:Type} [DecidableEq β] [Enc β](l:List (Int×β)):Fe (bD l)=true:=by
 unfold Fe bD; rw [vJ,iA]; intro p _; rfl
theorem BU(l:List (κ×α)):(bD l).length=l.length:=by unfold bD; rw [ag]
end
section
variable {α:Type} [DecidableEq α] [Enc α] {l:List (Int×α)} {G:Gp} {d:D}
theorem lX{a:Nat}{i:Int}{v:α}{Q:Gp->Prop}(h:G a=some (.ja (bD l)))(hs:l.length < SZ)(k:Q (c6 G a (.ja (bD (mZ l i v))))):sr (.ref a) (.int i) (enc v) G Q:=by
 unfold sr;simp only [h];refine⟨fY l i,by rw [BU]; exact hs,?_⟩;rw [show (D.int i)=enc i from rfl,Ka]; exact k
end
end K2
end
section
namespace K2
open PySem (Str)
open Enc (enc)
noncomputable abbrev TF2:=lb->gS->Gp->(List Str->Gp->Prop)->Prop
end K2
end
section
namespace K2
open PySem (Str)
open Enc (enc)
noncomputable def DD(ds:List D)(G:Gp)(Q:DK):Prop:=match ds with
 | [.ref a]=>(match G a with
  | some (.ja kvs)=>kvs.length<=1000/\jb G (.lst (kvs.map (·.1))) Q
  | _=>False)
 | _=>False
end K2
end
section
namespace K2
open PySem (Str)
open Enc (enc)
noncomputable def pz(r r':AS)(ta tb tc:fC):x2:=fun E τ G Q=>ta E τ G fun x G1=>tb E τ G1 fun y G2=>r x y G2 fun z G3=>∃ k,z=.bl k/\(if k=true then tc E τ G3 fun w G4=>r' y w G4 (fun z' G5=>∃ k',z'=.bl k'/\Q k' G5) else Q false G3)
noncomputable def cAbs(ds:List D)(G:Gp)(Q:DK):Prop:=match ds with
 | [.int i]=>Q (.int (if i < 0 then -i else i)) G
 | _=>False
noncomputable def qP(x:D)(n:Nat)(G1:Gp)(R:List D->(Gp->Prop)->Gp->Prop):Prop:=match x with
 | .dJ ds=>R (iw n ds) (fun _=>True) G1
 | .ref p=>(match G1 p with
  | some (.lst ds)=>R (iw n ds) (fun G2=>G2 p=some (.lst ds)) G1
  | _=>False)
 | _=>False
noncomputable def Iy(a:fC)(n:Nat):MZ:=fun E τ G R=>a E τ G fun x G1=>qP x n G1 R
end K2
end
section
namespace K2
open PySem (Str)
open Enc (enc)
noncomputable def h2(t:T2):Int:=PySem.reduceHash (PySem.Builtin.Tuple.tupleHashOf [PySem.hashInt t.a,PySem.hashInt t.b])
noncomputable def Pc(x:D)(ds:List D)(G:Gp)(Q:DK):Prop:=match x,ds with
 | .ref a,[y]=>∃ l m:List (T2×T2),G a=some (.ja (bD l))/\y=.kh (bD m)/\(l.length+m.length<=500/\((l++m).map (·.1)).Nodup/\(l=[]->(m.map fun p=>h2 p.1).Nodup))/\Q .cL (c6 G a (.ja (bD (l++m))))
 | _,_=>False
noncomputable def Jf(t:fC):fC:=fun E τ G Q=>t E τ G fun x G1=>∃ l:List (T2×T2),x=.kh (bD l)/\l.length<=500/\jb G1 (.lst (l.map fun p=>enc p.2)) Q
noncomputable def wC(ds:List D)(G:Gp)(Q:DK):Prop:=match ds with
 | [x]=>∃ l:List T2,oA x G=some (l.map enc)/\(1<=l.length/\l.length < 64)/\∀ m:List T2,m.Nodup->(∀ y,y∈m↔y∈l)->jb G (.lst ((LK m).map enc)) Q
 | _=>False
noncomputable def Tc(neg:Bool)(ns:List Int)(a:fC):fC:=fun E τ G Q=>a E τ G fun x G1=>∃ i,x=.int i/\Q (.bl (if neg then !ns.contains i else ns.contains i)) G1
end K2
end
section
namespace K2
open PySem (Str)
noncomputable def FG:D->Bool
 | .dJ ds=>ds.all sP
 | d=>sP d
noncomputable def YR(z y:Nat)(t:fC):List D->lb->gS->Gp->(gS->Prop)->Prop
 | [],_,τ,_,R=>R τ
 | k :: ks,E,τ,G,R=>t E (τ.set z (some k)) G fun d G1=>YR z y t ks E ((τ.set z (some k)).set y (some d)) G1 R
noncomputable def Ui(i z y:Nat)(t:fC):iO:=fun E K τ G=>∃ p kvs,τ[i]?=some (some (.ref p))/\G p=some (.ja kvs) /\
 YR z y t (kvs.map (·.1)) E (τ.set i (some (.kh kvs))) (fun _=>none) fun nS=>∃ d,nS[y]?=some (some d)/\FG d=true/\K.nx ((τ.set z none).set y (some d)) G
end K2
namespace K2
noncomputable def LU(neg:Bool):AS:=fun x y G Q=>match y with
 | .kh []=>(∃ n,x=.int n)/\Q (.bl neg) G
 | y=>HM neg x y G Q
theorem J8{neg:Bool}{x y:D}{G:Gp}{Q:DK}(h:y≠.kh []):LU neg x y G Q=HM neg x y G Q:=by
 unfold LU;split
 ·exact absurd rfl h
 ·rfl
end K2
end
section
namespace K2.S
open PySem PySem.SetTable
noncomputable def f5(m i:Nat):Nat:=(i * 5+1) % (m+1)
noncomputable def Rc(m:Nat):Nat->Nat->Nat
 | 0,i=>i
 | k+1,i=>Rc m k (f5 m i)
theorem xQ(m:Nat):∀ (a b i:Nat),Rc m (a+b) i=Rc m b (Rc m a i)
 | 0,b,i=>by rw [hV]; rfl
 | a+1,b,i=>by rw [Rx]; exact xQ m a b (f5 m i)
noncomputable def Mk(m:Nat):Prop:=m=7\/m=31\/m=127
noncomputable def Xy(m:Nat):Nat->Nat->List Nat
 | 0,_=>[]
 | k+1,i=>i :: Xy m k (f5 m i)
theorem CQ(m:Nat):∀ (n i e:Nat),e∈Xy m n i->∃ k,k < n/\Rc m k i=e
 | 0,_,_,h=>by cases h
 | n+1,i,e,h=>by
  rcases List.mem_cons.mp h with rfl | h
  ·exact⟨0,kz _,rfl⟩
  ·obtain⟨k,hk,q⟩:=CQ m n (f5 m i) e h;exact⟨k+1,Nat.succ_lt_succ hk,q⟩
theorem Sm{m:Nat}(h:Mk m):(∀ e,e < m+1->e∈Xy m (m+1) 0)/\Rc m (m+1) 0=0:=by
 have key:∀ m,((aU (m+1)).all fun e=>(Xy m (m+1) 0).contains e)=true->Rc m (m+1) 0=0->(∀ e,e < m+1->e∈Xy m (m+1) 0)/\Rc m (m+1) 0=0:=fun m h1 h2 =>
  ⟨fun e he=>by simpa using (List.all_eq_true.mp h1) e (List.mem_range.mpr he),h2⟩
 rcases h with rfl | rfl | rfl
 ·exact key _ (by decide +kernel) (by decide +kernel)
 ·exact key _ (by decide +kernel) (by decide +kernel)
 ·exact key _ (by decide +kernel) (by decide +kernel)
theorem cover{m:Nat}(h:Mk m){i e:Nat}(hi:i < m+1)(he:e < m+1):∃ k,k < m+1/\Rc m k i=e:=by
 obtain⟨all,back⟩:=Sm h;obtain⟨a,ha,qa⟩:=CQ m _ _ _ (all i hi);obtain⟨b,hb,qb⟩:=CQ m _ _ _ (all e he);by_cases c:a<=b
 ·refine⟨b - a,by lia,?_⟩;rw [<-qa,<-xQ,show a+(b - a)=b by lia,qb]
 ·refine⟨m+1 - a+b,by lia,?_⟩;rw [<-qa,<-xQ,show a+(m+1 - a+b)=(m+1)+b by lia,xQ,back,qb]
noncomputable def lp(m:Nat):Nat->Nat×Nat->Nat×Nat
 | 0,x=>x
 | k+1,x=>lp m k (leap m x.1 x.2)
theorem Ph(m:Nat):∀ (a b:Nat) (x:Nat×Nat),lp m (a+b) x=lp m b (lp m a x)
 | 0,b,i=>by rw [hV]; rfl
 | a+1,b,i=>by rw [Rx]; exact Ph m a b _
theorem Kt(m:Nat):∀ (k:Nat) (x:Nat×Nat),(lp m k x).2=x.2 / 32 ^ k
 | 0,x=>by rw [Nat.pow_zero,Nat.div_one]; rfl
 | k+1,x=>by
  show (lp m k _).2=_;rw [Kt m k];show x.2 / 32 / 32 ^ k=_;rw [Nat.div_div_eq_div_mul,Rz,RA]
theorem Ks(m:Nat):∀ (k i:Nat),lp m k (i,0)=(Rc m k i,0)
 | 0,_=>rfl
 | k+1,i=>by
  show lp m k ((i * 5+1+0 / 32) % (m+1),0 / 32)=_;rw [Nat.zero_div,Nat.add_zero];exact Ks m k _
theorem TY(m:Nat):∀ (k:Nat) (x:Nat×Nat),x.1 < m+1->(lp m k x).1 < m+1
 | 0,_,h=>h
 | k+1,x,_=>TY m k _ (oM _ (kz m))
theorem E5{m:Nat}(h:Mk m){x:Nat×Nat}(h1:x.1 < m+1)(h2:x.2 < 2 ^ 64){e:Nat}(he:e < m+1):∃ k,k < m+14/\(lp m k x).1=e:=by
 have z:(lp m 13 x).2=0:=by
  rw [Kt]; exact Nat.div_eq_of_lt (bJ h2 (by decide))
 obtain⟨k,hk,q⟩:=cover h (TY m 13 x h1) he;refine⟨13+k,by lia,?_⟩;rw [Ph,show lp m 13 x=((lp m 13 x).1,0) from by rw [<-z],Ks];exact q
noncomputable def eO(m:Nat)(p:Probe):Probe :=
 if p.more > 0 then { p with j:=p.j+1,more:=p.more - 1 } else
 { p with j:=(leap m p.i p.perturb).1,more:=runEnd m (leap m p.i p.perturb).1 - (leap m p.i p.perturb).1,i:=(leap m p.i p.perturb).1,perturb:=(leap m p.i p.perturb).2 }
noncomputable def dW(m:Nat):Nat->Probe->Probe
 | 0,p=>p
 | k+1,p=>dW m k (eO m p)
theorem iY(m:Nat):∀ (a b:Nat) (p:Probe),dW m (a+b) p=dW m b (dW m a p)
 | 0,b,p=>by rw [hV]; rfl
 | a+1,b,p=>by rw [Rx]; exact iY m a b _
theorem LI(m k:Nat)(p:Probe):dW m (k+1) p=eO m (dW m k p):=iY m k 1 p
noncomputable def MW(m:Nat)(x:Nat×Nat):Probe:={ j:=x.1,more:=runEnd m x.1 - x.1,i:=x.1,perturb:=x.2,dummy:=none }
theorem more_le(m i:Nat):runEnd m i - i<=9:=by unfold runEnd; split <;> lia
theorem uc(m:Nat):∀ (n:Nat) (p:Probe),p.more=n->p.dummy=none->dW m (n+1) p=MW m (leap m p.i p.perturb)
 | 0,p,h,hd=>by
  show eO m p=_;unfold eO;rw [if_neg (by lia)];obtain⟨j,mo,i,pe,d⟩:=p;cases hd; rfl
 | n+1,p,h,hd=>by
  show dW m (n+1) (eO m p)=_;have e:eO m p={ p with j:=p.j+1,more:=p.more - 1 }:=by unfold eO; rw [if_pos (by lia)]
  rw [e];exact uc m n _ (by show p.more - 1=n; lia) hd
theorem Za(m:Nat):∀ (k:Nat) (x:Nat×Nat),∃ n,n<=10 * k/\dW m n (MW m x)=MW m (lp m k x)
 | 0,x=>⟨0,aC _,rfl⟩
 | k+1,x=>by
  obtain⟨n,hn,q⟩:=Za m k (leap m x.1 x.2);refine⟨(runEnd m x.1 - x.1+1)+n,?_,?_⟩
  ·have:=more_le m x.1; lia
  ·rw [iY,uc m (runEnd m x.1 - x.1) (MW m x) rfl rfl]; exact q
structure Pb(m:Nat)(p:Probe):Prop where
 hi:p.i < m+1
 hp:p.perturb < 2 ^ 64
 hm:p.more<=9
 hd:p.dummy=none
theorem Pb.leap{m:Nat}{p:Probe}(h:Pb m p):(leap m p.i p.perturb).1 < m+1/\(leap m p.i p.perturb).2 < 2 ^ 64 :=
 ⟨oM _ (kz m),pZ (Nat.div_le_self _ _) h.hp⟩
theorem Pb.eO{m:Nat}{p:Probe}(h:Pb m p):Pb m (eO m p):=by
 unfold S.eO;split
 ·exact⟨h.hi,h.hp,cC (Nat.sub_le _ _) h.hm,h.hd⟩
 ·exact⟨h.leap.1,h.leap.2,more_le _ _,h.hd⟩
theorem Pb.dW{m:Nat}:∀ (k:Nat) {p:Probe},Pb m p->Pb m (dW m k p)
 | 0,_,h=>h
 | k+1,_,h=>Pb.dW k h.eO
theorem Pb.cover{m:Nat}(hm:Mk m){p:Probe}(h:Pb m p){e:Nat}(he:e < m+1):∃ n,n < 10 * turns m/\(S.dW m n p).j=e:=by
 obtain⟨k,hk,q⟩:=E5 hm h.leap.1 h.leap.2 he;obtain⟨n,hn,q2⟩:=Za m k (SetTable.leap m p.i p.perturb);refine⟨p.more+1+n,?_,?_⟩
 ·have:=h.hm; unfold turns; lia
 ·rw [iY,uc m p.more p rfl h.hd,q2]; exact q
theorem Pb.start(t:gJ)(h:Int):Pb t.mask (t.probeStart h):=by
 refine⟨oM _ (kz _),?_,more_le _ _,rfl⟩;show bits h < 2 ^ 64;unfold bits;have h1:0<=h % (2 ^ 64:Int):=dP _ (by decide);have h2:h % (2 ^ 64:Int) < 2 ^ 64:=c7 _ (by decide);lia
end K2.S
end
section
namespace K2.S
open PySem PySem.SetTable
noncomputable def Up(xs:Array Nat):Prop:=∀ a b,a < b->b < xs.size->xs.getD a 0 < xs.getD b 0
theorem PZ(xs:Array Nat){k:Nat}(h:k < xs.size)(a b:Nat):xs.getD k a=xs.getD k b:=by
 rw [bg,bg,a8 h]; rfl
theorem De{xs:Array Nat}(up:Up xs)(j:Nat):∀ (fuel lo hi:Nat),hi - lo<=fuel->lo<=hi->hi<=xs.size->(∀ k,k < lo->xs.getD k 0 < j)->(∀ k,hi<=k->k < xs.size->j<=xs.getD k 0) ->
  below.go xs j fuel lo hi<=xs.size/\(∀ k,k < below.go xs j fuel lo hi->xs.getD k 0 < j)/\(∀ k,below.go xs j fuel lo hi<=k->k < xs.size->j<=xs.getD k 0)
 | 0,lo,hi,h1,h2,h3,h4,h5=>by
  have e:lo=hi:=by lia
  subst e;exact⟨h3,h4,h5⟩
 | fuel+1,lo,hi,h1,h2,h3,h4,h5=>by
  show (below.go xs j (fuel+1) lo hi)<=_/\_;unfold below.go;by_cases c:lo < hi
  ·rw [if_pos c];have hm:(lo+hi) / 2 < xs.size:=by lia
   dsimp only;rw [PZ xs hm j 0];by_cases q:xs.getD ((lo+hi) / 2) 0 < j
   ·rw [if_pos q];refine De up j fuel _ _ (by lia) (by lia) h3 (fun k hk=>?_) h5;by_cases e:k=(lo+hi) / 2
    ·rw [e]; exact q
    ·exact Nat.lt_trans (up _ _ (by lia) hm) q
   ·rw [if_neg q];refine De up j fuel _ _ (by lia) (by lia) (by lia) h4 fun k hk hs=>?_;by_cases e:k=(lo+hi) / 2
    ·rw [e]; lia
    ·have:=up ((lo+hi) / 2) k (by lia) hs; lia
  ·rw [if_neg c];exact⟨by lia,h4,fun k hk hs=>h5 k (by lia) hs⟩
theorem pI{xs:Array Nat}(up:Up xs)(j:Nat):below xs j<=xs.size/\(∀ k,k < below xs j->xs.getD k 0 < j)/\(∀ k,below xs j<=k->k < xs.size->j<=xs.getD k 0) :=
 De up j _ _ _ (by lia) (by lia) (by lia) (fun k h=>by lia) (fun k h1 h2=>by lia)
theorem below_at{xs:Array Nat}(up:Up xs){k:Nat}(hk:k < xs.size):below xs (xs.getD k 0)=k:=by
 obtain⟨h1,h2,h3⟩:=pI up (xs.getD k 0);by_cases a:below xs (xs.getD k 0) < k
 ·have:=h3 _ (aC _) (by lia);have:=up _ _ a hk;lia
 ·by_cases b:k < below xs (xs.getD k 0)
  ·have:=h2 _ b; lia
  ·lia
noncomputable def Full(xs:Array Nat)(j:Nat):Prop:=∃ k,k < xs.size/\xs.getD k 0=j
theorem Up.inj{xs:Array Nat}(up:Up xs){a b:Nat}(ha:a < xs.size)(hb:b < xs.size)(e:xs.getD a 0=xs.getD b 0):a=b:=by
 by_cases c:a < b
 ·have:=up _ _ c hb; lia
 ·by_cases d:b < a
  ·have:=up _ _ d ha; lia
  ·lia
theorem PW(xs:Array Nat){k:Nat}(h:k < xs.size):xs[k]?=some (xs.getD k 0):=by
 rw [bg,a8 h]; rfl
theorem Be{t:gJ}(up:Up t.place){k:Nat}(hk:k < t.place.size):t.slot (t.place.getD k 0)=.live k:=by
 unfold slot;dsimp only;rw [below_at up hk,PW _ hk];rw [if_pos (by simp)]
theorem HH{t:gJ}(up:Up t.place)(dm:t.dummies=#[]){j:Nat}(h:¬ Full t.place j):t.slot j=.empty:=by
 unfold slot;dsimp only;have n1:(t.place[below t.place j]? == some j)=false:=by
  rw [Bool.eq_false_iff];intro q;have q:=beq_iff_eq.mp q;obtain⟨lt,e⟩:=Array.getElem?_eq_some_iff.mp q;exact h ⟨_,lt,by rw [bg,q]; rfl⟩
 rw [n1,dm];rfl
theorem HI{t:gJ}(up:Up t.place)(dm:t.dummies=#[])(j:Nat):(¬ Full t.place j/\t.slot j=.empty)\/(∃ k,k < t.place.size/\t.place.getD k 0=j/\t.slot j=.live k):=by
 by_cases h:Full t.place j
 ·obtain⟨k,hk,e⟩:=h;exact .inr ⟨k,hk,e,e ▸ Be up hk⟩
 ·exact .inl ⟨h,HH up dm h⟩
theorem EJ{t:gJ}(up:Up t.place)(dm:t.dummies=#[])(hashAt:Nat->Int)(h:Int):∀ (fuel:Nat) (p:Probe),Pb t.mask p->(∃ n,n < fuel/\¬ Full t.place (dW t.mask n p).j) ->
    ∃ n met,probe.go t hashAt h fuel p=some met/\(∀ n',n' < n->∃ k,k < t.place.size/\t.place.getD k 0=(dW t.mask n' p).j/\hashAt k≠h) /\
      ((¬ Full t.place (dW t.mask n p).j/\met=.empty (dW t.mask n p).j none) \/
       (∃ k,k < t.place.size/\t.place.getD k 0=(dW t.mask n p).j/\hashAt k=h/\met=.candidate (dW t.mask n p).j k (dW t.mask (n+1) p)))
  | 0,_,_,⟨n,hn,_⟩=>absurd hn (bV _)
  | fuel+1,p,hp,⟨n,hn,hf⟩=>by
    rcases HI up dm p.j with ⟨nf,e⟩ | ⟨k,hk,ek,e⟩
    · refine⟨0,.empty p.j p.dummy,?_,fun n' z=>absurd z (bV _),.inl ⟨nf,by rw [hp.hd]; rfl⟩⟩
      unfold probe.go;rw [e]
    · by_cases q:hashAt k=h
      · refine⟨0,.candidate p.j k (t.advance p),?_,fun n' z=>absurd z (bV _),.inr ⟨k,hk,ek,q,rfl⟩⟩
        unfold probe.go;rw [e];dsimp only;rw [if_pos (beq_iff_eq.mpr q)]
      · have hn0:∃ m,n=m+1:=by
          cases n with
          | zero=>exact absurd ⟨k,hk,ek⟩ hf
          | succ m=>exact⟨m,rfl⟩
        obtain⟨m,rfl⟩:=hn0;obtain⟨n',met,g,all,fin⟩:=EJ up dm hashAt h fuel (eO t.mask p) hp.eO ⟨m,by lia,hf⟩;refine⟨n'+1,met,?_,fun n'' z=>?_,fin⟩
        · unfold probe.go
          rw [e];dsimp only;rw [if_neg (fun z=>q (beq_iff_eq.mp z))];exact g
        · cases n'' with
          | zero=>exact⟨k,hk,ek,q⟩
          | succ n''=>exact all n'' (by lia)
end K2.S
end
section
namespace K2.S
open PySem PySem.SetTable
noncomputable abbrev En:=Array (Int×Value)
noncomputable def hk(es:En)(k:Nat):Int:=(es[k]?.map (·.1)).getD 0
structure Tw(t:gJ)(es:En):Prop where
 ms:Mk t.mask
 dm:t.dummies=#[]
 sz:t.place.size=es.size
 up:Up t.place
 le:∀ k,k < t.place.size->t.place.getD k 0<=t.mask
 nH:t.place.size<=t.mask
 way:∀ k,k < t.place.size->∃ n,(dW t.mask n (probeStart t (hk es k))).j=t.place.getD k 0/\∀ n',n' < n->Full t.place (dW t.mask n' (probeStart t (hk es k))).j
theorem PF{xs:Array Nat}(up:Up xs){m:Nat}(all:∀ e,e<=m->Full xs e):∀ e,e<=m->∀ k,k < xs.size->xs.getD k 0=e->e<=k
 | 0,_,_,_,_=>cb _
 | e+1,he,k,hk,q=>by
  obtain⟨k',Rn,q'⟩:=all e (by lia);have ih:=PF up all e (by lia) k' Rn q';have:k' < k:=by
   by_cases c:k' < k
   ·exact c
   ·by_cases d:k=k'
    ·subst d; lia
    ·have:=up k k' (by lia) Rn; lia
  lia
theorem LL{xs:Array Nat}(up:Up xs){m:Nat}(nH:xs.size<=m):∃ e,e<=m/\¬ Full xs e:=by
 apply cg;intro no;have all:∀ e,e<=m->Full xs e:=fun e he=>cg fun z=>no ⟨e,he,z⟩;obtain⟨k,hk,q⟩:=all m (aC _);have:=PF up all m (aC _) k hk q;lia
theorem zx{t:gJ}{es:En}(O:Tw t es)(p:Probe)(hp:Pb t.mask p):∃ N,N < 10 * turns t.mask/\¬ Full t.place (dW t.mask N p).j/\∀ n,n < N->Full t.place (dW t.mask n p).j:=by
 obtain⟨e,he,hf⟩:=LL O.up O.nH;obtain⟨n0,hn,q⟩:=hp.cover O.ms (show e < t.mask+1 by lia);have:∀ n,n<=n0->(∃ N,N < 10 * turns t.mask/\¬ Full t.place (dW t.mask N p).j/\∀ n,n < N->Full t.place (dW t.mask n p).j)\/(∀ n',n' < n->Full t.place (dW t.mask n' p).j):=by
  intro n;induction n with
  | zero=>intro _; exact .inr fun n' z=>absurd z (bV _)
  | succ n ih =>
   intro Mp;rcases ih (by lia) with a | a
   ·exact .inl a
   ·by_cases c:Full t.place (dW t.mask n p).j
    ·refine .inr fun n' z=>?_;by_cases d:n'=n
     ·rw [d]; exact c
     ·exact a n' (by lia)
    ·exact .inl ⟨n,by lia,c,a⟩
 rcases this n0 (aC _) with a | a
 ·exact a
 ·exact⟨n0,hn,by rw [q]; exact hf,a⟩
theorem gN{α:Type}(xs:Array α)(p:Nat)(x:α)(hp:p<=xs.size):(insertAt xs p x).size=xs.size+1:=by
 rw [<-bp,toList_insertAt,aw,ak,di,ck,bp]; lia
theorem uL{α:Type}(xs:Array α)(p:Nat)(x:α)(hp:p<=xs.size)(k:Nat):(insertAt xs p x)[k]?=if k < p then xs[k]? else if k=p then some x else xs[k - 1]?:=by
 rw [<-cq,toList_insertAt];have hl:(xs.toList.take p).length=p:=by rw [di,bp]; lia
 by_cases c:k < p
 ·rw [if_pos c,dq (by lia),rh c,cq]
 ·rw [if_neg c,cA (by lia),hl];by_cases d:k=p
  ·subst d; rw [if_pos rfl,Ry]; rfl
  ·rw [if_neg d,show k - p=(k - p - 1)+1 by lia,af,List.getElem?_drop,show p+(k - p - 1)=k - 1 by lia,cq]
theorem i9(xs:Array Nat)(p x:Nat)(hp:p<=xs.size)(k:Nat):(insertAt xs p x).getD k 0=if k < p then xs.getD k 0 else if k=p then x else xs.getD (k - 1) 0:=by
 rw [bg,uL xs p x hp];split
 ·rw [bg]
 ·split
  ·rfl
  ·rw [bg]
theorem LW(t:gJ)(dm:t.dummies=#[])(j:Nat):t.put j=({ t with place:=insertAt t.place (below t.place j) j },below t.place j):=by
 unfold SetTable.put;dsimp only;rw [dm];have:has #[] j=false:=rfl;rw [this];cases t;cases dm;rfl
theorem Fx{xs:Array Nat}{p j:Nat}(hp:p<=xs.size){e:Nat}:Full (insertAt xs p j) e↔Full xs e\/e=j:=by
 constructor
 ·rintro⟨k,hk,q⟩;rw [gN xs p j hp] at hk;rw [i9 xs p j hp] at q;by_cases c:k < p
  ·rw [if_pos c] at q; exact .inl ⟨k,by lia,q⟩
  ·rw [if_neg c] at q;by_cases d:k=p
   ·rw [if_pos d] at q; exact .inr q.symm
   ·rw [if_neg d] at q; exact .inl ⟨k - 1,by lia,q⟩
 ·rintro(⟨k,hk,q⟩ | q)
  ·by_cases c:k < p
   ·exact⟨k,by rw [gN xs p j hp]; lia,by rw [i9 xs p j hp,if_pos c]; exact q⟩
   ·exact⟨k+1,by rw [gN xs p j hp]; lia,by rw [i9 xs p j hp,if_neg (by lia),if_neg (by lia)]; exact q⟩
  ·exact⟨p,by rw [gN xs p j hp]; lia,by rw [i9 xs p j hp,if_neg (by lia),if_pos rfl]; exact q.symm⟩
theorem Tw.add{t:gJ}{es:En}(O:Tw t es){h:Int}{x:Value}{N:Nat}(h1:¬ Full t.place (dW t.mask N (probeStart t h)).j)(h2:∀ n,n < N->Full t.place (dW t.mask n (probeStart t h)).j)
  (hj:(dW t.mask N (probeStart t h)).j<=t.mask) (room:t.place.size+1<=t.mask) {t':gJ} (e1:t'.mask=t.mask) (e2:t'.dummies=t.dummies)
  (e3:t'.place=insertAt t.place (below t.place (dW t.mask N (probeStart t h)).j) (dW t.mask N (probeStart t h)).j) :
  Tw t' (insertAt es (below t.place (dW t.mask N (probeStart t h)).j) (h,x)):=by
 generalize ej:(dW t.mask N (probeStart t h)).j=j at *;obtain⟨b1,b2,b3⟩:=pI O.up j;generalize below t.place j=p at *;have QQ:p<=es.size:=by rw [<-O.sz]; exact b1
 have UE:t'.place.size=t.place.size+1:=by rw [e3,gN _ _ _ b1]
 have IA:∀ h,probeStart t' h=probeStart t h:=fun h=>by unfold probeStart; rw [e1]
 have fl:∀ e,Full t.place e->Full t'.place e:=fun e z=>by rw [e3]; exact(Fx b1).mpr (.inl z)
 refine⟨by rw [e1]; exact O.ms,e2.trans O.dm,by rw [UE,gN _ _ _ QQ,O.sz],?_,?_,by rw [UE,e1]; exact room,?_⟩
 ·intro a b ab hb;rw [UE] at hb;rw [e3,i9 _ _ _ b1,i9 _ _ _ b1];by_cases c1:a < p
  ·rw [if_pos c1];by_cases c2:b < p
   ·rw [if_pos c2]; exact O.up a b ab (by lia)
   ·rw [if_neg c2];by_cases c3:b=p
    ·rw [if_pos c3]; exact b2 a c1
    ·rw [if_neg c3];by_cases c4:a=b - 1
     ·lia
     ·exact O.up a (b - 1) (by lia) (by lia)
  ·rw [if_neg c1,if_neg (by lia:¬ b < p),if_neg (by lia:¬ b=p)];by_cases c3:a=p
   ·rw [if_pos c3];have:=b3 (b - 1) (by lia) (by lia);by_cases c5:t.place.getD (b - 1) 0=j
    ·exact absurd ⟨b - 1,by lia,c5⟩ h1
    ·lia
   ·rw [if_neg c3]; exact O.up (a - 1) (b - 1) (by lia) (by lia)
 ·intro k hk;rw [UE] at hk;rw [e3,i9 _ _ _ b1,e1];by_cases c1:k < p
  ·rw [if_pos c1]; exact O.le k (by lia)
  ·rw [if_neg c1];by_cases c2:k=p
   ·rw [if_pos c2]; exact hj
   ·rw [if_neg c2]; exact O.le (k - 1) (by lia)
 ·intro k hk;rw [UE] at hk;have key:∀ k',k' < t.place.size->hk=hk->(insertAt es p (h,x))[k]?=es[k']?->t'.place.getD k 0=t.place.getD k' 0 ->
    ∃ n,(dW t'.mask n (probeStart t' (S.hk (insertAt es p (h,x)) k))).j=t'.place.getD k 0/\∀ n',n' < n->Full t'.place (dW t'.mask n' (probeStart t' (S.hk (insertAt es p (h,x)) k))).j:=by
   intro k' Rn _ ee ep;obtain⟨n,q1,q2⟩:=O.way k' Rn;have eh:S.hk (insertAt es p (h,x)) k=S.hk es k':=by unfold S.hk; rw [ee]
   rw [eh,IA,e1,ep];exact⟨n,q1,fun n' z=>fl _ (q2 n' z)⟩
  by_cases c1:k < p
  ·refine key k (by lia) rfl ?_ ?_
   ·rw [uL _ _ _ QQ,if_pos c1]
   ·rw [e3,i9 _ _ _ b1,if_pos c1]
  ·by_cases c2:k=p
   ·have eh:S.hk (insertAt es p (h,x)) k=h:=by unfold S.hk; rw [uL _ _ _ QQ,if_neg c1,if_pos c2]; rfl
    rw [eh,IA,e1,e3,i9 _ _ _ b1,if_neg c1,if_pos c2];refine⟨N,ej,fun n' z=>?_⟩;exact(Fx b1).mpr (.inl (h2 n' z))
   ·refine key (k - 1) (by lia) rfl ?_ ?_
    ·rw [uL _ _ _ QQ,if_neg c1,if_neg c2]
    ·rw [e3,i9 _ _ _ b1,if_neg c1,if_neg c2]
end K2.S
end
section
namespace K2.S
open PySem PySem.SetTable
theorem TG(m:Nat)(x:Nat×Nat):∀ n,n<=runEnd m x.1 - x.1->dW m n (MW m x)={ MW m x with j:=x.1+n,more:=runEnd m x.1 - x.1 - n }
 | 0,_=>rfl
 | n+1,h=>by
  rw [LI,TG m x n (by lia)];unfold eO;dsimp only;rw [if_pos (by lia)];rfl
theorem CD{m i:Nat}(h:i < m+1){n:Nat}(hn:n<=runEnd m i - i):i+n < m+1:=by
 unfold runEnd at hn;split at hn <;> lia
noncomputable def ow(o:Array (Option Nat))(j:Nat):Option Nat:=o.getD j none
theorem Sl{o:Array (Option Nat)}{j:Nat}(h:j < o.size):o.getD j (some 0)=ow o j:=by
 unfold ow; rw [bg,bg,a8 h]; rfl
theorem TU{o:Array (Option Nat)}{j k:Nat}(h:ow o j=some k):j < o.size:=by
 apply cg;intro z;unfold ow at h;rw [bg,fX (by lia)] at h;cases h
theorem BO{m:Nat}{o:Array (Option Nat)}(sz:o.size=m+1):∀ (fuel:Nat) (x:Nat×Nat),x.1 < m+1->(∃ k,k < fuel/\ow o (lp m k x).1=none) ->
  ∃ n j,layClean.free m o fuel x.1 x.2=some j/\(dW m n (MW m x)).j=j/\j < m+1/\ow o j=none/\∀ n',n' < n->(dW m n' (MW m x)).j < m+1/\ow o (dW m n' (MW m x)).j≠none
 | 0,_,_,⟨_,h,_⟩=>absurd h (bV _)
 | fuel+1,x,hx,⟨k,hk,q⟩=>by
  have pe:∀ n,n<=runEnd m x.1 - x.1->(o.getD (x.1+n) (some 0))=ow o (x.1+n):=fun n hn=>Sl (by rw [sz]; exact CD hx hn);have pj:∀ n,n<=runEnd m x.1 - x.1->(dW m n (MW m x)).j=x.1+n:=fun n hn=>by rw [TG m x n hn]
  have hre:x.1<=runEnd m x.1:=by unfold runEnd; split <;> lia
  cases hf:(aU (runEnd m x.1+1 - x.1)).find? fun k=>(o.getD (x.1+k) (some 0)).isNone with
  | some n =>
   obtain⟨h1,h2,h3⟩:=List.find?_range_eq_some.mp hf;have hn:n<=runEnd m x.1 - x.1:=by have:=List.mem_range.mp h2; lia
   rw [pe n hn] at h1;refine⟨n,x.1+n,?_,pj n hn,CD hx hn,Option.isNone_iff_eq_none.mp h1,fun n' z=>?_⟩
   ·unfold layClean.free; rw [hf]
   ·have Mp:n'<=runEnd m x.1 - x.1:=by lia
    have:=h3 n' z;rw [pe n' Mp] at this;rw [pj n' Mp];refine⟨CD hx Mp,fun e=>?_⟩;rw [e] at this; cases this
  | none =>
   have h3:=List.find?_range_eq_none.mp hf;have all:∀ n',n'<=runEnd m x.1 - x.1->ow o (x.1+n')≠none:=fun n' Mp e=>by
    have:=h3 n' (by lia);rw [pe n' Mp,e] at this; cases this
   obtain⟨k,rfl⟩:∃ k',k=k'+1:=by
    cases k with
    | zero=>exact absurd q (all 0 (cb _))
    | succ k=>exact⟨k,rfl⟩
   obtain⟨n,j,g,gj,hj,gn,ga⟩:=BO sz fuel (leap m x.1 x.2) (oM _ (kz m)) ⟨k,by lia,q⟩;refine⟨(runEnd m x.1 - x.1+1)+n,j,?_,?_,hj,gn,fun n' z=>?_⟩
   ·unfold layClean.free; rw [hf]; exact g
   ·rw [iY,uc m (runEnd m x.1 - x.1) (MW m x) rfl rfl]; exact gj
   ·by_cases c:n'<=runEnd m x.1 - x.1
    ·rw [pj n' c]; exact⟨CD hx c,all n' c⟩
    ·have e:n'=(runEnd m x.1 - x.1+1)+(n' - (runEnd m x.1 - x.1+1)):=by lia
     rw [e,iY,uc m (runEnd m x.1 - x.1) (MW m x) rfl rfl];exact ga _ (by lia)
theorem pig:∀ (L:Nat) (l:List Nat),l.Nodup->(∀ x∈l,x < L)->l.length<=L
 | 0,l,_,h=>by
  cases l with
  | nil=>exact aC _
  | cons a r=>exact absurd (h a aB) (bV _)
 | L+1,l,hn,h=>by
  have:=pig L (l.erase L) (hn.erase L) fun x hx=>by
   have:=(hn.mem_erase_iff).mp hx;have:=h x this.2;lia
  rw [List.length_erase] at this;split at this <;> lia
noncomputable def IA(m:Nat)(h:Int):Probe:=MW m (bits h % (m+1),bits h)
structure Lay(m:Nat)(hs:List Int)(o:Array (Option Nat)):Prop where
 sz:o.size=m+1
 lt:∀ j k,ow o j=some k->k < hs.length
 one:∀ k,k < hs.length->∃ j,ow o j=some k
 uni:∀ j j' k,ow o j=some k->ow o j'=some k->j=j'
 way:∀ j k,ow o j=some k->∃ n,(dW m n (IA m (hs.getD k 0))).j=j/\∀ n',n' < n->ow o (dW m n' (IA m (hs.getD k 0))).j≠none
theorem Lay.nil(m:Nat):Lay m [] (Array.replicate (m+1) none):=by
 have no:∀ j,ow (Array.replicate (m+1) none) j=none:=fun j=>by
  unfold ow;rw [bg,Array.getElem?_replicate];split <;> rfl
 refine⟨Array.size_replicate,fun j k h=>?_,fun k h=>absurd h (bV _),fun j j' k h=>?_,fun j k h=>?_⟩ <;> (rw [no] at h; cases h)
theorem Lay.free{m:Nat}{hs:List Int}{o:Array (Option Nat)}(L:Lay m hs o)(nH:hs.length<=m):∃ j,j < m+1/\ow o j=none:=by
 apply cg;intro no;have all:∀ j,j < m+1->ow o j≠none:=fun j hj e=>no ⟨j,hj,e⟩;have nd:((aU (m+1)).map fun j=>(ow o j).getD 0).Nodup:=by
  rw [jz,eI];refine Ac (fun {a b} ha hb j8 e=>?_) (List.nodup_iff_pairwise_ne.mp (List.nodup_range (n:=m+1)));obtain⟨x,hx⟩:=Option.ne_none_iff_exists'.mp (all a (List.mem_range.mp ha));obtain⟨y,hy⟩:=Option.ne_none_iff_exists'.mp (all b (List.mem_range.mp hb));rw [hx,hy] at e;have e:x=y:=e;subst e;exact j8 (L.uni a b x hx hy)
 have:=pig hs.length _ nd fun x hx=>by
  obtain⟨j,hj,rfl⟩:=List.mem_map.mp hx;obtain⟨k,e⟩:=Option.ne_none_iff_exists'.mp (all j (List.mem_range.mp hj));rw [e]; exact L.lt j k e
 rw [ag,e7] at this;lia
theorem HU{o:Array (Option Nat)}{j k:Nat}(hj:j < o.size)(i:Nat):ow (o.setIfInBounds j (some k)) i=if j=i then some k else ow o i:=by
 unfold ow;rw [bg,Array.getElem?_setIfInBounds];by_cases c:j=i
 ·rw [if_pos c,if_pos c,if_pos hj]; rfl
 ·rw [if_neg c,if_neg c,bg]
theorem Lay.step{m:Nat}(hm:Mk m){hs:List Int}{o:Array (Option Nat)}(L:Lay m hs o)(nH:hs.length<=m)(h:Int) :
  ∃ j,layClean.free m o (turns m) (bits h % (m+1)) (bits h)=some j/\Lay m (hs++[h]) (o.setIfInBounds j (some hs.length)):=by
 obtain⟨e,he,hf⟩:=L.free nH;have hb:bits h < 2 ^ 64:=by
  unfold bits;have h1:0<=h % (2 ^ 64:Int):=dP _ (by decide);have h2:h % (2 ^ 64:Int) < 2 ^ 64:=c7 _ (by decide);lia
 have hx:bits h % (m+1) < m+1:=oM _ (kz m);obtain⟨k,hk,q⟩:=E5 hm (x:=(bits h % (m+1),bits h)) hx hb he;obtain⟨n,j,g,gj,hj,gn,ga⟩:=BO L.sz (turns m) (bits h % (m+1),bits h) hx ⟨k,by unfold turns; lia,by rw [q]; exact hf⟩;have hjs:j < o.size:=by rw [L.sz]; exact hj
 have old:∀ i k,ow o i=some k->ow (o.setIfInBounds j (some hs.length)) i=some k:=fun i k z=>by
  rw [HU hjs,if_neg (fun z2:j=i=>by rw [<-z2,gn] at z; cases z)]; exact z
 have inv:∀ i k,ow (o.setIfInBounds j (some hs.length)) i=some k->(i=j/\k=hs.length)\/(i≠j/\ow o i=some k/\k < hs.length):=fun i k z=>by
  rw [HU hjs] at z;by_cases c:j=i
  ·rw [if_pos c] at z; cases z; exact .inl ⟨c.symm,rfl⟩
  ·rw [if_neg c] at z; exact .inr ⟨fun z2=>c z2.symm,z,L.lt _ _ z⟩
 have nn:∀ i,ow o i≠none->ow (o.setIfInBounds j (some hs.length)) i≠none:=fun i z=>by
  obtain⟨k,e⟩:=Option.ne_none_iff_exists'.mp z;rw [old i k e]; exact fun z=>by cases z
 refine⟨j,g,⟨by rw [Array.size_setIfInBounds]; exact L.sz,fun i k z=>?_,fun k hk=>?_,fun i i' k z z'=>?_,fun i k z=>?_⟩⟩
 ·rw [aw,bF];rcases inv i k z with ⟨_,rfl⟩ | ⟨_,_,hk⟩ <;> lia
 ·rw [aw,bF] at hk;by_cases c:k=hs.length
  ·exact⟨j,by rw [HU hjs,if_pos rfl,c]⟩
  ·obtain⟨i,z⟩:=L.one k (by lia);exact⟨i,old i k z⟩
 ·rcases inv i k z with ⟨a,b⟩ | ⟨a,b,c⟩ <;> rcases inv i' k z' with ⟨a',b'⟩ | ⟨a',b',c'⟩
  ·rw [a,a']
  ·lia
  ·lia
  ·exact L.uni i i' k b b'
 ·rcases inv i k z with ⟨a,b⟩ | ⟨a,b,c⟩
  ·have e:(hs++[h]).getD k 0=h:=by rw [b,az,cA (aC _),Ry]; rfl
   rw [e,a];exact⟨n,gj,fun n' z=>nn _ (ga n' z).2⟩
  ·have e:(hs++[h]).getD k 0=hs.getD k 0:=by rw [az,dq c,<-az]
   rw [e];obtain⟨n,q1,q2⟩:=L.way i k b;exact⟨n,q1,fun n' z=>nn _ (q2 n' z)⟩
theorem Kw{m:Nat}(hm:Mk m):∀ (hs:List Int) (Rg:List Int) (o:Array (Option Nat)),Lay m Rg o->Rg.length+hs.length<=m+1 ->
  ∃ o',hs.foldl (fun acc h=>do
   let (owner,k) ← acc
   let j ← layClean.free m owner (turns m) (bits h % (m+1)) (bits h)
   pure (owner.setIfInBounds j (some k),k+1)) (some (o,Rg.length))=some (o',(Rg++hs).length)/\Lay m (Rg++hs) o'
 | [],Rg,o,L,_=>⟨o,by rw [bU]; rfl,by rw [bU]; exact L⟩
 | h :: hs,Rg,o,L,nH=>by
  obtain⟨j,g,L'⟩:=L.step hm (by rw [ak] at nH; lia) h;obtain⟨o',e,L''⟩:=Kw hm hs (Rg++[h]) _ L' (by rw [aw,bF]; rw [ak] at nH; lia);rw [cK,vE] at e L'';refine⟨o',?_,L''⟩;rw [bT];rw [aw,bF] at e;rw [<-e];congr 1;show (do let j ← layClean.free m o (turns m) (bits h % (m+1)) (bits h); pure (o.setIfInBounds j (some Rg.length),Rg.length+1))=_;rw [g]; rfl
theorem E8{m:Nat}(hm:Mk m)(hs:Array Int)(nH:hs.size<=m+1):∃ o,layClean m hs=some o/\Lay m hs.toList o:=by
 obtain⟨o,e,L⟩:=Kw hm hs.toList [] _ (Lay.nil m) (by rw [aG,bp]; lia);refine⟨o,?_,L⟩;unfold layClean;rw [<-Array.foldl_toList];rw [aG] at e;rw [e];rfl
end K2.S
end
section
namespace K2.S
open PySem PySem.SetTable
theorem Qa(es:En):∀ (l:List Nat),(∀ k∈l,k < es.size)->l.filterMap (es[·]?)=l.map fun k=>es.getD k (0,.none)
 | [],_=>rfl
 | k :: l,h=>by
  have hk:k < es.size:=h k aB;have e:es[k]?=some (es.getD k (0,.none)):=by rw [bg,a8 hk]; rfl
  rw [List.filterMap_cons_some e,av,Qa es l fun x hx=>h x (ao _ hx)]
theorem SG{m:Nat}(hm:Mk m)(es:En)(nH:es.size<=m)(finger moves:Nat)(led plain:Bool) :
  ∃ t' order,laid m finger moves led plain (es.map (·.1))=some (t',order)/\t'.mask=m/\t'.led=led/\t'.plain=plain/\(order.filterMap (es[·]?)).size=es.size /\
   List.Perm (order.filterMap (es[·]?)).toList es.toList/\Tw t' (order.filterMap (es[·]?)):=by
 obtain⟨o,e,L⟩:=E8 hm (es.map (·.1)) (by rw [Array.size_map]; lia);have hl:(es.map (·.1)).toList.length=es.size:=by rw [bp,Array.size_map]
 generalize T6:((aU (m+1)).filterMap fun j=>(o.getD j none).map (j,·))=lv;have mem:∀ p:Nat×Nat,p∈lv↔ow o p.1=some p.2:=by
  rintro⟨j,k⟩;rw [<-T6,List.mem_filterMap];constructor
  ·rintro⟨a,_,q⟩;obtain⟨b,hb,q⟩:=Option.map_eq_some_iff.mp q;cases q; exact hb
  ·intro q;exact⟨j,List.mem_range.mpr (by have:=TU q; rw [L.sz] at this; exact this),Option.map_eq_some_iff.mpr ⟨k,q,rfl⟩⟩
 have asc:lv.Pairwise fun a b=>a.1 < b.1:=by
  rw [<-T6];refine List.Pairwise.filterMap _ (fun a a' r b hb b' uS=>?_) (NS (n:=m+1));obtain⟨_,_,rfl⟩:=Option.map_eq_some_iff.mp hb;obtain⟨_,_,rfl⟩:=Option.map_eq_some_iff.mp uS;exact r
 have nd:(lv.map (·.2)).Nodup:=by
  rw [jz,eI];refine Ac (fun {a b} ha hb r e=>?_) asc;have h1:=(mem a).mp ha;have h2:=(mem b).mp hb;rw [e] at h1;have:=L.uni _ _ _ h1 h2;lia
 have pm:(lv.map (·.2)).Perm (aU es.size):=by
  refine(Hf nd List.nodup_range).mpr fun k=>?_;rw [JB,Cc];constructor
  ·rintro⟨p,hp,rfl⟩;have:=L.lt _ _ ((mem p).mp hp);rw [hl] at this; exact this
  ·intro hk;obtain⟨j,q⟩:=L.one k (by rw [hl]; exact hk);exact⟨(j,k),(mem _).mpr q,rfl⟩
 have ll:lv.length=es.size:=by have:=pm.length_eq; rw [ag,e7] at this; exact this
 have inb:∀ k∈lv.map (·.2),k < es.size:=fun k hk=>List.mem_range.mp (pm.mem_iff.mp hk);have es':((lv.map (·.2)).toArray.filterMap (es[·]?)).toList=lv.map fun p=>es.getD p.2 (0,.none):=by
  rw [Nk,Qa es _ inb,bA]; rfl
 have pes:List.Perm ((lv.map (·.2)).toArray.filterMap (es[·]?)).toList es.toList:=by
  rw [Nk];refine(pm.filterMap _).trans ?_;rw [filterMap_getElem?_range]
 have ges:∀ i,((lv.map (·.2)).toArray.filterMap (es[·]?))[i]?=lv[i]?.map fun p:Nat×Nat=>es.getD p.2 (0,.none):=fun i=>by
  rw [<-cq,es',aX]
 have szs:((lv.map (·.2)).toArray.filterMap (es[·]?)).size=es.size:=by
  rw [<-bp,pes.length_eq,bp]
 have YQ:∀ i (hi:i < lv.length),(lv.map (·.1)).toArray.getD i 0=lv[i].1:=fun i hi=>by
  rw [bg,vI,aX,ai hi]; rfl
 have Ww:(lv.map (·.1)).toArray.size=es.size:=by rw [aR,ag,ll]
 have ful:∀ j,ow o j≠none->Full (lv.map (·.1)).toArray j:=fun j z=>by
  obtain⟨k,q⟩:=Option.ne_none_iff_exists'.mp z;obtain⟨i,hi,ei⟩:=e8 ((mem (j,k)).mpr q);exact⟨i,by rw [Ww,<-ll]; exact hi,by rw [YQ i hi,ei]⟩
 refine⟨{ mask:=m,place:=(lv.map (·.1)).toArray,dummies:=#[],finger,led,moves,plain },(lv.map (·.2)).toArray,?_,rfl,rfl,rfl,szs,pes,?_⟩
 ·unfold laid;rw [e];show some _=some _;rw [T6]
 ·refine⟨hm,rfl,by show (lv.map (·.1)).toArray.size=_; rw [Ww,szs],?_,?_,by show (lv.map (·.1)).toArray.size<=m; rw [Ww]; exact nH,?_⟩
  ·intro a b ab hb;have hb:b < lv.length:=by rw [ll,<-Ww]; exact hb
   show (lv.map (·.1)).toArray.getD a 0 < (lv.map (·.1)).toArray.getD b 0;rw [YQ a (by lia),YQ b hb];exact List.pairwise_iff_getElem.mp asc a b (by lia) hb ab
  ·intro k hk;have hk:k < lv.length:=by rw [ll,<-Ww]; exact hk
   show (lv.map (·.1)).toArray.getD k 0<=m;rw [YQ k hk];have:=TU ((mem _).mp (bP hk));rw [L.sz] at this; lia
  ·intro k hk;have hk:k < lv.length:=by rw [ll,<-Ww]; exact hk
   have hi:=(mem _).mp (bP hk);have oj:=inb lv[k].2 (bq (bP hk));have eh:S.hk ((lv.map (·.2)).toArray.filterMap (es[·]?)) k=(es.map (·.1)).toList.getD lv[k].2 0:=by
    unfold S.hk;rw [ges,ai hk,az,cq,Array.getElem?_map,a8 oj];show (es.getD lv[k].2 (0,.none)).1=(es[lv[k].2]).1;rw [bg,a8 oj]; rfl
   rw [eh];obtain⟨n,q1,q2⟩:=L.way _ _ hi;refine⟨n,?_,fun n' z=>ful _ (q2 n' z)⟩;show _=(lv.map (·.1)).toArray.getD k 0;rw [YQ k hk]; exact q1
end K2.S
end
section
namespace K2
open PySem PySem.Spec PyProof.Rows L2
noncomputable def WO(K:ah)(H:Hp)(a:Addr)(xs:List V):Prop :=
 (∃ o,H a=some (.mP o (.lst xs))) \/
  ∃ (o:Obj) (bw:Array Value) (n:Nat),K.lookup a=some o/\o.cls=.type "list"/\o.dict=none/\o.data=.seq bw n/\bw.size<=bo/\Vals xs bw.toList
theorem WO.sq{K:ah}{H:Hp}{a:Addr}{xs:List V}(h:WO K H a xs):oK K H a xs:=by
 rcases h with ⟨o,h⟩ | h
 ·exact .inl (.inr ⟨o,h⟩)
 ·exact .inr h
noncomputable def dI:Key->D
 | .inl i=>.int i
 | .inr x=>.str x
noncomputable def ExcAt(K:ah)(H:Hp)(a:Addr)(c:Str):Prop:=∃ (o:Obj) (C:Addr),H a=some (.mP o (.ext fun h=>h.get? a=some o))/\o.cls=.ref C/\dH K bQ c=some (some (.ref C))
mutual
inductive cB (K:ah) (H:Hp):V->D->Prop
 | cL:cB K H .cL .cL
 | bl (b:Bool):cB K H (.bl b) (.bl b)
 | int (i:Int):cB K H (.int i) (.int i)
 | str (x:Str):cB K H (.str x) (.str x)
 | tup {a:Addr} {vs:List V} {ds:List D}:H a=some (.tup vs)->bh K H vs ds->cB K H (.ref a) (.tup ds)
 | dJ {a:Addr} {vs:List V} {ds:List D}:WO K H a vs->bh K H vs ds->cB K H (.ref a) (.dJ ds)
 | nV {a:Addr} {o:Obj} {kv:List (Key×V)} {kvs:List (D×D)}:H a=some (.mP o (.dK kv))->oe K H kv kvs->cB K H (.ref a) (.kh kvs)
 | nU {a:Addr} {o:Obj} {kv:List (List Key×V)} {kvs:List (D×D)}:H a=some (.mP o (.dT kv))->lB K H kv kvs->cB K H (.ref a) (.kh kvs)
 | ref (a:Addr):cB K H (.ref a) (.ref a)
 | exc {a:Addr} {c:Str}:ExcAt K H a c->cB K H (.ref a) (.exc c)
inductive bh (K:ah) (H:Hp):List V->List D->Prop
 | nil:bh K H [] []
 | cons {v:V} {d:D} {vs:List V} {ds:List D}:cB K H v d->bh K H vs ds->bh K H (v :: vs) (d :: ds)
inductive oe (K:ah) (H:Hp):List (Key×V)->List (D×D)->Prop
 | nil:oe K H [] []
 | cons {k:Key} {v:V} {d:D} {r:List (Key×V)} {t:List (D×D)}:cB K H v d->oe K H r t->oe K H ((k,v) :: r) ((dI k,d) :: t)
inductive lB (K:ah) (H:Hp):List (List Key×V)->List (D×D)->Prop
 | nil:lB K H [] []
 | cons {k:List Key} {v:V} {d:D} {r:List (List Key×V)} {t:List (D×D)}:cB K H v d->lB K H r t->lB K H ((k,v) :: r) ((.tup (k.map dI),d) :: t)
end
structure Kp(H H':Hp):Prop where
 tup:∀ a xs,H a=some (.tup xs)->H' a=some (.tup xs)
 mP:∀ a o u,H a=some (.mP o u)->H' a=some (.mP o u)
theorem Kp.refl(H:Hp):Kp H H:=⟨fun _ _ h=>h,fun _ _ _ h=>h⟩
theorem Kp.trans{H H1 H2:Hp}(a:Kp H H1)(b:Kp H1 H2):Kp H H2:=⟨fun c xs h=>b.tup c xs (a.tup c xs h),fun c o u h=>b.mP c o u (a.mP c o u h)⟩
theorem Kp.sqT{K:ah}{H H':Hp}{a:Addr}{xs:List V}(k:Kp H H')(h:zO K H a xs):zO K H' a xs:=by
 rcases h with (h | ⟨o,h⟩) | h
 ·exact .inl (.inl (k.tup _ _ h))
 ·exact .inl (.inr ⟨o,k.mP _ _ _ h⟩)
 ·exact .inr h
theorem Kp.TF{K:ah}{H H':Hp}{a:Addr}{xs:List V}(k:Kp H H')(h:WO K H a xs):WO K H' a xs:=by
 rcases h with ⟨o,h⟩ | h
 ·exact .inl ⟨o,k.mP _ _ _ h⟩
 ·exact .inr h
theorem ExcAt.mono{K:ah}{H H':Hp}(k:Kp H H'){a:Addr}{c:Str}(h:ExcAt K H a c):ExcAt K H' a c :=
 let ⟨o,C,h1,h2,h3⟩:=h
 ⟨o,C,k.mP _ _ _ h1,h2,h3⟩
theorem bh.Iu{K:ah}{H:Hp}{P:List V->List D->Prop}(h0:P [] [])(h1:∀ {v:V} {d:D} {vs:List V} {ds:List D},cB K H v d->bh K H vs ds->P vs ds->P (v :: vs) (d :: ds)){vs:List V}{ds:List D}(h:bh K H vs ds):P vs ds :=
 bh.rec (motive_1:=fun _ _ _=>True) (motive_2:=fun vs ds _=>P vs ds) (motive_3:=fun _ _ _=>True) (motive_4:=fun _ _ _=>True) trivial (fun _=>trivial) (fun _=>trivial) (fun _=>trivial) (fun _ _ _=>trivial) (fun _ _ _=>trivial) (fun _ _ _=>trivial) (fun _ _ _=>trivial) (fun _=>trivial) (fun _=>trivial) h0 (fun a b _ ih=>h1 a b ih) trivial (fun _ _ _ _=>trivial) trivial (fun _ _ _ _=>trivial) h
theorem cB.mono{K:ah}{H H':Hp}(k:Kp H H'):∀ {v:V} {d:D},cB K H v d->cB K H' v d:=fun h =>
 cB.rec (motive_1:=fun v d _=>cB K H' v d) (motive_2:=fun v d _=>bh K H' v d) (motive_3:=fun v d _=>oe K H' v d) (motive_4:=fun v d _=>lB K H' v d)
  .cL .bl .int .str (fun h _ r=>.tup (k.tup _ _ h) r) (fun h _ r=>.dJ (k.TF h) r) (fun h _ r=>.nV (k.mP _ _ _ h) r) (fun h _ r=>.nU (k.mP _ _ _ h) r) .ref (fun h=>.exc (h.mono k)) .nil (fun _ _ a b=>.cons a b) .nil (fun _ _ a b=>.cons a b) .nil (fun _ _ a b=>.cons a b) h
theorem bh.mono{K:ah}{H H':Hp}(k:Kp H H'){v:List V}{d:List D}(h:bh K H v d):bh K H' v d :=
 bh.Iu (P:=fun v d=>bh K H' v d) .nil (fun r _ ih=>.cons (r.mono k) ih) h
theorem oe.mono{K:ah}{H H':Hp}(k:Kp H H'){v:List (Key×V)}{d:List (D×D)}(h:oe K H v d):oe K H' v d :=
 oe.rec (motive_1:=fun v d _=>cB K H' v d) (motive_2:=fun v d _=>bh K H' v d) (motive_3:=fun v d _=>oe K H' v d) (motive_4:=fun v d _=>lB K H' v d)
  .cL .bl .int .str (fun h _ r=>.tup (k.tup _ _ h) r) (fun h _ r=>.dJ (k.TF h) r) (fun h _ r=>.nV (k.mP _ _ _ h) r) (fun h _ r=>.nU (k.mP _ _ _ h) r) .ref (fun h=>.exc (h.mono k)) .nil (fun _ _ a b=>.cons a b) .nil (fun _ _ a b=>.cons a b) .nil (fun _ _ a b=>.cons a b) h
theorem lB.mono{K:ah}{H H':Hp}(k:Kp H H'){v:List (List Key×V)}{d:List (D×D)}(h:lB K H v d):lB K H' v d :=
 lB.rec (motive_1:=fun v d _=>cB K H' v d) (motive_2:=fun v d _=>bh K H' v d) (motive_3:=fun v d _=>oe K H' v d) (motive_4:=fun v d _=>lB K H' v d)
  .cL .bl .int .str (fun h _ r=>.tup (k.tup _ _ h) r) (fun h _ r=>.dJ (k.TF h) r) (fun h _ r=>.nV (k.mP _ _ _ h) r) (fun h _ r=>.nU (k.mP _ _ _ h) r) .ref (fun h=>.exc (h.mono k)) .nil (fun _ _ a b=>.cons a b) .nil (fun _ _ a b=>.cons a b) .nil (fun _ _ a b=>.cons a b) h
theorem bh.length{K:ah}{H:Hp}:∀ {vs:List V} {ds:List D},bh K H vs ds->vs.length=ds.length:=fun h =>
 bh.Iu (P:=fun vs ds=>vs.length=ds.length) rfl (fun _ _ ih=>congrArg (· + 1) ih) h
theorem bh.get{K:ah}{H:Hp}:∀ {vs:List V} {ds:List D} {i:Nat} {d:D},bh K H vs ds->ds[i]?=some d->∃ v,vs[i]?=some v/\cB K H v d:=by
 intro vs ds i d h;refine bh.Iu (P:=fun vs ds=>∀ (i:Nat) (d:D),ds[i]?=some d->∃ v,vs[i]?=some v/\cB K H v d) (fun i d e=>by cases e) (fun r _ ih i d e=>?_) h i d;cases i with
 | zero=>cases e; exact⟨_,rfl,r⟩
 | succ i=>exact ih i d e
theorem bh.append{K:ah}{H:Hp}:∀ {vs ws:List V} {ds es:List D},bh K H vs ds->bh K H ws es->bh K H (vs++ws) (ds++es):=fun {_ ws _ es} h s =>
 bh.Iu (P:=fun vs ds=>bh K H (vs++ws) (ds++es)) s (fun r _ ih=>.cons r ih) h
theorem bh.take{K:ah}{H:Hp}:∀ {vs:List V} {ds:List D} (n:Nat),bh K H vs ds->bh K H (vs.take n) (ds.take n):=fun {_ _} n h =>
 bh.Iu (P:=fun vs ds=>∀ n,bh K H (vs.take n) (ds.take n)) (fun n=>by rw [z9,z9]; exact .nil) (fun r _ ih n=>by
  cases n with
  | zero=>exact .nil
  | succ n=>exact .cons r (ih n)) h n
theorem bh.drop{K:ah}{H:Hp}:∀ {vs:List V} {ds:List D} (n:Nat),bh K H vs ds->bh K H (vs.drop n) (ds.drop n):=fun {_ _} n h =>
 bh.Iu (P:=fun vs ds=>∀ n,bh K H (vs.drop n) (ds.drop n)) (fun n=>by rw [Aa,Aa]; exact .nil) (fun r t ih n=>by
  cases n with
  | zero=>exact .cons r t
  | succ n=>exact ih n) h n
theorem bh.set{K:ah}{H:Hp}{v:V}{d:D}(r:cB K H v d):∀ {vs:List V} {ds:List D} (i:Nat),bh K H vs ds->bh K H (vs.set i v) (ds.set i d):=fun {_ _} i h =>
 bh.Iu (P:=fun vs ds=>∀ i,bh K H (vs.set i v) (ds.set i d)) (fun i=>by rw [Cb,Cb]; exact .nil) (fun q t ih i=>by
  cases i with
  | zero=>exact .cons r t
  | succ i=>exact .cons q (ih i)) h i
theorem bh.one{K:ah}{H:Hp}:∀ {vs:List V} {d:D},bh K H vs [d]->∃ v,vs=[v]/\cB K H v d:=by
 intro vs d h;cases h with
 | cons r t=>cases t; exact⟨_,rfl,r⟩
theorem bh.two{K:ah}{H:Hp}:∀ {vs:List V} {d e:D},bh K H vs [d,e]->∃ v u,vs=[v,u]/\cB K H v d/\cB K H u e:=by
 intro vs d e h;cases h with
 | cons r t =>
  obtain⟨u,rfl,q⟩:=bh.one t;exact⟨_,_,rfl,r,q⟩
theorem bh.zero{K:ah}{H:Hp}:∀ {vs:List V},bh K H vs []->vs=[]
 | _,.nil=>rfl
theorem bh.ints{K:ah}{H:Hp}:∀ {vs:List V} {ns:List Int},bh K H vs (ns.map D.int)->vs=ns.map V.int:=by
 intro vs ns;induction ns generalizing vs with
 | nil=>intro h; exact h.zero
 | cons n ns ih =>
  intro h;cases h with
  | cons r t =>
   cases r;rw [ih t]; rfl
theorem bh.CT{K:ah}{H:Hp}:∀ (ns:List Int),bh K H (ns.map V.int) (ns.map D.int)
 | []=>.nil
 | n :: ns=>.cons (.int n) (bh.CT ns)
theorem oe.ind{K:ah}{H:Hp}{motive:∀ (kv:List (Key×V)) (kvs:List (D×D)),oe K H kv kvs->Prop}(nil:motive [] [] .nil)
  (cons:∀ {k:Key} {v:V} {d:D} {r:List (Key×V)} {t:List (D×D)} (re:cB K H v d) (rs:oe K H r t),motive r t rs->motive ((k,v) :: r) ((dI k,d) :: t) (.cons re rs)):∀ {kv:List (Key×V)} {kvs:List (D×D)} (h:oe K H kv kvs),motive kv kvs h:=fun h =>
 oe.rec (motive_1:=fun _ _ _=>True) (motive_2:=fun _ _ _=>True) (motive_3:=motive) (motive_4:=fun _ _ _=>True) trivial (fun _=>trivial) (fun _=>trivial) (fun _=>trivial) (fun _ _ _=>trivial) (fun _ _ _=>trivial) (fun _ _ _=>trivial) (fun _ _ _=>trivial) (fun _=>trivial) (fun _=>trivial) trivial (fun _ _ _ _=>trivial) nil (fun a b _ ih=>cons a b ih) trivial (fun _ _ _ _=>trivial) h
theorem lB.ind{K:ah}{H:Hp}{motive:∀ (kv:List (List Key×V)) (kvs:List (D×D)),lB K H kv kvs->Prop}(nil:motive [] [] .nil)
  (cons:∀ {k:List Key} {v:V} {d:D} {r:List (List Key×V)} {t:List (D×D)} (re:cB K H v d) (rs:lB K H r t),motive r t rs->motive ((k,v) :: r) ((.tup (k.map dI),d) :: t) (.cons re rs)):∀ {kv:List (List Key×V)} {kvs:List (D×D)} (h:lB K H kv kvs),motive kv kvs h:=fun h =>
 lB.rec (motive_1:=fun _ _ _=>True) (motive_2:=fun _ _ _=>True) (motive_3:=fun _ _ _=>True) (motive_4:=motive) trivial (fun _=>trivial) (fun _=>trivial) (fun _=>trivial) (fun _ _ _=>trivial) (fun _ _ _=>trivial) (fun _ _ _=>trivial) (fun _ _ _=>trivial) (fun _=>trivial) (fun _=>trivial) trivial (fun _ _ _ _=>trivial) trivial (fun _ _ _ _=>trivial) nil (fun a b _ ih=>cons a b ih) h
theorem oe.length{K:ah}{H:Hp}:∀ {v:List (Key×V)} {d:List (D×D)},oe K H v d->v.length=d.length:=fun h =>
 oe.ind (motive:=fun v d _=>v.length=d.length) rfl (fun _ _ ih=>congrArg (· + 1) ih) h
theorem lB.length{K:ah}{H:Hp}:∀ {v:List (List Key×V)} {d:List (D×D)},lB K H v d->v.length=d.length:=fun h =>
 lB.ind (motive:=fun v d _=>v.length=d.length) rfl (fun _ _ ih=>congrArg (· + 1) ih) h
noncomputable def Nb(K:ah)(H:Hp)(a:Addr):GO->Prop
 | .lst ds=>∃ vs,H a=some (.lst vs)/\bh K H vs ds
 | .ja kvs=>(∃ kv,H a=some (.dK kv)/\oe K H kv kvs)\/∃ kv,H a=some (.dT kv)/\lB K H kv kvs
noncomputable def lC(K:ah)(H:Hp)(G:Gp):Prop:=∀ a g,G a=some g->Nb K H a g
theorem Nb.dk{K:ah}{H:Hp}{a:Addr}{kv:List (Key×V)}{kvs:List (D×D)}(h:H a=some (.dK kv))(r:oe K H kv kvs):Nb K H a (.ja kvs):=.inl ⟨kv,h,r⟩
theorem Nb.dt{K:ah}{H:Hp}{a:Addr}{kv:List (List Key×V)}{kvs:List (D×D)}(h:H a=some (.dT kv))(r:lB K H kv kvs):Nb K H a (.ja kvs):=.inr ⟨kv,h,r⟩
theorem Nb.mono{K:ah}{H H':Hp}{a:Addr}{g:GO}(k:Kp H H')(e:H' a=H a)(h:Nb K H a g):Nb K H' a g:=by
 cases g with
 | lst ds=>obtain⟨vs,q,r⟩:=h; exact⟨vs,e.trans q,r.mono k⟩
 | ja kvs =>
  rcases h with ⟨kv,q,r⟩ | ⟨kv,q,r⟩
  ·exact .inl ⟨kv,e.trans q,r.mono k⟩
  ·exact .inr ⟨kv,e.trans q,r.mono k⟩
theorem Nb.tracked{K:ah}{H:Hp}{a:Addr}{g:GO}(h:Nb K H a g):H a≠none:=by
 cases g with
 | lst ds=>obtain⟨vs,q,r⟩:=h; rw [q]; simp
 | ja kvs =>
  rcases h with ⟨kv,q,r⟩ | ⟨kv,q,r⟩
  ·rw [q]; simp
  ·rw [q]; simp
theorem lC.free{K:ah}{H:Hp}{G:Gp}{a:Addr}(h:lC K H G)(e:H a=none):G a=none:=by
 cases q:G a with
 | none=>rfl
 | some g=>exact absurd e (h a g q).tracked
theorem lC.XJ{K:ah}{H:Hp}{G:Gp}{a:Addr}{xs:List V}(h:lC K H G)(e:H a=some (.tup xs)):G a=none:=by
 cases q:G a with
 | none=>rfl
 | some g =>
  have z:=h a g q;cases g with
  | lst ds=>obtain⟨vs,q,r⟩:=z; rw [e] at q; cases q
  | ja kvs =>
   rcases z with ⟨kv,q,r⟩ | ⟨kv,q,r⟩
   ·rw [e] at q; cases q
   ·rw [e] at q; cases q
theorem lC.XM{K:ah}{H:Hp}{G:Gp}{a:Addr}{o:Obj}{u:HO}(h:lC K H G)(e:H a=some (.mP o u)):G a=none:=by
 cases q:G a with
 | none=>rfl
 | some g =>
  have z:=h a g q;cases g with
  | lst ds=>obtain⟨vs,q,r⟩:=z; rw [e] at q; cases q
  | ja kvs =>
   rcases z with ⟨kv,q,r⟩ | ⟨kv,q,r⟩
   ·rw [e] at q; cases q
   ·rw [e] at q; cases q
structure Mv(K:ah)(H:Hp)(G:Gp)(H':Hp)(G':Gp):Prop where
 keep:∀ a o,H a=some o->G a=none->H' a=some o/\G' a=none
 mW:∀ a,G a≠none->H' a≠none
 ab:lC K H' G'
theorem Mv.refl{K:ah}{H:Hp}{G:Gp}(h:lC K H G):Mv K H G H G:=⟨fun _ _ e n=>⟨e,n⟩,fun a n=>by
 cases q:G a with
 | none=>exact absurd q n
 | some g=>exact(h a g q).tracked,h⟩
theorem Mv.trans{K:ah}{H H1 H2:Hp}{G G1 G2:Gp}(a:Mv K H G H1 G1)(b:Mv K H1 G1 H2 G2):Mv K H G H2 G2 :=
 ⟨fun c o e n=>let ⟨e1,n1⟩:=a.keep c o e n; b.keep c o e1 n1,fun c n=>by
  have h1:=a.mW c n;cases q:G1 c with
  | some g=>exact b.mW c (by rw [q]; simp)
  | none =>
   cases q1:H1 c with
   | none=>exact absurd q1 h1
   | some o=>rw [(b.keep c o q1 q).1]; simp,b.ab⟩
theorem Mv.kp{K:ah}{H H':Hp}{G G':Gp}(m:Mv K H G H' G')(h:lC K H G):Kp H H' :=
 ⟨fun a xs e=>(m.keep a _ e (h.XJ e)).1,fun a o u e=>(m.keep a _ e (h.XM e)).1⟩
theorem Kp.new{H:Hp}{p:Addr}{o:HO}(hp:H p=none):Kp H (upd H p o):=⟨fun a xs e=>by rw [bN (eF e hp)]; exact e,fun a ob u e=>by rw [bN (eF e hp)]; exact e⟩
theorem Kp.putL{H:Hp}{p:Addr}{xs:List V}{o:HO}(hp:H p=some (.lst xs)):Kp H (upd H p o) :=
 ⟨fun a ys e=>by rw [bN (by rintro rfl; rw [hp] at e; cases e)]; exact e,fun a ob u e=>by rw [bN (by rintro rfl; rw [hp] at e; cases e)]; exact e⟩
theorem Mv.new{K:ah}{H:Hp}{G:Gp}{p:Addr}{o:HO}{g:GO}(h:lC K H G)(hp:H p=none)(ho:Nb K (upd H p o) p g):Mv K H G (upd H p o) (c6 G p g) where
 keep:=fun a ob e n=>by
  have ne:=eF e hp;exact⟨by rw [bN ne]; exact e,by rw [dh ne]; exact n⟩
 mW:=fun a n=>by
  have ne:a≠p:=by rintro rfl; exact n (h.free hp)
  rw [bN ne];exact(Mv.refl h).mW a n
 ab:=fun a g' e=>by
  by_cases ha:a=p
  ·subst ha; rw [aH] at e; cases e; exact ho
  ·rw [dh ha] at e;exact(h a g' e).mono (.new hp) (bN ha)
theorem Mv.Nt{K:ah}{H:Hp}{G:Gp}{p:Addr}{o:HO}(h:lC K H G)(hp:H p=none):Mv K H G (upd H p o) G where
 keep:=fun a ob e n=>⟨by rw [bN (eF e hp)]; exact e,n⟩
 mW:=fun a n=>by
  have ne:a≠p:=by rintro rfl; exact n (h.free hp)
  rw [bN ne];exact(Mv.refl h).mW a n
 ab:=fun a g' e=>by
  have ne:a≠p:=by rintro rfl; rw [h.free hp] at e; cases e
  exact(h a g' e).mono (.new hp) (bN ne)
theorem Mv.put{K:ah}{H:Hp}{G:Gp}{p:Addr}{o:HO}{g g0:GO}(h:lC K H G)(hg:G p=some g0)(k:Kp H (upd H p o))(ho:Nb K (upd H p o) p g):Mv K H G (upd H p o) (c6 G p g) where
 keep:=fun a ob e n=>by
  have ne:a≠p:=by rintro rfl; rw [hg] at n; cases n
  exact⟨by rw [bN ne]; exact e,by rw [dh ne]; exact n⟩
 mW:=fun a n=>by
  by_cases ha:a=p
  ·subst ha; rw [cJ]; simp
  ·rw [bN ha]; exact(Mv.refl h).mW a n
 ab:=fun a g' e=>by
  by_cases ha:a=p
  ·subst ha; rw [aH] at e; cases e; exact ho
  ·rw [dh ha] at e;exact(h a g' e).mono k (bN ha)
theorem lC.lst{K:ah}{H:Hp}{G:Gp}{a:Addr}{ds:List D}(h:lC K H G)(e:G a=some (.lst ds)):∃ vs,H a=some (.lst vs)/\bh K H vs ds:=h a _ e
theorem Mv.Ar{K:ah}{H:Hp}{G:Gp}{p:Addr}{vs:List V}{ds:List D}(h:lC K H G)(hp:H p=none)(r:bh K H vs ds):Mv K H G (upd H p (.lst vs)) (c6 G p (.lst ds)) :=
 .new h hp ⟨vs,cJ,r.mono (.new hp)⟩
theorem Mv.putL{K:ah}{H:Hp}{G:Gp}{p:Addr}{vs0 vs:List V}{ds0 ds:List D}(h:lC K H G)(hg:G p=some (.lst ds0))(hp:H p=some (.lst vs0))(r:bh K H vs ds):Mv K H G (upd H p (.lst vs)) (c6 G p (.lst ds)) :=
 .put h hg (.putL hp) ⟨vs,cJ,r.mono (.putL hp)⟩
structure NF(K:ah)(H:Hp)(σ:L2.St)(τ:gS):Prop where
 len:σ.length=τ.length
 at':∀ (i:Nat) (d:D),τ[i]?=some (some d)->∃ v,σ[i]?=some (some v)/\cB K H v d
theorem NF.mono{K:ah}{H H':Hp}{σ:L2.St}{τ:gS}(k:Kp H H')(a:NF K H σ τ):NF K H' σ τ :=
 ⟨a.len,fun i d e=>let ⟨v,h1,h2⟩:=a.at' i d e; ⟨v,h1,h2.mono k⟩⟩
theorem NF.set{K:ah}{H:Hp}{σ:L2.St}{τ:gS}{v:V}{d:D}(a:NF K H σ τ)(i:Nat)(r:cB K H v d):NF K H (σ.set i (some v)) (τ.set i (some d)):=by
 refine⟨by rw [dO,dO]; exact a.len,fun j e h=>?_⟩;by_cases hj:i=j
 ·subst hj;by_cases hi:i < τ.length
  ·rw [eZ hi] at h;cases h;exact⟨v,by rw [eZ (by rw [a.len]; exact hi)],r⟩
  ·rw [List.set_eq_of_length_le (by lia)] at h;rw [eK (by lia)] at h;cases h
 ·rw [eW hj] at h;obtain⟨w,h1,h2⟩:=a.at' j e h;exact⟨w,by rw [eW hj]; exact h1,h2⟩
structure I2(X:Cx)(pins:List (Addr×Obj))(σ:L2.St)(H:Hp)(τ:gS)(G:Gp)(s:ar):Prop where
 inv:Inv X pins σ H s
 st:NF X.K H σ τ
 ab:lC X.K H G
theorem I2.mv{X:Cx}{pins:List (Addr×Obj)}{σ:L2.St}{H H':Hp}{τ:gS}{G G':Gp}{s s':ar}(I:I2 X pins σ H τ G s)(I':Inv X pins σ H' s')(m:Mv X.K H G H' G'):I2 X pins σ H' τ G' s' :=
 ⟨I',I.st.mono (m.kp I.ab),m.ab⟩
noncomputable def CXe(P:bE)(w:World):Na:=fun outer H s E e s'=>∃ (a C t:Addr) (B:Heap) (H':Hp),e=.ref a/\s'.os=s.os/\Cf s'.gens/\Un (Nv outer) [] H H' s.heap s'.heap/\tO P w H' s'.heap /\
 (∀ b o,s'.heap.get? b=some o->b∉Nv outer->(s.heap.get? b≠none\/H' b≠none)->B.get? b=some o)/\PySem.Heap.FlyingW B outer a (.ref C) (.ref t) s'.heap/\H' a=none/\s.heap.get? a=none/\E (.ref C) none H'
noncomputable def exK(mg:Str->Option Value)(E:lb):XK:=fun cls _ _=>∃ (ex:Ex) (C:Addr),cls=.ref C/\mg ex.cls=some (.ref C)/\E ex (fun _=>none)
structure Lk(X:Cx)(E:lb):Prop where
 made:∀ (pins:List (Addr×Obj)) (σ:L2.St) (H:Hp) (s:ar) (h1:Heap) (a C:Addr) (args:List Value) (ex:Ex),Inv X pins σ H s->PySem.Heap.MadeExcOf s.heap h1 a (.ref C) args->X.mg ex.cls=some (.ref C)->E ex (fun _=>none)->X.xe (.ref a) { s with heap:=h1 }
 pass:∀ (pins:List (Addr×Obj)) (σ:L2.St) (H:Hp) (s s':ar) (e:Value),Inv X pins σ H s->CXe X.prog X.w X.stack H s (exK X.mg E) e s'->X.xe e s'
theorem Lk.none{X:Cx}{E:lb}(h:∀ ex G,¬ E ex G):Lk X E where
 made:=fun _ _ _ _ _ _ _ _ ex _ _ _ z=>absurd z (h ex _)
 pass:=fun _ _ _ _ _ _ _ hc=>by
  obtain⟨_,_,_,_,_,_,_,_,_,_,_,_,_,_,hz⟩:=hc;obtain⟨ex,_,_,_,z⟩:=hz;exact absurd z (h ex _)
inductive rO (X:Cx) (pins:List (Addr×Obj)) (σ:L2.St) (H:Hp) (G:Gp) (Q:DK) (u:Value) (s':ar):Prop
 | mk (v:V) (H':Hp) (d:D) (G':Gp) (i:Inv X pins σ H' s') (m:Mv X.K H G H' G') (r:RelV v u) (rd:cB X.K H' v d) (q:Q d G'):rO X pins σ H G Q u s'
inductive TP2 (X:Cx) (pins:List (Addr×Obj)) (σ:L2.St) (H:Hp) (G:Gp) (Q:Bool->Gp->Prop) (b:Bool) (s':ar):Prop
 | mk (H':Hp) (G':Gp) (i:Inv X pins σ H' s') (m:Mv X.K H G H' G') (q:Q b G'):TP2 X pins σ H G Q b s'
inductive AP2 (X:Cx) (pins:List (Addr×Obj)) (σ:L2.St) (H:Hp) (G:Gp) (Q:List D->Gp->Prop) (us:List Value) (s':ar):Prop
 | mk (vs:List V) (H':Hp) (ds:List D) (G':Gp) (i:Inv X pins σ H' s') (m:Mv X.K H G H' G') (r:Vals vs us) (rd:bh X.K H' vs ds) (q:Q ds G'):AP2 X pins σ H G Q us s'
inductive ZZ (X:Cx) (pins:List (Addr×Obj)) (H:Hp) (G:Gp) (P:gS->Gp->Prop) (s':ar):Prop
 | mk (jC:L2.St) (H':Hp) (nS:gS) (G':Gp) (i:I2 X pins jC H' nS G' s') (m:Mv X.K H G H' G') (q:P nS G'):ZZ X pins H G P s'
inductive SPr (X:Cx) (pins:List (Addr×Obj)) (H:Hp) (G:Gp) (P:D->Gp->Prop) (u:Value) (s':ar):Prop
 | mk (v:V) (jC:L2.St) (H':Hp) (d:D) (G':Gp) (i:Inv X pins jC H' s') (m:Mv X.K H G H' G') (r:RelV v u) (rd:cB X.K H' v d) (q:P d G'):SPr X pins H G P u s'
noncomputable def Wq(X:Cx)(pins:List (Addr×Obj))(H:Hp)(G:Gp)(D:mL)(f:Flow)(s':ar):Prop :=
 match f with
 | .next=>ZZ X pins H G D.nx s'
 | .brk=>ZZ X pins H G D.bk s'
 | .cont=>ZZ X pins H G D.ct s'
 | .ret u=>SPr X pins H G D.rt u s'
noncomputable def gf(X:Cx)(e:Expr)(t:fC):Prop :=
 ∀ (E:lb) (pins:List (Addr×Obj)) (s:ar) (σ:L2.St) (H:Hp) (τ:gS) (G:Gp) (Q:DK),Lk X E->I2 X pins σ H τ G s->t E τ G Q->wpAny (model X.prog X.w) X.A (eval e X.env) (rO X pins σ H G Q) X.xe s
noncomputable def Lp(X:Cx)(e:Expr)(t:x2):Prop :=
 ∀ (E:lb) (pins:List (Addr×Obj)) (s:ar) (σ:L2.St) (H:Hp) (τ:gS) (G:Gp) (Q:Bool->Gp->Prop),Lk X E->I2 X pins σ H τ G s->t E τ G Q->wpAny (model X.prog X.w) X.A (isTrue e X.env (eval e X.env)) (TP2 X pins σ H G Q) X.xe s
noncomputable def Gv(X:Cx)(es:List Expr)(t:Gu):Prop :=
 ∀ (pos:Pos) (E:lb) (pins:List (Addr×Obj)) (s:ar) (σ:L2.St) (H:Hp) (τ:gS) (G:Gp) (Q:List D->Gp->Prop),Lk X E->I2 X pins σ H τ G s->t E τ G Q->wpAny (model X.prog X.w) X.A (NK (jr pos (bL es X.env))) (AP2 X pins σ H G Q) X.xe s
noncomputable def Lq(X:Cx)(st:Stmt)(t:iO):Prop :=
 ∀ (E:lb) (pins:List (Addr×Obj)) (s:ar) (σ:L2.St) (H:Hp) (τ:gS) (G:Gp) (D:mL),Lk X E->I2 X pins σ H τ G s->t E D τ G->wpAny (model X.prog X.w) X.A (exec st X.env) (Wq X pins H G D) X.xe s
noncomputable def zP(X:Cx)(st:List Stmt)(t:iO):Prop :=
 ∀ (E:lb) (pins:List (Addr×Obj)) (s:ar) (σ:L2.St) (H:Hp) (τ:gS) (G:Gp) (D:mL),Lk X E->I2 X pins σ H τ G s->t E D τ G->wpAny (model X.prog X.w) X.A (execs st X.env) (Wq X pins H G D) X.xe s
theorem Wq.trans{X:Cx}{pins:List (Addr×Obj)}{H H1:Hp}{G G1:Gp}{D:mL}{f:Flow}{s':ar}(m:Mv X.K H G H1 G1)(h:Wq X pins H1 G1 D f s'):Wq X pins H G D f s':=by
 cases f with
 | next=>obtain⟨jC,H',nS,G',I,m',q⟩:=h; exact⟨jC,H',nS,G',I,m.trans m',q⟩
 | brk=>obtain⟨jC,H',nS,G',I,m',q⟩:=h; exact⟨jC,H',nS,G',I,m.trans m',q⟩
 | cont=>obtain⟨jC,H',nS,G',I,m',q⟩:=h; exact⟨jC,H',nS,G',I,m.trans m',q⟩
 | ret u=>obtain⟨v,jC,H',d,G',I,m',r,rd,q⟩:=h; exact⟨v,jC,H',d,G',I,m.trans m',r,rd,q⟩
section
variable {X:Cx} {a b c:Expr} {ta tb tc:fC} {pos:Pos}
theorem j5{pins:List (Addr×Obj)}{σ:L2.St}{H:Hp}{τ:gS}{G:Gp}{s:ar}{E:lb}{R:DK}{Q:Value->ar->Prop}(ha:gf X a ta)(hE:Lk X E)(I:I2 X pins σ H τ G s)(h:ta E τ G R)
  (k:∀ v H1 d G1 u s1,I2 X pins σ H1 τ G1 s1->Mv X.K H G H1 G1->RelV v u->cB X.K H1 v d->R d G1->Q u s1):wpAny (model X.prog X.w) X.A (eval a X.env) Q X.xe s :=
 fZ (ha E pins s σ H τ G R hE I h) (by rintro u s1 ⟨v,H1,d,G1,I1,m,r,rd,q⟩; exact k v H1 d G1 u s1 (I.mv I1 m) m r rd q)
theorem rO.trans{pins:List (Addr×Obj)}{σ:L2.St}{H H1:Hp}{G G1:Gp}{Q:DK}{u:Value}{s':ar}(m:Mv X.K H G H1 G1)(h:rO X pins σ H1 G1 Q u s'):rO X pins σ H G Q u s':=by
 obtain⟨v,H',d,G',I,m',r,rd,q⟩:=h;exact⟨v,H',d,G',I,m.trans m',r,rd,q⟩
theorem Sh {i:Nat} {x:Str} (hN:X.N[i]?=some x) (hv:ZX X.env.scope x) (hd:(x == ("__debug__" : Str))=false:=by decide) (GQ:(x == ("__classdict__" : Str))=false:=by decide):gf X (.Name x pos) (au i):=by
 intro E pins s σ H τ G Q hE I h;unfold au at h;split at h
 ·rename_i d e;obtain⟨v,h1,h2⟩:=I.st.at' i d e;exact fZ (U8 hN hv hd GQ pins s σ H (fun v' H'=>v'=v/\H'=H) I.inv ⟨v,h1,rfl,rfl⟩) fun u s1 VM=>by
   obtain⟨v',H',I1,r,e1,e2⟩:=VM;subst e1; subst e2;exact⟨_,_,d,G,I1,.refl I.ab,r,h2,h⟩
 ·exact h.elim
theorem wa{e:Expr}{v:V}{d:D}(h:PE X e (tC v))(r:∀ K H,cB K H v d):gf X e (dC d):=by
 intro E pins s σ H τ G Q hE I hq;exact fZ (h pins s σ H (fun v' H'=>v'=v/\H'=H) I.inv ⟨rfl,rfl⟩) fun u s1 Yk=>by
  obtain⟨v',H',I1,rr,e1,e2⟩:=Yk;subst e1; subst e2;exact⟨_,_,d,G,I1,.refl I.ab,rr,r _ _,hq⟩
theorem aY{i j}:gf X (.Constant (.int i) j pos) (dC (.int i)):=wa Va fun _ _=>.int i
noncomputable def oa(X:Cx)(f:Value->Value->Sem Value)(r:AS):Prop :=
 ∀ (pins:List (Addr×Obj)) (s:ar) (σ:L2.St) (H:Hp) (G:Gp) (x y:V) (dx dy:D) (v u:Value) (Q:DK),Inv X pins σ H s->lC X.K H G->RelV x v->RelV y u->cB X.K H x dx->cB X.K H y dy->r dx dy G Q ->
  wpAny (model X.prog X.w) X.A (f v u) (rO X pins σ H G Q) X.xe s
noncomputable def Zd(X:Cx)(f:Value->Sem Value)(r:D->Gp->DK->Prop):Prop :=
 ∀ (pins:List (Addr×Obj)) (s:ar) (σ:L2.St) (H:Hp) (G:Gp) (x:V) (dx:D) (v:Value) (Q:DK),Inv X pins σ H s->lC X.K H G->RelV x v->cB X.K H x dx->r dx G Q ->
  wpAny (model X.prog X.w) X.A (f v) (rO X pins σ H G Q) X.xe s
noncomputable def qY(X:Cx)(f:Value)(r:List D->Gp->DK->Prop):Prop :=
 ∀ (pins:List (Addr×Obj)) (s:ar) (σ:L2.St) (H:Hp) (G:Gp) (xs:List V) (ds:List D) (us:List Value) (Q:DK),Inv X pins σ H s->lC X.K H G->Vals xs us->bh X.K H xs ds->r ds G Q ->
  wpAny (model X.prog X.w) X.A (call f us) (rO X pins σ H G Q) X.xe s
noncomputable abbrev B6(K:ah)(H:Hp)(G:Gp)(Q:DK):VK:=fun v H'=>∃ d G',Mv K H G H' G'/\cB K H' v d/\Q d G'
theorem rO.of{pins:List (Addr×Obj)}{σ:L2.St}{H:Hp}{G:Gp}{Q:DK}{u:Value}{s':ar}(h:EP X pins σ (B6 X.K H G Q) u s'):rO X pins σ H G Q u s':=by
 obtain⟨v,H',I,r,d,G',m,rd,q⟩:=h;exact⟨v,H',d,G',I,m,r,rd,q⟩
theorem QP(ha:gf X a ta)(hb:gf X b tb){E:lb}{pins:List (Addr×Obj)}{s:ar}{σ:L2.St}{H:Hp}{τ:gS}{G:Gp}{R:D->D->Gp->Prop}(hE:Lk X E)(I:I2 X pins σ H τ G s)
  (h:ta E τ G fun x G1=>tb E τ G1 fun y G2=>R x y G2) {Q:Value->ar->Prop} {f:Value->Value->Sem Value}
  (hf:∀ v u s2 x y dx dy H2 G2,I2 X pins σ H2 τ G2 s2->Mv X.K H G H2 G2->RelV x v->RelV y u->cB X.K H2 x dx->cB X.K H2 y dy->R dx dy G2->wpAny (model X.prog X.w) X.A (f v u) Q X.xe s2) :
  wpAny (model X.prog X.w) X.A (eval a X.env) (fun v eR=>wpAny (model X.prog X.w) X.A (eval b X.env) (fun u iX=>wpAny (model X.prog X.w) X.A (f v u) Q X.xe iX) X.xe eR) X.xe s:=by
 refine j5 ha hE I h fun x H1 dx G1 v s1 I1 m1 r1 iT q1=>?_;refine j5 hb hE I1 q1 fun y H2 dy G2 u s2 mQ m2 r2 xH q2=>?_;exact hf v u s2 x y dx dy H2 G2 mQ (m1.trans m2) r1 r2 (iT.mono (m2.kp I1.ab)) xH q2
theorem cO{op:Operator}{r:AS}(ho:oa X (j3 op) r)(ha:gf X a ta)(hb:gf X b tb):gf X (.BinOp a op b pos) (br r ta tb):=by
 intro E pins s σ H τ G Q hE I h;exact wpAny_BinOp (QP ha hb hE I h fun v u s2 x y dx dy H2 G2 mQ m rx ry dX dY q=>fZ (ho pins s2 σ H2 G2 x y dx dy v u Q mQ.inv mQ.ab rx ry dX dY q) fun _ _ z=>z.trans m)
theorem CO{op:UnaryOp}{r:D->Gp->DK->Prop}(ho:Zd X (unaryOp op) r)(ha:gf X a ta):gf X (.UnaryOp op a pos) (Jd r ta):=by
 intro E pins s σ H τ G Q hE I h;exact UnaryOp_ (j5 ha hE I h fun x H1 dx G1 v s1 I1 m1 r1 iT q1=>fZ (ho pins s1 σ H1 G1 x dx v Q I1.inv I1.ab r1 iT q1) fun _ _ z=>z.trans m1)
theorem xM{op:CmpOp}{r:AS}(ho:oa X (dB op) r)(ha:gf X a ta)(hb:gf X b tb)(hm:vR op b=false):gf X (.Compare a [op] [b] pos) (br r ta tb):=by
 intro E pins s σ H τ G Q hE I h;exact wpAny_Compare1 (QP ha hb hE I h fun v u s2 x y dx dy H2 G2 mQ m rx ry dX dY q=>fZ (ho pins s2 σ H2 G2 x y dx dy v u Q mQ.inv mQ.ab rx ry dX dY q) fun _ _ z=>z.trans m) hm
end
end K2
end
section
namespace K2
open PySem PySem.Spec PyProof.Rows L2
theorem W7{K:ah}{H:Hp}{G:Gp}{x:V}{d:D}{k:Bool}(ab:lC K H G)(r:cB K H x d)(e:LG d G=some k):(∃ p,x=.ref p/\Rd H p (.dT [])/\k=false)\/(∃ p kv,x=.ref p/\Rd H p (.dK kv)/\k=!kv.isEmpty)\/Wo K x H k:=by
 have Qu:∀ kvs:List (D×D),(if (kvs.all fun p=>fh p.1)=true then some (!kvs.isEmpty) else none)=some k->∀ p,((∃ kv,Rd H p (.dK kv)/\oe K H kv kvs)\/∃ kv,Rd H p (.dT kv)/\lB K H kv kvs) ->
   (∃ p',V.ref p=.ref p'/\Rd H p' (.dT [])/\k=false)\/(∃ p' kv,V.ref p=.ref p'/\Rd H p' (.dK kv)/\k=!kv.isEmpty)\/Wo K (.ref p) H k:=by
  intro kvs e p z;by_cases ha:(kvs.all fun p=>fh p.1)=true
  ·rw [if_pos ha] at e;cases e;rcases z with ⟨kv,hv,rs⟩ | ⟨kv,hv,rs⟩
   ·right; left;refine⟨p,kv,rfl,hv,?_⟩;cases rs <;> rfl
   ·left;cases rs with
    | nil=>exact⟨p,rfl,hv,rfl⟩
    | cons _ _=>simp [fh] at ha
  ·rw [if_neg ha] at e; cases e
 cases r with
 | cL=>right; right; cases e; rfl
 | bl b=>right; right; cases e; rfl
 | int i=>right; right; cases e; rfl
 | str y =>
  right; right;unfold LG at e;dsimp only at e;by_cases h:y.length<=SZ
  ·rw [if_pos h] at e; cases e; exact⟨by rw [cx]; exact h,rfl⟩
  ·rw [if_neg h] at e; cases e
 | tup h rs =>
  right; right;cases e;refine .inr (.inl ⟨_,.of h,?_⟩);cases rs <;> rfl
 | dJ h rs =>
  right; right;cases e;refine .inl ⟨_,h.sq,?_⟩;cases rs <;> rfl
 | nV h rs=>exact Qu _ e _ (.inl ⟨_,.inr ⟨_,h⟩,rs⟩)
 | nU h rs=>exact Qu _ e _ (.inr ⟨_,.inr ⟨_,h⟩,rs⟩)
 | exc h=>simp [LG] at e
 | ref a =>
  unfold LG at e;dsimp only at e;cases q:G a with
  | none=>rw [q] at e; cases e
  | some g =>
   rw [q] at e;have z:=ab a g q;cases g with
   | lst ds =>
    right; right;obtain⟨vs,hv,rs⟩:=z;cases e;refine .inl ⟨vs,.of hv,?_⟩;cases rs <;> rfl
   | ja kvs =>
    refine Qu kvs e a ?_;rcases z with ⟨kv,hv,rs⟩ | ⟨kv,hv,rs⟩
    ·exact .inl ⟨kv,.inl hv,rs⟩
    ·exact .inr ⟨kv,.inl hv,rs⟩
section
variable {X:Cx} {a b c:Expr} {ta tb tc:fC} {pos:Pos}
noncomputable def Ze(X:Cx):Prop:=∀ (pins:List (Addr×Obj)) (s:ar) (σ:L2.St) (H:Hp) (G:Gp) (x:V) (d:D) (v:Value) (k:Bool) (Q:Bool->ar->Prop),Inv X pins σ H s->lC X.K H G->RelV x v->cB X.K H x d->LG d G=some k ->
  (∀ s',Inv X pins σ H s'->Q k s')->wpAny (model X.prog X.w) X.A (truthy v) Q X.xe s
theorem LF:Ze X:=by
 intro pins s σ H G x d v k Q I ab rx rd e q;rcases W7 ab rd e with ⟨p,rfl,hv,hk⟩ | ⟨p,kv,rfl,hv,hk⟩ | h
 ·obtain⟨z,hS,xs,rel,o,es,ep,ho,hx,xS,hl,nd⟩:=hv.ok I.cz;have hxs:xs=[]:=by cases rel; rfl
  subst hxs;have he:es=#[]:=by simpa using hl
  subst he;cases rx;have dd:s.heap.DictOf (bX X.prog X.w) p []:=⟨o,#[],ep,ho,hx,xS,(fun _ h=>by simp at h),.nil,cY⟩;refine GS hS dd (by simp) ?_;subst hk;exact q _ (I.tok _)
 ·cases rx;subst hk;exact S8 I hv q
 ·exact fZ (UA pins s σ H x v (fun k' H'=>k'=k/\H'=H) I rx ⟨k,h,rfl,rfl⟩) fun k' s' VM=>by
   obtain⟨H',I',e1,e2⟩:=VM;subst e1; subst e2; exact q s' I'
theorem rB(ha:gf X a ta)(he:∀ whole,isTrue a X.env whole=(do let v ← whole; standAt a.pos; GY [v] (truthy v)):=by intro _; rfl):Lp X a (iI ta):=by
 intro E pins s σ H τ G Q hE I h;refine isTrue_plain (j5 ha hE I h fun x H1 d G1 v s1 I1 m1 r1 iT q1=>?_) (he _)
 try dsimp only at q1
 split at q1
 ·rename_i k e;exact LF pins s1 σ H1 G1 x d v k _ I1.inv I1.ab r1 iT e fun s' I'=>⟨H1,G1,I',m1,q1⟩
 ·exact q1.elim
theorem fH{op:CmpOp}{r:AS}(ho:oa X (dB op) r)(ha:gf X a ta)(hb:gf X b tb)(hm:vR op b=false):Lp X (.Compare a [op] [b] pos) (iI (br r ta tb)):=by
 intro E pins s σ H τ G Q hE I h;refine wpAny_isTrue_Compare1 (j5 ha hE I h fun x H1 dx G1 v s1 I1 m1 r1 iT q1=>j5 hb hE I1 q1 fun y H2 dy G2 u s2 mQ m2 r2 xH q2 =>
  fZ (ho pins s2 σ H2 G2 x y dx dy v u _ mQ.inv mQ.ab r1 r2 (iT.mono (m2.kp I1.ab)) xH q2) ?_) hm
 rintro c s3 ⟨z,H3,dz,G3,I3,m3,r3,UY,q3⟩
 try dsimp only at q3
 split at q3
 ·rename_i k e;exact LF pins s3 σ H3 G3 z dz c k _ I3 m3.ab r3 UY e fun s' I'=>⟨H3,G3,I',(m1.trans m2).trans m3,q3⟩
 ·exact q3.elim
variable {tA tB:x2} {rest:List Expr}
theorem RU{pins:List (Addr×Obj)}{σ:L2.St}{H:Hp}{τ:gS}{G:Gp}{s:ar}{E:lb}{R:Bool->Gp->Prop}{Q:Bool->ar->Prop}(ha:Lp X a tA)(hE:Lk X E)(I:I2 X pins σ H τ G s)(h:tA E τ G R)
  (k:∀ c H1 G1 s1,I2 X pins σ H1 τ G1 s1->Mv X.K H G H1 G1->R c G1->Q c s1):wpAny (model X.prog X.w) X.A (isTrue a X.env (eval a X.env)) Q X.xe s :=
 fZ (ha E pins s σ H τ G R hE I h) (by rintro c s1 ⟨H1,G1,I1,m,q⟩; exact k c H1 G1 s1 (I.mv I1 m) m q)
theorem xJ(ha:Lp X a tA):Lp X (.UnaryOp .Not a pos) (AO tA):=by
 intro E pins s σ H τ G Q hE I h;exact isTrue_not (fZ (ha E pins s σ H τ G (fun c H1=>Q (!c) H1) hE I h) (by rintro c s' ⟨H',G',i,m,q⟩; exact⟨H',G',i,m,q⟩))
theorem Ki{op}{t:fC}(h:gf X a t):gf X (.BoolOp op [a] pos) t:=fun E pins s σ H τ G Q hE I hw=>BoolOp_one (h E pins s σ H τ G Q hE I hw)
theorem CP(ha:gf X a ta)(hb:gf X (.BoolOp .And (b :: rest) pos) tb):gf X (.BoolOp .And (a :: b :: rest) pos) (BX ta tb):=by
 intro E pins s σ H τ G Q hE I h;refine BoolOp_and (j5 ha hE I h fun x H1 d G1 v s1 I1 m1 r1 iT q1=>?_)
 try dsimp only at q1
 split at q1
 ·rename_i e;exact LF pins s1 σ H1 G1 x d v true _ I1.inv I1.ab r1 iT e fun s' I'=>fZ (hb E pins s' σ H1 τ G1 Q hE ⟨I',I1.st,I1.ab⟩ q1) fun _ _ z=>z.trans m1
 ·rename_i e;exact LF pins s1 σ H1 G1 x d v false _ I1.inv I1.ab r1 iT e fun s' I'=>⟨x,H1,d,G1,I',m1,r1,iT,q1⟩
 ·exact q1.elim
theorem Si(ha:gf X a ta):gf X (.UnaryOp .Not a pos) (QC ta):=by
 intro E pins s σ H τ G Q hE I h;refine UnaryOp_ (j5 ha hE I h fun x H1 d G1 v s1 I1 m1 r1 iT q1=>?_)
 try dsimp only at q1
 split at q1
 ·rename_i k e;exact not_of (LF pins s1 σ H1 G1 x d v k _ I1.inv I1.ab r1 iT e fun s' I'=>⟨.bl (!k),H1,.bl (!k),G1,I',m1,rfl,.bl _,q1⟩)
 ·exact q1.elim
theorem yJ(hc:Lp X c tA)(ha:gf X a ta)(hb:gf X b tb):gf X (.IfExp c a b pos) (QD tA ta tb):=by
 intro E pins s σ H τ G Q hE I h;refine wpAny_IfExp (RU hc hE I h fun d H1 G1 s1 I1 m1 q1=>?_);cases d with
 | true=>exact fZ (ha E pins s1 σ H1 τ G1 Q hE I1 (by simpa using q1)) fun _ _ z=>z.trans m1
 | false=>exact fZ (hb E pins s1 σ H1 τ G1 Q hE I1 (by simpa using q1)) fun _ _ z=>z.trans m1
variable {e:Expr} {es:List Expr} {te:fC} {t:Gu}
theorem aO:Gv X [] bx:=fun _ _ _ _ _ H _ G Q _ I h=>Calls.spliced_nil ⟨[],H,[],G,I.inv,.refl I.ab,.nil,.nil,h⟩
theorem ax(ha:gf X e te)(hr:Gv X es t)(hs:bL (e :: es) X.env=(false,eval e X.env) :: bL es X.env:=by rfl):Gv X (e :: es) (aI te t):=by
 intro pos E pins s σ H τ G Q hE I h;rw [hs];show wpAny _ _ (NK ((false,eval e X.env) :: jr pos (bL es X.env))) _ _ s;refine kO (j5 ha hE I h fun x H1 d G1 u s1 I1 m1 r1 iT q1=>?_);exact fZ (hr pos E pins s1 σ H1 τ G1 _ hE I1 q1) (by rintro us s2 ⟨xs,H2,ds,G2,mQ,m2,r2,xH,q2⟩; exact⟨x :: xs,H2,d :: ds,G2,mQ,m1.trans m2,.cons r1 r2,.cons (iT.mono (m2.kp I1.ab)) xH,q2⟩)
theorem ym{pins:List (Addr×Obj)}{σ:L2.St}{H:Hp}{τ:gS}{G:Gp}{s:ar}{E:lb}{R:List D->Gp->Prop}{Q:List Value->ar->Prop}(ha:Gv X es t)(pos:Pos)(hE:Lk X E)(I:I2 X pins σ H τ G s)(h:t E τ G R)
  (k:∀ vs H1 ds G1 us s1,I2 X pins σ H1 τ G1 s1->Mv X.K H G H1 G1->Vals vs us->bh X.K H1 vs ds->R ds G1->Q us s1):wpAny (model X.prog X.w) X.A (NK (jr pos (bL es X.env))) Q X.xe s :=
 fZ (ha pos E pins s σ H τ G R hE I h) (by rintro us s1 ⟨vs,H1,ds,G1,I1,m,r,rd,q⟩; exact k vs H1 ds G1 us s1 (I.mv I1 m) m r rd q)
theorem ji{x1}(h:Gv X es t):gf X (.Tuple es x1 pos) (mH t):=by
 intro E pins s σ H τ G Q hE I hq;refine wpAny_Tuple_spliced (ym h pos hE I hq ?_);rintro xs H1 ds G1 us s1 I1 m1 r rd ⟨z,q⟩;refine⟨by rw [<-r.length,rd.length,cx]; exact z,?_⟩;have hf:H1 s1.heap.objs.size=none:=I1.inv.cz.fresh (aC _);refine⟨.ref s1.heap.objs.size,upd H1 s1.heap.objs.size (.tup xs),.tup ds,G1,I1.inv.laid (t':=s1.toks) (fun b u e=>aE _ e) (aC _) ?_,m1.trans (.Nt I1.ab hf),rfl,?_,q⟩
 ·exact⟨by rw [rd.length,cx]; exact z,us,r,⟨_,aT _ rfl,rfl,_,rfl⟩⟩
 ·exact .tup cJ (rd.mono (.new hf))
theorem g7(h:Gv X es t):gf X (.List es pos) (ku t):=by
 intro E pins s σ H τ G Q hE I hq;refine wpAny_List_spliced (ym h pos hE I hq ?_);rintro xs H1 ds G1 us s1 I1 m1 r rd ⟨z,q⟩;refine⟨by rw [<-r.length,rd.length,cx]; exact z,?_⟩;have hf:H1 s1.heap.objs.size=none:=I1.inv.cz.fresh (aC _);refine⟨.ref s1.heap.objs.size,upd H1 s1.heap.objs.size (.lst xs),.ref _,c6 G1 s1.heap.objs.size (.lst ds),I1.inv.laid (t':=s1.toks) (fun b u e=>aE _ e) (aC _) ?_,m1.trans (.Ar I1.ab hf rd),rfl,.ref _,q _ (I1.ab.free hf)⟩;exact⟨by rw [rd.length,cx]; exact z,us,0,r,aT _ rfl⟩
noncomputable def dj(K:ah)(sp:om):Sp:=fun vs H Q _=>∃ ds G Q2,bh K H vs ds/\lC K H G/\sp ds G Q2 (fun _ _=>False)/\∀ d G' v H',Q2 d G'->Mv K H G H' G'->cB K H' v d->Q v H'
variable {k:Nat} {f:Addr} {fd:aJ} {ps:List Str} {sp:om} {x:Str} {p:Pos} {r:List D->Gp->DK->Prop} {id:String}
theorem OY(F:fV X.prog X.w X.K X.mg X.base gP k f fd ps (dj X.K sp))(hr:mK k X.A)(hg:Gl X x)(hm:X.mg x=some (.ref f))(hk:lF X.K (.ref f)=true)(hb:Binds X.K fd ps [])
  (ha:Gv X (e :: es) t) (Mu:(x == ("__debug__" : Str))=false:=by decide) (he:bL (e :: es) X.env=(false,eval e X.env) :: bL es X.env:=by rfl) (BH:(jr pos (bL es X.env)).any (·.1)=false:=by rfl) :
  gf X (.Call (.Name x p) (e :: es) [] pos) (fun E τ G Q=>cE (fun ds G1 Q1 _=>sp ds G1 Q1 fun _ _=>False) t E τ G Q):=by
 intro E pins s σ H τ G Q hE I h;refine fK (C2 I.inv hg hm ?_ Mu);refine PySem.W.callWith_K (h₀:=X.base) I.inv.ok.mod.VC hk (ym ha pos hE I h fun vs H1 ds G1 us s1 I1 m1 r rd q=>⟨I1.inv.KC,?_⟩) he BH;refine fZ (UT F hr hb .nil Xx I1.inv r (Q:=B6 X.K H1 G1 Q) ?_) fun _ _ z=>(rO.of z).trans m1;rw [bU];exact⟨ds,G1,Q,rd,I1.ab,q,fun d G' v H' q' m' Zv=>⟨d,G',m',Zv,q'⟩⟩
theorem gu (hc:qY X (.builtin id) r) (hg:Gl X x) (hm:X.mg x=none) (hv:dR x=some (.builtin id)) (ha:Gv X (e :: es) t) (hn:x≠"__name__":=by decide) (Mu:(x == ("__debug__" : Str))=false:=by decide)
  (he:bL (e :: es) X.env=(false,eval e X.env) :: bL es X.env:=by rfl) (BH:(jr pos (bL es X.env)).any (·.1)=false:=by rfl):gf X (.Call (.Name x p) (e :: es) [] pos) (sG r t):=by
 intro E pins s σ H τ G Q hE I h;refine fK (lq I.inv hg hm hv ?_ hn Mu);exact ky (ym ha pos hE I h fun vs H1 ds G1 us s1 I1 m1 r1 iT q1=>fZ (hc pins s1 σ H1 G1 vs ds us Q I1.inv I1.ab r1 iT q1) fun _ _ z=>z.trans m1) he BH
variable {st:Stmt} {sts:List Stmt} {u v:iO}
theorem gL:zP X [] gx:=fun _ _ _ σ H τ G _ _ I h=>l8 ⟨σ,H,τ,G,I,.refl I.ab,h⟩
theorem aF(h1:Lq X st u)(h2:zP X sts v):zP X (st :: sts) (cw u v):=by
 intro E pins s σ H τ G D hE I h;refine Ls (fZ (h1 E pins s σ H τ G { D with nx:=v E D } hE I h) fun f s1 q=>?_);cases f with
 | next =>
  obtain⟨jC,H',nS,G',I',m,q⟩:=q;exact fZ (h2 E pins s1 jC H' nS G' D hE I' q) fun _ _ z=>z.trans m
 | ret v=>exact q
 | brk=>exact q
 | cont=>exact q
theorem aZ(h1:Lq X st u):zP X [st] u:=by
 intro E pins s σ H τ G D hE I h;refine Ls (fZ (h1 E pins s σ H τ G D hE I h) fun f s1 q=>?_);cases f with
 | next=>exact l8 q
 | ret v=>exact q
 | brk=>exact q
 | cont=>exact q
theorem cN(he:gf X e te):Lq X (.Return (some e) pos) (dN te):=by
 intro E pins s σ H τ G D hE I h;exact wpAny_Return_some (fZ (he E pins s σ H τ G _ hE I h) (by rintro v s1 ⟨x,H1,d,G1,I1,m,r1,rd,q1⟩; exact⟨x,σ,H1,d,G1,I1,m,r1,rd,q1⟩))
theorem km{sa sb:List Stmt}(hc:Lp X c tA)(ha:zP X sa u)(hb:zP X sb v):Lq X (.If c sa sb pos) (kY tA u v):=by
 intro E pins s σ H τ G D hE I h;refine wpAny_If (RU hc hE I h fun d H1 G1 s1 I1 m1 q1=>?_);cases d with
 | true=>exact fZ (ha E pins s1 σ H1 τ G1 D hE I1 (by simpa using q1)) fun _ _ z=>z.trans m1
 | false=>exact fZ (hb E pins s1 σ H1 τ G1 D hE I1 (by simpa using q1)) fun _ _ z=>z.trans m1
noncomputable def NA(X:Cx)(target:Expr)(t:AQ):Prop :=
 ∀ (E:lb) (pins:List (Addr×Obj)) (s:ar) (σ:L2.St) (H:Hp) (τ:gS) (G:Gp) (w:V) (d:D) (u:Value) (Q:gS->Gp->Prop),Lk X E->I2 X pins σ H τ G s->RelV w u->cB X.K H w d->t E d τ G Q ->
  wpAny (model X.prog X.w) X.A (NQ target X.env u) (fun _ s'=>∃ jC H' nS G',I2 X pins jC H' nS G' s'/\Mv X.K H G H' G'/\Q nS G') X.xe s
noncomputable def Tu(X:Cx)(ts:List Expr)(t:DM):Prop :=
 ∀ (E:lb) (pins:List (Addr×Obj)) (s:ar) (σ:L2.St) (H:Hp) (τ:gS) (G:Gp) (ws:List V) (ds:List D) (us:List Value) (Q:gS->Gp->Prop),Lk X E->I2 X pins σ H τ G s->Vals ws us->bh X.K H ws ds->t E ds τ G Q ->
  wpAny (model X.prog X.w) X.A (assignInOrder ((z8 ts X.env).map (·.2)) us) (fun _ s'=>∃ jC H' nS G',I2 X pins jC H' nS G' s'/\Mv X.K H G H' G'/\Q nS G') X.xe s
theorem OW{i:Nat}{x:Str}(hN:X.N.Nodup)(hi:X.N[i]?=some x)(hx:Loc X.env.scope x)(hf:autoParam (X.fn x=true\/X.env.scope.names.lookup x=some .local) Ao._auto_1):NA X (.Name x pos) (aM i):=by
 intro E pins s σ H τ G w d u Q hE I r rd h;exact GV (tZ I.inv hN hi hx r (fun s' I'=>⟨_,H,_,G,⟨I',I.st.set i rd,I.ab⟩,.refl I.ab,h⟩) hf)
theorem oy:Tu X [] sX:=by
 intro E pins s σ H τ G ws ds us Q hE I r rd h;unfold sX at h;split at h
 ·have e:=rd.zero;subst e;cases r;exact assignInOrder_nil ⟨σ,H,τ,G,I,.refl I.ab,h⟩
 ·exact h.elim
theorem fQ{t:AQ}{u:DM}(h1:NA X e t)(h2:Tu X es u)
  (hs:(z8 (e :: es) X.env).map (·.2)=NQ e X.env :: (z8 es X.env).map (·.2):=by rfl):Tu X (e :: es) (iN t u):=by
 intro E pins s σ H τ G ws ds us Q hE I r rd h;unfold iN at h;split at h
 ·cases rd with
  | cons iT xH =>
   cases r with
   | cons r1 r2 =>
    rw [hs];refine assignInOrder_cons (fZ (h1 E pins s σ H τ G _ _ _ _ hE I r1 iT h) ?_);rintro _ s1 ⟨Wv,H1,rV,G1,I1,m1,q1⟩;exact fZ (h2 E pins s1 Wv H1 rV G1 _ _ _ Q hE I1 r2 (xH.mono (m1.kp I.ab)) q1) (by rintro _ _ ⟨σ2,H2,vW,G2,mQ,m2,q2⟩; exact⟨σ2,H2,vW,G2,mQ,m1.trans m2,q2⟩)
 ·exact h.elim
theorem rD{k:Nat}{t:DM}{n:Nat}(hc:X.calm=true)(h:Tu X es t)(hgl:∀ E ds τ G Q,t E ds τ G Q->ds.length=n)
  (hn:(z8 es X.env).length=n:=by rfl) (IA:(z8 es X.env).findIdx? (·.1)=none:=by rfl):NA X (.Tuple es k pos) (uV t):=by
 intro E pins s σ H τ G w d u Q hE I r rd hw;unfold uV at hw;split at hw
 ·cases rd with
  | tup hq rs =>
   cases r;obtain⟨bw,rv,ht,hz⟩:=I.inv.tuple (.of hq);refine assign_Tuple_tuple (I.inv.ok.hd hc) ht (by rw [hn,aR,<-rv.length,rs.length]; exact(hgl _ _ _ _ _ hw).symm) IA fun h' hx=>?_;have I1:Inv X pins σ H { s with heap:=h' }:=I.inv.kept (t':=s.toks) fun b o e=>hx b o (bB (aL e)) e;exact h E pins _ σ H τ G _ _ _ Q hE ⟨I1,I.st,I.ab⟩ (by simpa using rv) rs hw
 ·exact hw.elim
theorem oE:∀ E ds τ G Q,sX E ds τ G Q->ds.length=0:=by
 intro E ds τ G Q h;cases ds with
 | nil=>rfl
 | cons _ _=>exact h.elim
theorem MB{t:AQ}{u:DM}{n:Nat}(h:∀ E ds τ G Q,u E ds τ G Q->ds.length=n)(hm:∀ E d τ G (Q Q':gS->Gp->Prop),t E d τ G Q->(∀ nS G',Q nS G'->Q' nS G')->t E d τ G Q')(hx:∀ E d τ G,¬ t E d τ G fun _ _=>False) :
  ∀ E ds τ G Q,iN t u E ds τ G Q->ds.length=n+1:=by
 intro E ds τ G Q q;cases ds with
 | nil=>exact q.elim
 | cons d ds =>
  by_cases hl:ds.length=n
  ·rw [ak,hl]
  ·exact absurd (hm E d τ G _ (fun _ _=>False) q fun nS G' z=>hl (h _ _ _ _ _ z)) (hx E d τ G)
theorem gZ{tg:Expr}{g:AQ}(he:gf X e te)(hg:NA X tg g)(hs:swapsWithSole [tg] e pos.line X.env=pure false:=by rfl)(hw:swappedStores [tg] e X.env=pure none:=by rfl)
  (h1:(z8 [tg] X.env).map (·.2)=[NQ tg X.env]:=by rfl):Lq X (.Assign [tg] e pos) (bK te g):=by
 intro E pins s σ H τ G D hE I h;refine wpAny_Assign_stores (j5 he hE I h fun x H1 d G1 v s1 I1 m1 r1 iT q1=>?_) hs hw;rw [h1];exact fZ (hg E pins s1 σ H1 τ G1 x d v _ hE I1 r1 iT q1) (by rintro _ s2 ⟨σ2,H2,vW,G2,mQ,m2,q2⟩; exact⟨σ2,H2,vW,G2,mQ,m1.trans m2,q2⟩)
theorem Sf{i:Nat}{x:Str}{pos':Pos}(hN:X.N.Nodup)(hi:X.N[i]?=some x)(hx:Loc X.env.scope x)(he:gf X e te)(hs:D8 e (some (.Name x pos')) pos.line X.env=pure false:=by rfl)(hf:autoParam (X.fn x=true\/X.env.scope.names.lookup x=some .local) Ao._auto_1) :
  Lq X (.Assign [.Name x pos'] e pos) (bK te (aM i)):=by
 intro E pins s σ H τ G D hE I h;refine wpAny_Assign_Name (j5 he hE I h fun y H1 d G1 v s1 I1 m1 r1 iT q1=>?_) hs;exact tZ I1.inv hN hi hx r1 (fun s2 mQ=>⟨_,H1,_,G1,⟨mQ,I1.st.set i iT,I1.ab⟩,m1,q1⟩) hf
theorem gM(he:gf X e te)(hs:D8 e none pos.line X.env=pure false:=by rfl):Lq X (.Expr e pos) (fF te):=by
 intro E pins s σ H τ G D hE I h;exact wpAny_Expr_any (j5 he hE I h fun y H1 d G1 v s1 I1 m1 r1 iT q1=>⟨σ,H1,τ,G1,I1,m1,q1⟩) I.inv.quiet hs
end
end K2
end
section
namespace K2
open PySem PySem.Spec PyProof.Rows L2
noncomputable def Ul(K:ah)(J:It)(H':Hp)(ds:List D)(ok:Gp->Prop):Prop :=
 ∀ i H1 G1,Kp H' H1->lC K H1 G1->ok G1->(∀ d,ds[i]?=some d->J.go i H1/\∀ x H2,J.yld i H1 x H2->cB K H2 x d/\Mv K H1 G1 H2 G1)/\(ds.length<=i->J.stop i H1)
inductive DN (X:Cx) (pins:List (Addr×Obj)) (σ:L2.St) (tg:Expr) (H:Hp) (G:Gp) (R:List D->(Gp->Prop)->Gp->Prop) (SH:Value) (s2:ar):Prop
 | mk (it:Addr) (fp:List Addr) (tn:Nat->Heap->Prop) (J:It) (H':Hp) (G':Gp) (ds:List D) (ok:Gp->Prop) (e:SH=.ref it) (i:Inv X pins σ H' s2) (m:Mv X.K H G H' G') (T:Turn X.prog X.w X.K tg J fp it tn) (t0:tn 0 s2.heap) (f:∀ b∈fp,ng X pins H' b)
  (wk:Ul X.K J H' ds ok) (q:R ds ok G'):DN X pins σ tg H G R SH s2
noncomputable def M0(X:Cx)(tg iter:Expr)(wi:MZ):Prop :=
 ∀ (E:lb) (pins:List (Addr×Obj)) (s:ar) (σ:L2.St) (H:Hp) (τ:gS) (G:Gp) (R:List D->(Gp->Prop)->Gp->Prop),Lk X E->I2 X pins σ H τ G s->wi E τ G R ->
  wpAny (model X.prog X.w) X.A (eval iter X.env) (fun v s1=>wpAny (model X.prog X.w) X.A (wH v) (DN X pins σ tg H G R) X.xe s1) X.xe s
section
variable {X:Cx} {tg:Expr} {a b:Expr} {ta tb:fC} {pos p:Pos}
theorem Kv{pins:List (Addr×Obj)}{σ:L2.St}{H H1:Hp}{G G1:Gp}{s1:ar}{l:Addr}{vs:List V}{ds:List D}{ok:Gp->Prop}{R:List D->(Gp->Prop)->Gp->Prop}(I1:Inv X pins σ H1 s1)(m:Mv X.K H G H1 G1)(hq:oK X.K H1 l vs)
  (hk:∀ H2 G2,Kp H1 H2->lC X.K H2 G2->ok G2->∃ ws,oK X.K H2 l ws/\bh X.K H2 ws ds) (q:R ds ok G1):wpAny (model X.prog X.w) X.A (wH (.ref l)) (DN X pins σ tg H G R) X.xe s1:=by
 obtain⟨bw,rv,pl,hz⟩:=I1.list hq;refine jY pl.isList ?_;refine⟨s1.heap.objs.size,[s1.heap.objs.size],_,_,H1,G1,ds,ok,rfl,I1.kept (t':=s1.toks) fun b o e=>aE _ e,m,LA l _,⟨_,aT _ rfl,rfl,rfl⟩,fun b hb=>?_,fun i H2 G2 k ab o=>?_,q⟩
 ·have e:b=s1.heap.objs.size:=by simpa using hb
  subst e;exact I1.Fy (aC _) (I1.cz.fresh (aC _))
 ·obtain⟨ws,hw,rd⟩:=hk H2 G2 k ab o;refine⟨fun d hd=>?_,fun hl=>⟨ws,hw,by rw [rd.length]; exact hl⟩⟩;obtain⟨v,hv,r⟩:=rd.get hd;refine⟨⟨ws,v,hw,hv⟩,?_⟩;rintro x H3 ⟨e,y⟩;subst e;have:=y ws hw;rw [hv] at this;cases this;exact⟨r,.refl ab⟩
theorem Uy{pins:List (Addr×Obj)}{σ:L2.St}{H H1:Hp}{G G1:Gp}{s1:ar}{l:Addr}{vs:List V}{ds:List D}{R:List D->(Gp->Prop)->Gp->Prop}(I1:Inv X pins σ H1 s1)(m:Mv X.K H G H1 G1)(hq:zO X.K H1 l vs)(rd:bh X.K H1 vs ds)
  (q:R ds (fun _=>True) G1):wpAny (model X.prog X.w) X.A (wH (.ref l)) (DN X pins σ tg H G R) X.xe s1:=by
 obtain⟨bw,rv,pl,hz⟩:=I1.tuple hq;refine wpAny_pyIter_tuple (show s1.heap.IsTuple l bw.toArray from pl) ?_;refine⟨s1.heap.objs.size,[s1.heap.objs.size],_,_,H1,G1,ds,_,rfl,I1.kept (t':=s1.toks) fun b o e=>aE _ e,m,Hq l _,⟨_,aT _ rfl,rfl,rfl⟩,fun b hb=>?_,fun i H2 G2 k ab _=>?_,q⟩
 ·have e:b=s1.heap.objs.size:=by simpa using hb
  subst e;exact I1.Fy (aC _) (I1.cz.fresh (aC _))
 ·have hw:=k.sqT hq;have xH:=rd.mono k;refine⟨fun d hd=>?_,fun hl=>⟨vs,hw,by rw [rd.length]; exact hl⟩⟩;obtain⟨v,hv,r⟩:=xH.get hd;refine⟨⟨vs,v,hw,hv⟩,?_⟩;rintro x H3 ⟨e,y⟩;subst e;have:=y vs hw;rw [hv] at this;cases this;exact⟨r,.refl ab⟩
theorem fJ(ha:gf X a ta):M0 X tg a (nY ta):=by
 intro E pins s σ H τ G R hE I h;refine j5 ha hE I h fun x H1 d G1 v s1 I1 m1 r1 iT q1=>?_;cases iT with
 | tup hq rs=>cases r1; exact Uy I1.inv m1 (.of hq) rs q1
 | dJ hq rs=>cases r1; exact Kv I1.inv m1 hq.sq (fun H2 G2 k ab _=>⟨_,(k.TF hq).sq,rs.mono k⟩) q1
 | ref p =>
  cases r1;dsimp only at q1;split at q1
  ·rename_i ds e;obtain⟨vs,hv,rs⟩:=I1.ab.lst e;refine Kv I1.inv m1 (.of hv) (fun H2 G2 k ab o=>?_) q1;obtain⟨ws,hw,rY⟩:=ab.lst o;exact⟨ws,.of hw,rY⟩
  ·exact q1.elim
 | nV _ _=>exact q1.elim
 | nU _ _=>exact q1.elim
 | cL=>exact q1.elim
 | bl _=>exact q1.elim
 | int _=>exact q1.elim
 | str _=>exact q1.elim
 | exc _=>exact q1.elim
theorem OE{pins:List (Addr×Obj)}{σ:L2.St}{H H1:Hp}{G G1:Gp}{s:ar}{R:List D->(Gp->Prop)->Gp->Prop}{lo hi:Int}{t u v:Tok}{tk:Nat}(I:Inv X pins σ H1 s)(m:Mv X.K H G H1 G1)(h1:-(2 ^ 62)<=lo)(h2:lo < 2 ^ 62)(h3:-(2 ^ 62)<=hi)(h4:hi < 2 ^ 62)
  (q:R (dQ lo (hi - lo).toNat) (fun _=>True) G1):wpAny (model X.prog X.w) X.A (wH (.ref s.heap.objs.size)) (DN X pins σ tg H G R) X.xe { s with heap:=s.heap.push { cls:=.type "range",data:=.fields #[.int lo t,.int hi u,.int 1 v] },toks:=tk }:=by
 refine fZ (OJ (tg:=tg) I h1 h2 h3 h4 (R:=fun J H'=>J=Itr lo (hi - lo).toNat/\H'=H1) ⟨rfl,rfl⟩) ?_;rintro SH s2 ⟨it,fp,tn,J,H',e,mQ,T,st,fo,eJ,eH⟩;subst eJ; subst eH;refine⟨it,fp,tn,_,H',G1,_,_,e,mQ,m,T,st,fo,fun i H2 G2 k ab _=>⟨fun d hd=>?_,fun hl=>?_⟩,q⟩
 ·unfold dQ at hd;rw [aX] at hd;cases xn:(aU (hi - lo).toNat)[i]? with
  | none=>rw [xn] at hd; cases hd
  | some j =>
   rw [xn] at hd;obtain⟨oj,ej⟩:=List.getElem?_eq_some_iff.mp xn;rw [e7] at oj;rw [List.getElem_range] at ej;subst ej;cases hd;refine⟨oj,?_⟩;rintro x H3 ⟨e1,e2⟩;subst e1; subst e2;exact⟨.int _,.refl ab⟩
 ·unfold dQ at hl;rw [ag,e7] at hl;exact hl
theorem jl (hg:Gl X "range") (hm:X.mg "range" = none) (ha:gf X a ta) (hs:bL [a] X.env=[(false,eval a X.env)]:=by rfl):M0 X tg (.Call (.Name "range" p) [a] [] pos) (uM ta):=by
 intro E pins s σ H τ G R hE I h;have hA:Gv X [a] (aI ta bx):=ax ha aO hs;refine Call_ (lq I.inv hg hm boot_range (du (ym hA pos hE I (R:=fun ds G1=>match ds with | [.int n]=>-(2 ^ 62)<=n/\n < 2 ^ 62/\R (dQ 0 n.toNat) (fun _=>True) G1 | _=>False) ?_ fun vs H1 ds G1 us s1 I1 m1 r1 iT q1=>?_) hs rfl))
 ·show ta E τ G _;have e:(fun (x:D) (G1:Gp)=>match [x] with | [.int n]=>-(2 ^ 62)<=n/\n < 2 ^ 62/\R (dQ 0 n.toNat) (fun _=>True) G1 | _=>False)=fun x G1=>match x with | .int n=>-(2 ^ 62)<=n/\n < 2 ^ 62/\R (dQ 0 n.toNat) (fun _=>True) G1 | _=>False:=by
   funext x G1; cases x <;> rfl
  exact e ▸ h
 ·split at q1
  ·rename_i n;obtain⟨w,rfl,CC⟩:=iT.one;cases CC;obtain⟨u,rfl,ru⟩:=r1.one;obtain⟨t,rfl⟩:=ru;obtain⟨q1,q2,q⟩:=q1;exact call_range_1 (OE I1.inv m1 (by lia) (by lia) q1 q2 (by simpa using q))
  ·exact q1.elim
theorem fI{iter:Expr}{body:List Stmt}{wi:MZ}{g:AQ}{t:iO}(hp:PassesOwn (model X.prog X.w) X.A X.env X.xe)(hc:X.calm=true)(hi:M0 X tg iter wi)(hg:NA X tg g)(hb:zP X body t)
  (hs:∀ x,j0 iter X.env x=pure x:=by intro _; rfl):Lq X (.For tg iter body [] pos) (gO wi g t):=by
 intro E pins s σ H τ G D hE I h;refine wpAny_For (fZ (hi E pins s σ H τ G _ hE I h) fun v s1 h1=>fZ h1 fun SH s2 h2=>?_) hs;obtain⟨it,fp,tn,J,H2,G2,ds,ok,e,mQ,m2,T,Np,f2,wk,q⟩:=h2;subst e;have HA:∀ {H':Hp},(∀ b∈fp,H' b=none)->∀ b∈fp,ng X pins H' b:=fun hn b hb=>⟨hn b hb,(f2 b hb).2⟩;refine codeAny_forLoop_any (fun n s'=>∃ i jC H' nS G',I2 X pins jC H' nS G' s'/\Mv X.K H G H' G'/\Kp H2 H'/\tn i s'.heap/\(∀ b∈fp,H' b=none)/\n=ds.length - i/\i<=ds.length/\qU g t ok (ds.drop i) E D nS G') ?_ ds.length
  ⟨0,σ,H2,τ,G2,I.mv mQ m2,m2,.refl _,Np,fun b hb=>(f2 b hb).1,rfl,cb _,q⟩
 rintro n s3 ⟨i,Ef,H3,N0,G3,I3,m3,k3,Zs,YT,rfl,hle,w3⟩;by_cases oj:i < ds.length
 ·rw [fj oj] at w3;obtain⟨XE,w3⟩:=w3;obtain⟨go,yl⟩:=(wk i H3 G3 k3 I3.ab XE).1 ds[i] (by simp [oj]);refine eD hp (fZ (T.item X rfl rfl rfl hc i pins s3 Ef H3 X.xe I3.inv (HA YT) Zs go) ?_);rintro r s4 ⟨u,hr,h4⟩;subst hr;refine eD hp (fZ h4 ?_);rintro _ s5 ⟨x,H5,I5,r5,y5,UK,fr5⟩;obtain⟨Xq,m5⟩:=yl x H5 y5;have I5':=I5.pinned (HA fr5) (T.obj _ _ UK);have J5:I2 X (pins++mB fp s5.heap) Ef H5 N0 G3 s5:=⟨I5',I3.st.mono (m5.kp I3.ab),m5.ab⟩;refine eD hp (fZ (hg E _ s5 Ef H5 N0 G3 x ds[i] u _ hE J5 r5 Xq w3) ?_);rintro _ s6 ⟨σ6,H6,τ6,G6,I6,m6,q6⟩;refine eD hp (fZ (hb E _ s6 σ6 H6 τ6 G6 _ hE I6 q6) fun f s7 q7=>?_);have again:∀ {Nm:L2.St} {H7:Hp} {Nl:gS} {G7:Gp},I2 X (pins++mB fp s5.heap) Nm H7 Nl G7 s7->Mv X.K H6 G6 H7 G7->qU g t ok (ds.drop (i+1)) E D Nl G7 ->
    ∃ m,m < ds.length - i/\∃ i jC H' nS G',I2 X pins jC H' nS G' s7/\Mv X.K H G H' G'/\Kp H2 H'/\tn i s7.heap/\(∀ b∈fp,H' b=none)/\m=ds.length - i/\i<=ds.length/\qU g t ok (ds.drop i) E D nS G':=fun {Nm H7 Nl G7} I7 m7 n7=>by
   have mm:=m5.trans (m6.trans m7);refine⟨ds.length - (i+1),by lia,i+1,Nm,H7,Nl,G7,⟨I7.inv.qt,I7.st,I7.ab⟩,m3.trans mm,k3.trans (mm.kp I3.ab),T.keep _ _ _ UK fun b hb o e=>(I7.inv.pin (b,o) (bb _ (bb _ (ko hb e)))).1,fun b hb=>?_,rfl,oj,n7⟩;obtain⟨o,e,d⟩:=T.obj _ _ UK b hb;exact(I7.inv.pin (b,o) (bb _ (bb _ (ko hb e)))).2.1
  cases f with
  | next=>obtain⟨Nm,H7,Nl,G7,I7,m7,n7⟩:=q7; exact again I7 m7 n7
  | cont=>obtain⟨Nm,H7,Nl,G7,I7,m7,n7⟩:=q7; exact again I7 m7 n7
  | brk=>obtain⟨Nm,H7,Nl,G7,I7,m7,q7⟩:=q7; exact⟨Nm,H7,Nl,G7,⟨I7.inv.qt,I7.st,I7.ab⟩,m3.trans (m5.trans (m6.trans m7)),q7⟩
  | ret v=>obtain⟨x7,Nm,H7,d7,G7,I7,m7,r7,rd7,q7⟩:=q7; exact⟨x7,Nm,H7,d7,G7,I7.qt,m3.trans (m5.trans (m6.trans m7)),r7,rd7,q7⟩
 ·have hn:ds.length<=i:=by lia
  rw [iM hn] at w3;obtain⟨XE,qn⟩:=w3;have stop:=(wk i H3 G3 k3 I3.ab XE).2 hn;refine eD hp (fZ (T.done X rfl rfl rfl hc i pins s3 Ef H3 X.xe I3.inv (HA YT) Zs stop) ?_);rintro r s4 ⟨hr,I4⟩;subst hr;exact l8 ⟨Ef,H3,N0,G3,⟨I4,I3.st,I3.ab⟩,m3,qn⟩
theorem LY{c:Expr}{body:List Stmt}{tc:x2}{t:iO}(hp:PassesOwn (model X.prog X.w) X.A X.env X.xe)(hc:Lp X c tc)(hb:zP X body t):Lq X (.While c body [] pos) (QB tc t):=by
 intro E pins s σ H τ G D hE I h;obtain⟨n0,w0⟩:=h;refine wpAny_While (codeAny_whileLoop (fun n s'=>∃ jC H' nS G',I2 X pins jC H' nS G' s'/\Mv X.K H G H' G'/\Hk tc t n E D nS G') ?_ n0 ⟨σ,H,τ,G,I,.refl I.ab,w0⟩);rintro n s1 ⟨Wv,H1,rV,G1,I1,m1,w1⟩;cases n with
 | zero=>exact w1.elim
 | succ n =>
  refine eD hp (RU hc hE I1 w1 fun b H2 G2 s2 mQ m2 q2=>?_);cases b with
  | true =>
   rw [if_pos rfl] at q2 ⊢;refine eD hp (fZ (hb E pins s2 Wv H2 rV G2 _ hE mQ q2) fun f s3 q3=>?_);cases f with
   | next=>obtain⟨Ef,H3,N0,G3,I3,m3,n3⟩:=q3; exact⟨n,nR _,Ef,H3,N0,G3,I3,m1.trans (m2.trans m3),n3⟩
   | cont=>obtain⟨Ef,H3,N0,G3,I3,m3,n3⟩:=q3; exact⟨n,nR _,Ef,H3,N0,G3,I3,m1.trans (m2.trans m3),n3⟩
   | brk=>exact q3.trans (m1.trans m2)
   | ret v=>exact q3.trans (m1.trans m2)
  | false =>
   rw [if_neg eT] at q2 ⊢;exact l8 ⟨Wv,H2,rV,G2,mQ,m1.trans m2,q2⟩
end
end K2
end
section
namespace K2
open PySem PySem.Spec PyProof.Rows L2
theorem CB(n d:Nat)(o:Option Int):HT.i4 n d o=i4 n d o:=by cases o <;> rfl
theorem bh.cut{K:ah}{H:Hp}{vs:List V}{ds:List D}(r:bh K H vs ds)(lo hi:Option Int):bh K H (Gb vs lo hi) (K2.cut ds lo hi):=by
 unfold Gb K2.cut;rw [CB,CB,r.length];exact(r.drop _).take _
theorem bh.pJ{K:ah}{H:Hp}{vs:List V}{ds:List D}{i:Int}{d:D}(r:bh K H vs ds)(h:K2.pJ ds i=some d):∃ v,L2.pJ vs i=some v/\cB K H v d:=by
 unfold K2.pJ at h;cases e:K2.Fh ds.length i with
 | none=>rw [e] at h; cases h
 | some j =>
  rw [e] at h;obtain⟨v,h1,h2⟩:=r.get (show ds[j]?=some d from h);refine⟨v,?_,h2⟩;show (L2.Fh vs.length i).bind _=_;have e':L2.Fh vs.length i=some j:=by rw [r.length]; exact e
  rw [e'];exact h1
section
variable {X:Cx} {a b c e:Expr} {ta tb tc te:fC} {pos p2:Pos}
theorem mJ{pins:List (Addr×Obj)}{s:ar}{σ:L2.St}{H:Hp}{G:Gp}{x:V}{d:D}{v:Value}{zs:List D}(I:Inv X pins σ H s)(ab:lC X.K H G)(rx:RelV x v)(rd:cB X.K H x d)(hi:oA d G=some zs) :
  ∃ l vs bw,v=.ref l/\Vals vs bw/\bh X.K H vs zs/\s.heap.IsList l bw.toArray/\vs.length<=bo:=by
 cases rd with
 | dJ hq rs =>
  cases hi;cases rx;obtain⟨bw,rv,pl,hz⟩:=I.list hq.sq;exact⟨_,_,bw,rfl,rv,rs,pl.isList,hz⟩
 | ref l =>
  unfold oA at hi;dsimp only at hi;cases hg:G l with
  | none=>rw [hg] at hi; cases hi
  | some gg =>
   rw [hg] at hi;cases gg with
   | lst ds =>
    cases hi;cases rx;obtain⟨vs,hv,rs⟩:=ab.lst hg;obtain⟨bw,rv,pl,hz⟩:=I.list (.of hv);exact⟨_,_,bw,rfl,rv,rs,pl.isList,hz⟩
   | ja _=>cases hi
 | _=>cases hi
theorem l6{pins:List (Addr×Obj)}{s:ar}{σ:L2.St}{H:Hp}(I:Inv X pins σ H s){m:Str->Option Value}(F0:Fr X.base X.env.locals s.heap m){h':Heap}(F:Fr X.base X.env.locals h' m)(N:News X.base X.env.locals h' (pK X.base s.heap X.env.locals)) :
  (∀ b o,b≠X.env.locals->s.heap.get? b=some o->h'.get? b=some o)/\∀ m',s.heap.Ns X.env.locals m'->h'.Ns X.env.locals m':=by
 refine⟨fun b o hb e=>?_,fun m' hm=>?_⟩
 ·cases q:X.base.get? b with
  | some u =>
   have:=I.bk b u q;rw [e] at this; cases this;exact F.keep b _ q
  | none=>exact(N (b,o) (nF hb q e)).1
 ·have e1:=hm.eq_nsMap;have e2:=F0.ns.eq_nsMap;rw [e1,<-e2]; exact F.ns
theorem kn{P:bE}{w:World}{H:Hp}{h:Heap}{a:Addr}:∀ {o:HO},gC P w H h a o->∃ ob,h.get? a=some ob:=by
 intro o x;cases o with
 | lst _=>obtain⟨_,_,_,_,e⟩:=x; exact⟨_,e⟩
 | tup _=>obtain⟨_,_,_,ob,e,_⟩:=x; exact⟨ob,e⟩
 | dK _=>obtain⟨_,_,_,_,ob,_,_,e,_⟩:=x; exact⟨ob,e⟩
 | dT _=>obtain⟨_,_,_,_,ob,_,_,e,_⟩:=x; exact⟨ob,e⟩
 | set _ _=>obtain⟨ob,_,_,_,e,_⟩:=x; exact⟨ob,e⟩
 | ins _ _ _=>obtain⟨_,_,_,e,_⟩:=x; exact⟨_,e⟩
 | own _=>exact x
 | xd _=>obtain⟨_,⟨ob,_,_,e,_⟩,_⟩:=x; exact⟨ob,e⟩
 | met _ _=>exact⟨_,x⟩
 | Zu _ _=>obtain⟨_,_,_,e⟩:=x; exact⟨_,e⟩
 | mP _ _=>exact⟨_,x.1⟩
 | TC _=>obtain⟨_,e,_⟩:=x; exact⟨_,e⟩
 | ext _=>exact x.2.1
theorem xT{P:bE}{w:World}{H:Hp}{h:Heap}{a:Addr}(ok:tO P w H h)(e:h.get? a=none):H a=none:=by
 cases q:H a with
 | none=>rfl
 | some o =>
  obtain⟨ob,z⟩:=kn (ok a o q);rw [e] at z; cases z
theorem Inv.Ky{pins:List (Addr×Obj)}{s:ar}{σ:L2.St}{H:Hp}(I:Inv X pins σ H s){h':Heap}{t':Nat}{a:Addr}{o:HO}(k:∀ b o,b≠X.env.locals->s.heap.get? b=some o->h'.get? b=some o)(ns:∀ m',s.heap.Ns X.env.locals m'->h'.Ns X.env.locals m')
  (hp:s.heap.get? a=none) (new:gC X.prog X.w (upd H a o) h' a o):Inv X pins σ (upd H a o) { s with heap:=h',toks:=t' }:=by
 have hn:H a=none:=xT I.cz hp;have ne:∀ b u,H b=some u->b≠a:=fun b u e=>eF e hn;have nL:∀ b u,H b=some u->b≠X.env.locals:=fun b u e=>eF e I.free;have ht:∀ b u,s.heap.get? b=some u->b≠a:=fun b u e z=>by subst z; rw [hp] at e; cases e
 have thL:∃ o',h'.get? X.env.locals=some o':=by
  obtain⟨m,hm,_⟩:=I.loc;obtain⟨o',_,_,ho,_⟩:=ns m hm;exact⟨o',ho⟩
 refine I.step (g':=s.gens) (d':=s.drawn) (ch:=[]) (fun b hb=>absurd hb (by simp)) (fun b o hL _ _ e _=>k b o hL e) (fun b o hL _ _ e _=>⟨o.slots,k b o hL e⟩) (fun b o _ e n=>by rw [bN (ht b o e)]; exact n)
  (fun b o _ e=>?_) (fun b xs e=>by rw [bN (ne _ _ e)]; exact e) (fun b o u e=>by rw [bN (ne _ _ e)]; exact e) (fun b ps e=>by rw [bN (ne _ _ e)]; exact e) ns (fun b u e=>?_) I.bare
 ·by_cases hb:b=X.env.locals
  ·rw [hb]; exact thL
  ·exact⟨o,k b o hb e⟩
 ·by_cases hb:b=a
  ·subst hb; rw [cJ] at e; cases e; exact new
  ·rw [bN hb] at e;refine(I.cz b u e).mW (fun c v hc r=>k c v ?_ r) (fun c z=>by rw [bN (ne _ _ z)]; exact z) (fun c xs z=>by rw [bN (ne _ _ z)]; exact z);rcases hc with rfl | hc
   ·exact nL _ _ e
   ·exact nL _ _ hc
theorem kE:oa X (j3 .Add) pX:=by
 intro pins s σ H G x y dx dy v u Q I ab rx ry dX dY q;have lists:DL dx dy G Q->wpAny (model X.prog X.w) X.A (j3 .Add v u) (rO X pins σ H G Q) X.xe s:=by
  intro q;unfold DL at q;split at q
  ·rename_i xs ys e1 e2;obtain⟨hz,q⟩:=q;obtain⟨l,vs,bw,rfl,rv,rs,hl,_⟩:=mJ I ab rx dX e1;obtain⟨b,ws,r8,rfl,LN,Nq,hb,_⟩:=mJ I ab ry dY e2;obtain⟨m,F0⟩:=I.fr;have hsz:bw.length+r8.length<=bo:=by rw [<-rv.length,<-LN.length,rs.length,Nq.length,cx]; exact hz
   refine PyProof.Rows.add_lists F0 yN hl hb (fun h' F N=>?_) hsz;obtain⟨kk,ns⟩:=l6 I F0 F fun p hp=>N p (ao _ hp);have hp:H s.heap.objs.size=none:=I.cz.fresh (aC _);refine⟨.ref s.heap.objs.size,upd H s.heap.objs.size (.lst (vs++ws)),.ref _,_,Inv.Ky (t':=s.toks) I kk ns (RG (aC _)) ?_,.Ar ab hp (rs.append Nq),rfl,.ref _,q _ (ab.free hp)⟩;exact⟨by rw [aw,rv.length,LN.length]; exact hsz,bw++r8,0,rv.append LN,(N _ aB).1⟩
  ·exact q.elim
 cases dX with
 | int i =>
  cases dY with
  | int j=>exact fZ (Vh pins s σ H _ _ v u (B6 X.K H G Q) I rx ry ⟨i,j,rfl,rfl,_,_,.refl ab,.int _,q⟩) fun _ _ z=>.of z
  | _=>exact lists q
 | str i =>
  cases dY with
  | str j =>
   obtain⟨hz,q⟩:=q;exact fZ (HV pins s σ H _ _ v u (B6 X.K H G Q) I rx ry ⟨i,j,rfl,rfl,by rw [cx]; exact hz,_,_,.refl ab,.str _,q⟩) fun _ _ z=>.of z
  | _=>exact lists q
 | tup h1 r1 =>
  cases dY with
  | tup h2 r2 =>
   obtain⟨hn,hz,q⟩:=q;refine fZ (Sq pins s σ H _ _ v u (B6 X.K H G Q) I rx ry ⟨_,_,_,_,rfl,rfl,.of h1,.of h2,?_,?_,fun e=>?_,fun e p hp=>?_⟩) fun _ _ z=>.of z
   ·rintro rfl; cases r1; exact hn rfl
   ·rw [r1.length,r2.length,cx]; exact hz
   ·subst e;cases r2;rw [bU] at q;exact⟨_,_,.refl ab,.tup h1 r1,q⟩
   ·exact⟨_,_,.Nt ab hp,.tup cJ ((r1.append r2).mono (.new hp)),q⟩
  | _=>exact lists q
 | ref l=>exact lists (by rw [yG] at q; exact q)
 | dJ _ _=>exact lists (by rw [ur] at q; exact q)
 | _=>exact lists (by cases dY <;> exact q)
theorem kD:oa X (j3 .Sub) uk:=by
 intro pins s σ H G x y dx dy v u Q I ab rx ry dX dY q;cases dX with
 | int i =>
  cases dY with
  | int j=>exact fZ (Vd pins s σ H _ _ v u (B6 X.K H G Q) I rx ry ⟨i,j,rfl,rfl,_,_,.refl ab,.int _,q⟩) fun _ _ z=>.of z
  | _=>exact bM q
 | _=>exact bM q
theorem nE:oa X (j3 .Mult) v3:=by
 intro pins s σ H G x y dx dy v u Q I ab rx ry dX dY q;cases dX with
 | int i =>
  cases dY with
  | int j=>exact fZ (Ve pins s σ H _ _ v u (B6 X.K H G Q) I rx ry ⟨i,j,rfl,rfl,q.1,_,_,.refl ab,.int _,q.2⟩) fun _ _ z=>.of z
  | _=>exact bM q
 | _=>exact bM q
theorem jN:oa X (j3 .Mod) sO:=by
 intro pins s σ H G x y dx dy v u Q I ab rx ry dX dY q;cases dX with
 | int i =>
  cases dY with
  | int j=>exact fZ (Vf pins s σ H _ _ v u (B6 X.K H G Q) I rx ry ⟨i,j,rfl,rfl,q.1,_,_,.refl ab,.int _,q.2⟩) fun _ _ z=>.of z
  | _=>exact bM q
 | _=>exact bM q
theorem EN:oa X (j3 .FloorDiv) EF:=by
 intro pins s σ H G x y dx dy v u Q I ab rx ry dX dY q;cases dX with
 | int i =>
  cases dY with
  | int j=>exact fZ (So pins s σ H _ _ v u (B6 X.K H G Q) I rx ry ⟨i,j,rfl,rfl,⟨q.1,q.2.1⟩,_,_,.refl ab,.int _,q.2.2⟩) fun _ _ z=>.of z
  | _=>exact bM q
 | _=>exact bM q
theorem O1(hu:X.A.units < cLine):oa X (dB .Lt) Xs:=by
 intro pins s σ H G x y dx dy v u Q I ab rx ry dX dY q;cases dX with
 | int i =>
  cases dY with
  | int j=>exact fZ (Xz pins s σ H _ _ v u (B6 X.K H G Q) I rx ry ⟨i,j,rfl,rfl,_,_,.refl ab,.bl _,q⟩) fun _ _ z=>.of z
  | _=>exact bM q
 | tup h1 r1 =>
  cases dY with
  | tup h2 r2 =>
   obtain⟨xs,ys,e1,e2,q⟩:=q;subst e1 e2;have z1:=r1.ints;have z2:=r2.ints;subst z1 z2;have el:∀ xs ys:List Int,HT.lexLt xs ys=K2.lexLt xs ys:=by
    intro xs;induction xs with
    | nil=>intro ys; cases ys <;> rfl
    | cons x xs ih=>intro ys; cases ys with
     | nil=>rfl
     | cons y ys=>unfold HT.lexLt K2.lexLt; rw [ih]
   exact fZ (Vg hu pins s σ H _ _ v u (B6 X.K H G Q) I rx ry ⟨_,_,xs,ys,rfl,rfl,.of h1,.of h2,_,_,.refl ab,.bl _,by rw [el]; exact q⟩) fun _ _ z=>.of z
  | _=>exact bM q
 | _=>exact bM q
theorem HX:oa X (dB .LtE) TM:=by
 intro pins s σ H G x y dx dy v u Q I ab rx ry dX dY q;cases dX with
 | int i =>
  cases dY with
  | int j=>exact fZ (XA pins s σ H _ _ v u (B6 X.K H G Q) I rx ry ⟨i,j,rfl,rfl,_,_,.refl ab,.bl _,q⟩) fun _ _ z=>.of z
  | _=>exact bM q
 | _=>exact bM q
theorem yL:oa X (dB .Gt) TN:=by
 intro pins s σ H G x y dx dy v u Q I ab rx ry dX dY q;cases dX with
 | int i =>
  cases dY with
  | int j=>exact fZ (XB pins s σ H _ _ v u (B6 X.K H G Q) I rx ry ⟨i,j,rfl,rfl,_,_,.refl ab,.bl _,q⟩) fun _ _ z=>.of z
  | _=>exact bM q
 | _=>exact bM q
mutual
noncomputable def pd:D->PyData
 | .cL=>.none
 | .bl b=>.bool b
 | .int i=>.int i
 | .str x=>.str x
 | .tup ds=>.tuple (lI ds)
 | .dJ ds=>.list (lI ds)
 | .kh _=>.none
 | .exc _=>.none
 | .ref _=>.none
noncomputable def lI:List D->List PyData
 | []=>[]
 | d :: r=>pd d :: lI r
end
mutual
theorem tm:∀ (s t:D),nr s=true->nr t=true->tS (pd s) (pd t)=ic s t
 | .cL,t,_,ht=>by cases t <;> first | rfl | (exact bH (show false=true from ht))
 | .bl a,t,_,ht=>by cases t <;> first | rfl | (exact bH (show false=true from ht))
 | .int a,t,_,ht=>by cases t <;> first | rfl | (exact bH (show false=true from ht))
 | .str a,t,_,ht=>by cases t <;> first | rfl | (exact bH (show false=true from ht))
 | .tup a,t,hs,ht=>by
  cases t with
  | tup b=>exact Dp a b hs ht
  | ref _=>exact bH (show false=true from ht)
  | exc _=>exact bH (show false=true from ht)
  | kh _=>exact bH (show false=true from ht)
  | _=>rfl
 | .dJ a,t,hs,ht=>by
  cases t with
  | dJ b=>exact Dp a b hs ht
  | ref _=>exact bH (show false=true from ht)
  | exc _=>exact bH (show false=true from ht)
  | kh _=>exact bH (show false=true from ht)
  | _=>rfl
 | .ref _,_,hs,_=>bH (show false=true from hs)
 | .exc _,_,hs,_=>bH (show false=true from hs)
 | .kh _,_,hs,_=>bH (show false=true from hs)
theorem Dp:∀ (s t:List D),pO s=true->pO t=true->PyData.eqvAll (lI s) (lI t)=kW s t
 | [],[],_,_=>rfl
 | [],_ :: _,_,_=>rfl
 | _ :: _,[],_,_=>rfl
 | a :: r,b :: t,hs,ht=>by
  have KO:nr a=true/\pO r=true:=(jB).mp hs;have Mn:nr b=true/\pO t=true:=(jB).mp ht;show (tS (pd a) (pd b)&&PyData.eqvAll (lI r) (lI t))=(ic a b&&kW r t);rw [tm a b KO.1 Mn.1,Dp r t KO.2 Mn.2]
end
mutual
theorem jP:∀ (s:D),nr s=true->(pd s).canLay0=true
 | .cL,_=>rfl
 | .bl a,_=>rfl
 | .int a,_=>rfl
 | .str a,h=>h
 | .tup a,h=>uI a h
 | .dJ a,h=>uI a h
 | .exc _,_=>rfl
 | .ref _,_=>rfl
 | .kh _,_=>rfl
theorem uI:∀ (s:List D),pO s=true->PyData.canLayAll0 (lI s)=true
 | [],_=>rfl
 | a :: r,h=>by
  have h':nr a=true/\pO r=true:=(jB).mp h;show ((pd a).canLay0&&PyData.canLayAll0 (lI r))=true;rw [jP a h'.1,uI r h'.2]; rfl
end
theorem zC{G:Gp}{n:Nat}{d t:D}(h:Sn G n d t):(pd t).depth<=n:=by
 induction h with
 | cL=>exact cb _
 | bl b=>exact cb _
 | int i=>exact cb _
 | str x h=>exact cb _
 | Hu=>exact tJ (cb _)
 | qu _ _ PD PC =>
  exact tJ (Nat.max_le.mpr ⟨PD,tU PC⟩)
 | OD=>exact tJ (cb _)
 | EE _ _ PD PC =>
  exact tJ (Nat.max_le.mpr ⟨PD,tU PC⟩)
 | ref _ _ ih=>exact ih
theorem gQ{pins:List (Addr×Obj)}{σ:L2.St}{H:Hp}{s:ar}{G:Gp}(I:Inv X pins σ H s)(ab:lC X.K H G){n:Nat}{d t:D}(h:Sn G n d t) :
  (∀ v u,cB X.K H v d->RelV v u->∃ as,Reads s.heap u (pd t) as) /\
  (∀ ds ss,(d=.dJ ds/\t=.dJ ss)\/(d=.tup ds/\t=.tup ss)->∀ vs us,bh X.K H vs ds->Vals vs us->∃ as,gy s.heap us (lI ss) as):=by
 have TB:∀ {ds ss:List D},(∀ vs us,bh X.K H vs ds->Vals vs us->∃ as,gy s.heap us (lI ss) as)->∀ v u,cB X.K H v (.tup ds)->RelV v u->∃ as,Reads s.heap u (pd (.tup ss)) as:=by
  intro ds ss k v u r ru;cases r with
  | tup hq rs =>
   cases ru;obtain⟨bw,rv,⟨o,ho,hc,n,hd⟩,hz⟩:=I.tuple (.of hq);obtain⟨as,ra⟩:=k _ bw rs rv;exact⟨as,.tuple ho hc hd (by simpa using ra)⟩
 have TH:∀ {ds ss:List D},(∀ vs us,bh X.K H vs ds->Vals vs us->∃ as,gy s.heap us (lI ss) as)->∀ v u,cB X.K H v (.dJ ds)->RelV v u->∃ as,Reads s.heap u (pd (.dJ ss)) as:=by
  intro ds ss k v u r ru;cases r with
  | dJ hq rs =>
   cases ru;obtain⟨bw,rv,pl,hz⟩:=I.list hq.sq;obtain⟨o,ho,hc,n,hd⟩:=pl.isList;obtain⟨as,ra⟩:=k _ bw rs rv;exact⟨_,.list ho hc hd (by simpa using ra)⟩
 induction h with
 | cL=>exact⟨fun v u r ru=>by cases r; cases ru; exact⟨_,.none⟩,fun ds ss e=>by rcases e with ⟨e,_⟩ | ⟨e,_⟩ <;> cases e⟩
 | bl b=>exact⟨fun v u r ru=>by cases r; cases ru; exact⟨_,.bool b⟩,fun ds ss e=>by rcases e with ⟨e,_⟩ | ⟨e,_⟩ <;> cases e⟩
 | int i=>exact⟨fun v u r ru=>by cases r; obtain⟨t,rfl⟩:=ru; exact⟨_,.int i t⟩,fun ds ss e=>by rcases e with ⟨e,_⟩ | ⟨e,_⟩ <;> cases e⟩
 | str x hx=>exact⟨fun v u r ru=>by cases r; obtain⟨t,rfl⟩:=ru; exact⟨_,.str x t⟩,fun ds ss e=>by rcases e with ⟨e,_⟩ | ⟨e,_⟩ <;> cases e⟩
 | Hu =>
  have k:∀ vs us,bh X.K H vs []->Vals vs us->∃ as,gy s.heap us (lI []) as:=fun vs us r ru=>by
   have e:=r.zero;subst e;cases ru;exact⟨_,.nil⟩
  refine⟨TB k,fun ds ss e=>?_⟩;rcases e with ⟨e,_⟩ | ⟨e,e2⟩
  ·cases e
  ·cases e; cases e2; exact k
 | qu h1 h2 PD PC =>
  have k2:=PC.2 _ _ (.inr ⟨rfl,rfl⟩);have k:∀ vs us,bh X.K H vs (_ :: _)->Vals vs us->∃ as,gy s.heap us (lI (_ :: _)) as:=fun vs us r ru=>by
   cases r with
   | cons r1 r2 =>
    cases ru with
    | cons u1 u2 =>
     obtain⟨as,ra⟩:=PD.1 _ _ r1 u1;obtain⟨bs,rb⟩:=k2 _ _ r2 u2;exact⟨_,.cons ra rb⟩
  refine⟨TB k,fun ds ss e=>?_⟩;rcases e with ⟨e,_⟩ | ⟨e,e2⟩
  ·cases e
  ·cases e; cases e2; exact k
 | OD =>
  have k:∀ vs us,bh X.K H vs []->Vals vs us->∃ as,gy s.heap us (lI []) as:=fun vs us r ru=>by
   have e:=r.zero;subst e;cases ru;exact⟨_,.nil⟩
  refine⟨TH k,fun ds ss e=>?_⟩;rcases e with ⟨e,e2⟩ | ⟨e,_⟩
  ·cases e; cases e2; exact k
  ·cases e
 | EE h1 h2 PD PC =>
  have k2:=PC.2 _ _ (.inl ⟨rfl,rfl⟩);have k:∀ vs us,bh X.K H vs (_ :: _)->Vals vs us->∃ as,gy s.heap us (lI (_ :: _)) as:=fun vs us r ru=>by
   cases r with
   | cons r1 r2 =>
    cases ru with
    | cons u1 u2 =>
     obtain⟨as,ra⟩:=PD.1 _ _ r1 u1;obtain⟨bs,rb⟩:=k2 _ _ r2 u2;exact⟨_,.cons ra rb⟩
  refine⟨TH k,fun ds ss e=>?_⟩;rcases e with ⟨e,e2⟩ | ⟨e,_⟩
  ·cases e; cases e2; exact k
  ·cases e
 | ref hg h1 ih =>
  refine⟨fun v u r ru=>?_,fun ds ss e=>by rcases e with ⟨e,_⟩ | ⟨e,_⟩ <;> cases e⟩;cases r;cases ru;obtain⟨vs,hv,rs⟩:=ab.lst hg;obtain⟨bw,rv,pl,hz⟩:=I.list (.of hv);obtain⟨o,ho,hc,n,hd⟩:=pl.isList;obtain⟨as,ra⟩:=ih.2 _ _ (.inl ⟨rfl,rfl⟩) vs bw rs rv;exact⟨_,.list ho hc hd (by simpa using ra)⟩
theorem nW(hu:X.A.units+64 < cLine):oa X (dB .Eq) (GN false):=by
 intro pins s σ H G x y dx dy v u Q I ab rx ry dX dY q;obtain⟨a,b,sa,sb,q⟩:=q;obtain⟨as,ra⟩:=(gQ I ab sa).1 x v dX rx;obtain⟨bs,rb⟩:=(gQ I ab sb).1 y u dY ry;have d1:=zC sa;refine SeqAt.compareEq_reads ra rb (jP _ sa.nr) (jP _ sb.nr) (by unfold SN at d1; lia) ?_;rw [tm _ _ sa.nr sb.nr];exact⟨.bl _,H,.bl _,G,I,.refl ab,rfl,.bl _,q⟩
theorem Vj(hu:X.A.units+64 < cLine):oa X (dB .NotEq) (GN true):=by
 intro pins s σ H G x y dx dy v u Q I ab rx ry dX dY q;obtain⟨a,b,sa,sb,q⟩:=q;obtain⟨as,ra⟩:=(gQ I ab sa).1 x v dX rx;obtain⟨bs,rb⟩:=(gQ I ab sb).1 y u dY ry;have d1:=zC sa;refine SeqAt.compareNe_reads ra rb (jP _ sa.nr) (jP _ sb.nr) (by unfold SN at d1; lia) ?_;rw [tm _ _ sa.nr sb.nr];exact⟨.bl _,H,.bl _,G,I,.refl ab,rfl,.bl _,q⟩
end
end K2
end
section
namespace K2
open PySem PySem.Spec PyProof.Rows L2
theorem va(j k:Key):ic (dI j) (dI k)=decide (j=k):=by
 cases j with
 | inl a=>cases k with
  | inl b=>rw [Pt]; rfl
  | inr b=>exact(decide_eq_false (fun z=>nomatch z)).symm
 | inr a=>cases k with
  | inl b=>exact(decide_eq_false (fun z=>nomatch z)).symm
  | inr b=>rw [Pq]; exact(Q8 a b)
theorem BP:∀ (js ks:List Key),kW (js.map dI) (ks.map dI)=decide (js=ks)
 | [],[]=>(decide_eq_true rfl).symm
 | [],_ :: _=>(decide_eq_false (fun z=>nomatch z)).symm
 | _ :: _,[]=>(decide_eq_false (fun z=>nomatch z)).symm
 | j :: js,k :: ks=>by
  show (ic (dI j) (dI k)&&kW (js.map dI) (ks.map dI))=_;rw [va,BP js ks,FT]
theorem oG(js ks:List Key):ic (.tup (js.map dI)) (.tup (ks.map dI))=decide (js=ks):=by
 exact BP js ks
section
variable {K:ah} {H:Hp}
theorem C4{d:D}(h:fh d=true):∃ k:Key,d=dI k:=by
 cases d with
 | int i=>exact⟨.inl i,rfl⟩
 | str x=>exact⟨.inr x,rfl⟩
 | _=>exact absurd h (by simp [fh])
theorem Kz:∀ {ds:List D},ds.all fh=true->∃ ks:List Key,ds=ks.map dI
 | [],_=>⟨[],rfl⟩
 | d :: r,h=>by
  rw [Ab,aN] at h;obtain⟨k,rfl⟩:=C4 h.1;obtain⟨ks,rfl⟩:=Kz h.2;exact⟨k :: ks,rfl⟩
theorem KA{d:D}(h:lr d=true):∃ ks:List Key,d=.tup (ks.map dI):=by
 cases d with
 | tup ds=>obtain⟨ks,rfl⟩:=Kz (ds:=ds) h; exact⟨ks,rfl⟩
 | _=>exact absurd h (by simp [lr])
theorem CI{v:V}{k:Key}(r:cB K H v (dI k)):v=kV k:=by
 cases k with
 | inl i=>cases r; rfl
 | inr x=>cases r; rfl
theorem EC:∀ {vs:List V} {ks:List Key},bh K H vs (ks.map dI)->vs=ks.map kV
 | _,[],r=>r.zero
 | _,k :: ks,r=>by
  rw [av] at r;cases r with
  | cons r1 r2=>rw [CI r1,EC r2]; rfl
theorem ue{v:V}{ks:List Key}(r:cB K H v (.tup (ks.map dI))):∃ b,v=.ref b/\H b=some (.tup (ks.map kV)):=by
 cases r with
 | tup h rs=>have e:=EC rs; subst e; exact⟨_,rfl,h⟩
theorem oe.look{kv:List (Key×V)}{kvs:List (D×D)}(r:oe K H kv kvs)(k:Key):(∃ v d,lL kv k=some v/\K2.look kvs (dI k)=some d/\cB K H v d)\/(lL kv k=none/\K2.look kvs (dI k)=none):=by
 induction r using oe.ind with
 | nil=>exact .inr ⟨rfl,rfl⟩
 | @cons j v d r t rd rs ih =>
  by_cases e:j=k
  ·left;refine⟨v,d,qo (p:=(j,v)) e,?_,rd⟩;unfold K2.look;rw [NT (by show ic (dI j) (dI k)=true; rw [va]; exact decide_eq_true e)]; rfl
  ·have e1:lL ((j,v) :: r) k=lL r k:=qp (p:=(j,v)) e;have e2:K2.look ((dI j,d) :: t) (dI k)=K2.look t (dI k):=by
    unfold K2.look;rw [NU (by show ¬ ic (dI j) (dI k)=true; rw [va]; simpa using e)]
   rw [e1,e2];exact ih
theorem lB.look{kv:List (List Key×V)}{kvs:List (D×D)}(r:lB K H kv kvs)(k:List Key):(∃ v d,lL kv k=some v/\K2.look kvs (.tup (k.map dI))=some d/\cB K H v d)\/(lL kv k=none/\K2.look kvs (.tup (k.map dI))=none):=by
 induction r using lB.ind with
 | nil=>exact .inr ⟨rfl,rfl⟩
 | @cons j v d r t rd rs ih =>
  by_cases e:j=k
  ·left;refine⟨v,d,qo (p:=(j,v)) e,?_,rd⟩;unfold K2.look;rw [NT (by show ic (.tup (j.map dI)) (.tup (k.map dI))=true; rw [oG]; exact decide_eq_true e)]; rfl
  ·have e1:lL ((j,v) :: r) k=lL r k:=qp (p:=(j,v)) e;have e2:K2.look ((.tup (j.map dI),d) :: t) (.tup (k.map dI))=K2.look t (.tup (k.map dI)):=by
    unfold K2.look;rw [NU (by show ¬ ic (.tup (j.map dI)) (.tup (k.map dI))=true; rw [oG]; simpa using e)]
   rw [e1,e2];exact ih
theorem oe.any{kv:List (Key×V)}{kvs:List (D×D)}(r:oe K H kv kvs)(k:Key):(kv.any fun p=>decide (p.1=k))=kvs.any fun p=>ic p.1 (dI k):=by
 induction r using oe.ind with
 | nil=>rfl
 | @cons j v d r t rd rs ih=>simp only [k9]; rw [ih,va]
theorem lB.any{kv:List (List Key×V)}{kvs:List (D×D)}(r:lB K H kv kvs)(k:List Key):(kv.any fun p=>decide (p.1=k))=kvs.any fun p=>ic p.1 (.tup (k.map dI)):=by
 induction r using lB.ind with
 | nil=>rfl
 | @cons j v d r t rd rs ih=>simp only [k9]; rw [ih,oG]
theorem oe.put{kv:List (Key×V)}{kvs:List (D×D)}(r:oe K H kv kvs)(k:Key){v:V}{d:D}(rd:cB K H v d):oe K H (putK kv k v) (K2.put kvs (dI k) d):=by
 unfold putK K2.put;rw [r.any k];by_cases h:(kvs.any fun p=>ic p.1 (dI k))=true
 ·rw [if_pos h,if_pos h];clear h;induction r using oe.ind with
  | nil=>exact .nil
  | @cons j w e r t re rs ih =>
   simp only [av];rw [va];by_cases e:j=k
   ·simp only [e,if_true,decide_true]; exact .cons rd ih
   ·simp only [e,if_false,decide_false,aQ]; exact .cons re ih
 ·rw [if_neg h,if_neg h];clear h;induction r using oe.ind with
  | nil=>exact .cons rd .nil
  | cons re rs ih=>exact .cons re ih
theorem lB.put{kv:List (List Key×V)}{kvs:List (D×D)}(r:lB K H kv kvs)(k:List Key){v:V}{d:D}(rd:cB K H v d):lB K H (putK kv k v) (K2.put kvs (.tup (k.map dI)) d):=by
 unfold putK K2.put;rw [r.any k];by_cases h:(kvs.any fun p=>ic p.1 (.tup (k.map dI)))=true
 ·rw [if_pos h,if_pos h];clear h;induction r using lB.ind with
  | nil=>exact .nil
  | @cons j w e r t re rs ih =>
   simp only [av];rw [oG];by_cases e:j=k
   ·simp only [e,if_true,decide_true]; exact .cons rd ih
   ·simp only [e,if_false,decide_false,aQ]; exact .cons re ih
 ·rw [if_neg h,if_neg h];clear h;induction r using lB.ind with
  | nil=>exact .cons rd .nil
  | cons re rs ih=>exact .cons re ih
end
theorem Kp.putD{H:Hp}{p:Addr}{o o':HO}(hp:H p=some o)(h:(∃ k,o=.dK k)\/∃ k,o=.dT k):Kp H (upd H p o') :=
 ⟨fun a ys e=>by rw [bN (by rintro rfl; rw [hp] at e; rcases h with ⟨_,rfl⟩ | ⟨_,rfl⟩ <;> cases e)]; exact e,fun a ob u e=>by rw [bN (by rintro rfl; rw [hp] at e; rcases h with ⟨_,rfl⟩ | ⟨_,rfl⟩ <;> cases e)]; exact e⟩
section
variable {X:Cx} {pins:List (Addr×Obj)} {σ:L2.St} {H:Hp} {s:ar} {G:Gp} {a:Addr} {kvs:List (D×D)} {k:D} {y:V}
theorem toT(I:Inv X pins σ H s)(e:H a=some (.dK [])):Inv X pins σ (upd H a (.dT [])) s:=by
 obtain⟨z,hd,vs,rel,dd⟩:=K4 I.cz e;have hv:vs=[]:=by cases rel; rfl
 subst hv;obtain⟨o,es,ep,ho,hx,xS,ZI,hl,nd⟩:=dd;have he:es=#[]:=by
  cases hq:es.toList with
  | nil=>simpa using hq
  | cons _ _=>rw [hq] at hl; cases hl
 subst he;exact I.write (h':=s.heap) (t':=s.toks) (x:=a) (e:=a) (by rw [e]; exact iD) (.inl rfl) (fun b u _ q=>q) ⟨o,ho⟩ ⟨cb _,hd,[],.nil,o,#[],ep,ho,hx,xS,rfl,cY⟩
theorem toK(I:Inv X pins σ H s)(e:H a=some (.dT [])):Inv X pins σ (upd H a (.dK [])) s:=by
 obtain⟨z,hd,xs,rel,o,es,ep,ho,hx,xS,hl,nd⟩:=I.cz a _ e;have hv:xs=[]:=by cases rel; rfl
 subst hv;have he:es=#[]:=by simpa using hl
 subst he;exact I.write (h':=s.heap) (t':=s.toks) (x:=a) (e:=a) (by rw [e]; exact iD) (.inl rfl) (fun b u _ q=>q) ⟨o,ho⟩ ⟨cb _,hd,[],.nil,o,#[],ep,ho,hx,xS,(fun _ h=>by simp at h),.nil,cY⟩
theorem CW{o:HO}(ab:lC X.K H G)(hg:G a=some (.ja kvs))(k:Kp H (upd H a o))(ho:Nb X.K (upd H a o) a (.ja kvs)):Mv X.K H G (upd H a o) G:=by
 have m:=Mv.put ab hg k ho;have e:c6 G a (.ja kvs)=G:=by
  funext b; unfold c6; split
  ·rename_i z; rw [z,hg]
  ·rfl
 rw [e] at m;exact m
theorem K5(I:Inv X pins σ H s)(ab:lC X.K H G)(hg:G a=some (.ja kvs))(hk:iu kvs k=true)(ry:cB X.K H y k) :
  ∃ H',Inv X pins σ H' s/\Mv X.K H G H' G/\((∃ (kv:List (Key×V)) (kk:Key),H' a=some (.dK kv)/\oe X.K H' kv kvs/\k=dI kk/\y=kV kk)\/∃ (kv:List (List Key×V)) (kk:List Key) (b:Addr),H' a=some (.dT kv)/\lB X.K H' kv kvs/\k=.tup (kk.map dI)/\y=.ref b/\H' b=some (.tup (kk.map kV))):=by
 unfold iu at hk;rw [vM,aN,aN] at hk;rcases hk with ⟨h1,h2⟩ | ⟨h1,h2⟩
 ·obtain⟨kk,rfl⟩:=C4 h1;have ey:=CI ry;subst ey;rcases ab a _ hg with ⟨kv,hv,rs⟩ | ⟨kv,hv,rs⟩
  ·exact⟨H,I,.refl ab,.inl ⟨kv,kk,hv,rs,rfl,rfl⟩⟩
  ·cases rs with
   | nil =>
    refine⟨_,toK I hv,CW ab hg (.putD hv (.inr ⟨_,rfl⟩)) (.inl ⟨[],cJ,.nil⟩),.inl ⟨[],kk,cJ,.nil,rfl,rfl⟩⟩
   | cons _ _=>simp [fh] at h2
 ·obtain⟨kk,rfl⟩:=KA h1;obtain⟨b,rfl,hb⟩:=ue ry;rcases ab a _ hg with ⟨kv,hv,rs⟩ | ⟨kv,hv,rs⟩
  ·cases rs with
   | nil =>
    have kp:Kp H (upd H a (.dT [])):=.putD hv (.inl ⟨_,rfl⟩);exact⟨_,toT I hv,CW ab hg kp (.inr ⟨[],cJ,.nil⟩),.inr ⟨[],kk,b,cJ,.nil,rfl,rfl,kp.tup _ _ hb⟩⟩
   | @cons j _ _ _ _ _ _=>cases j <;> simp [dI,lr] at h2
  ·exact⟨H,I,.refl ab,.inr ⟨kv,kk,b,hv,rs,rfl,rfl,hb⟩⟩
theorem FR(I:Inv X pins σ H s)(ab:lC X.K H G)(hg:G a=some (.ja kvs))(hk:iu kvs k=true)(ry:cB X.K H y k) :
  ∃ H' o,Inv X pins σ H' s/\Mv X.K H G H' G/\zX H' a y o/\o.isSome=(look kvs k).isSome/\∀ d,look kvs k=some d->∃ v,o=some v/\cB X.K H' v d:=by
 obtain⟨H',I',m,h⟩:=K5 I ab hg hk ry;rcases h with ⟨kv,kk,hv,rs,rfl,rfl⟩ | ⟨kv,kk,b,hv,rs,rfl,rfl,hb⟩
 ·refine⟨H',lL kv kk,I',m,.k hv,?_,fun d hd=>?_⟩
  ·rcases rs.look kk with ⟨v,d,e1,e2,_⟩ | ⟨e1,e2⟩ <;> rw [e1,e2] <;> rfl
  ·rcases rs.look kk with ⟨v,d',e1,e2,r⟩ | ⟨e1,e2⟩
   ·rw [e2] at hd; cases hd; exact⟨v,e1,r⟩
   ·rw [e2] at hd; cases hd
 ·refine⟨H',lL kv kk,I',m,.t hv hb,?_,fun d hd=>?_⟩
  ·rcases rs.look kk with ⟨v,d,e1,e2,_⟩ | ⟨e1,e2⟩ <;> rw [e1,e2] <;> rfl
  ·rcases rs.look kk with ⟨v,d',e1,e2,r⟩ | ⟨e1,e2⟩
   ·rw [e2] at hd; cases hd; exact⟨v,e1,r⟩
   ·rw [e2] at hd; cases hd
theorem CF{x:V}(I:Inv X pins σ H s)(rd:cB X.K H x (.kh kvs))(hk:iu kvs k=true)(ry:cB X.K H y k) :
  ∃ a o,x=.ref a/\(kvs=[]\/zX H a y o)/\o.isSome=(look kvs k).isSome/\∀ d,look kvs k=some d->∃ v,o=some v/\cB X.K H v d:=by
 unfold iu at hk;rw [vM,aN,aN] at hk;cases rd with
 | nV h rs =>
  rename_i a ob kv;rcases hk with ⟨h1,h2⟩ | ⟨h1,h2⟩
  ·obtain⟨kk,rfl⟩:=C4 h1;have ey:=CI ry;subst ey;refine⟨a,lL kv kk,rfl,.inr (.inl ⟨kv,kk,.inr ⟨_,h⟩,rfl,rfl⟩),?_,fun d hd=>?_⟩
   ·rcases rs.look kk with ⟨v,d,e1,e2,_⟩ | ⟨e1,e2⟩ <;> rw [e1,e2] <;> rfl
   ·rcases rs.look kk with ⟨v,d',e1,e2,r⟩ | ⟨e1,e2⟩
    ·rw [e2] at hd; cases hd; exact⟨v,e1,r⟩
    ·rw [e2] at hd; cases hd
  ·cases rs with
   | nil=>exact⟨a,none,rfl,.inl rfl,rfl,fun d hd=>by cases hd⟩
   | cons _ _ =>
    rename_i kx _ _ _ _ _ _;rw [Ab,aN] at h2;cases kx <;> exact absurd h2.1 (by simp [dI,lr])
 | nU h rs =>
  rename_i a ob kv;rcases hk with ⟨h1,h2⟩ | ⟨h1,h2⟩
  ·cases rs with
   | nil=>exact⟨a,none,rfl,.inl rfl,rfl,fun d hd=>by cases hd⟩
   | cons _ _ =>
    rw [Ab,aN] at h2;exact absurd h2.1 (by simp [fh])
  ·obtain⟨kk,rfl⟩:=KA h1;obtain⟨b,rfl,hb⟩:=ue ry;refine⟨a,lL kv kk,rfl,.inr (.inr ⟨kv,kk,b,.inr ⟨_,h⟩,rfl,hb,rfl⟩),?_,fun d hd=>?_⟩
   ·rcases rs.look kk with ⟨v,d,e1,e2,_⟩ | ⟨e1,e2⟩ <;> rw [e1,e2] <;> rfl
   ·rcases rs.look kk with ⟨v,d',e1,e2,r⟩ | ⟨e1,e2⟩
    ·rw [e2] at hd; cases hd; exact⟨v,e1,r⟩
    ·rw [e2] at hd; cases hd
theorem Qv{v:V}{d:D}(I:Inv X pins σ H s)(ab:lC X.K H G)(hg:G a=some (.ja kvs))(hk:iu kvs k=true)(hz:kvs.length < SZ)(ry:cB X.K H y k)(rv:cB X.K H v d) :
  ∃ H' H'',Inv X pins σ H' s/\M9 H' a y v H''/\Mv X.K H G H'' (c6 G a (.ja (put kvs k d))):=by
 obtain⟨H',I',m,h⟩:=K5 I ab hg hk ry;have rv':=rv.mono (m.kp ab);have sz:bo=16777216:=cx;rcases h with ⟨kv,kk,hv,rs,rfl,rfl⟩ | ⟨kv,kk,b,hv,rs,rfl,rfl,hb⟩
 ·have kp:Kp H' (upd H' a (.dK (putK kv kk v))):=.putD hv (.inl ⟨_,rfl⟩);exact⟨H',_,I',.k hv (by rw [rs.length,sz]; exact hz),m.trans (.put m.ab hg kp (.inl ⟨_,cJ,(rs.put kk rv').mono kp⟩))⟩
 ·have kp:Kp H' (upd H' a (.dT (putK kv kk v))):=.putD hv (.inr ⟨_,rfl⟩);exact⟨H',_,I',.t hv hb (by rw [rs.length,sz]; exact hz),m.trans (.put m.ab hg kp (.inr ⟨_,cJ,(rs.put kk rv').mono kp⟩))⟩
end
end K2
end
section
namespace K2
open PySem PySem.Spec PyProof.Rows L2
section
variable {X:Cx} {a b c e:Expr} {es:List Expr} {ta tb tc te:fC} {t:Gu} {pos p p2 apos jq:Pos} {x:Str}
theorem Kj{j}:gf X (.Constant .none j pos) (dC .cL):=wa U9 fun _ _=>.cL
theorem rC{st:Stmt}:Lq X st zF:=fun _ _ _ _ _ _ _ _ _ _ h=>h.elim
theorem xF:Zd X (unaryOp .USub) HL:=by
 intro pins s σ H G x dx v Q I ab rx dX q;cases dX with
 | int i=>exact fZ (Uw pins s σ H _ v (B6 X.K H G Q) I rx ⟨i,rfl,_,_,.refl ab,.int _,q⟩) fun _ _ z=>.of z
 | _=>exact bM q
theorem dg(hu:X.A.units+64 < cLine)(ha:gf X a ta)(hb:gf X b tb)(hs:Tt b):gf X (.Subscript a b pos) (br j6 ta tb):=by
 intro E pins s σ H τ G Q hE I h;refine Subscript_ (QP ha hb hE I h fun v u s2 x y dx dy H2 G2 J m rx ry dX dY q=>?_);have fin:∀ {rb:R2},IxR X rb->rb x y H2 (B6 X.K H2 G2 Q)->wpAny (model X.prog X.w) X.A (subscriptTail a b v u) (rO X pins σ H G Q) X.xe s2:=fun hr hq =>
  fZ (hr a b pins s2 σ H2 x y v u _ J.inv rx ry hq (hs _ _)) fun _ _ z=>(rO.of z).trans m
 cases dX with
 | tup hq rs =>
  cases dY with
  | int i =>
   rw [i6] at q;split at q
   ·rename_i d hd;obtain⟨w,hw,rY⟩:=rs.pJ hd;exact fin VG ⟨_,_,i,w,rfl,rfl,.of hq,hw,d,G2,.refl J.ab,rY,q⟩
   ·exact q.elim
  | _=>exact bM q
 | dJ hq rs =>
  cases dY with
  | int i =>
   rw [yF] at q;split at q
   ·rename_i d hd;obtain⟨w,hw,rY⟩:=rs.pJ hd;exact fin KD ⟨_,_,i,w,rfl,rfl,hq.sq,hw,d,G2,.refl J.ab,rY,q⟩
   ·exact q.elim
  | _=>exact bM q
 | nV h rs =>
  rw [um] at q;obtain⟨hk,q⟩:=q;split at q
  ·rename_i d hd;obtain⟨a',o,ea,g,_,hv⟩:=CF J.inv (.nV h rs) hk dY;obtain⟨w,rfl,rY⟩:=hv d hd;cases ea;rcases g with rfl | g
   ·cases hd
   ·cases rx;exact tail_any (qV J.inv g) PySem.F.slot_dict_getitem.lookup (wz (by lia) J.inv g ry fun w' s3 I4 rv=>⟨w,H2,d,G2,I4,m,rv,rY,q⟩) (hs _ _)
  ·exact q.elim
 | nU h rs =>
  rw [um] at q;obtain⟨hk,q⟩:=q;split at q
  ·rename_i d hd;obtain⟨a',o,ea,g,_,hv⟩:=CF J.inv (.nU h rs) hk dY;obtain⟨w,rfl,rY⟩:=hv d hd;cases ea;rcases g with rfl | g
   ·cases hd
   ·cases rx;exact tail_any (qV J.inv g) PySem.F.slot_dict_getitem.lookup (wz (by lia) J.inv g ry fun w' s3 I4 rv=>⟨w,H2,d,G2,I4,m,rv,rY,q⟩) (hs _ _)
  ·exact q.elim
 | ref l =>
  rw [J4] at q;split at q
  ·rename_i ds hl;obtain⟨vs,hv,rs⟩:=J.ab.lst hl;cases dY with
   | int i =>
    dsimp only at q;split at q
    ·rename_i d hd;obtain⟨w,hw,rY⟩:=rs.pJ hd;exact fin KD ⟨_,_,i,w,rfl,rfl,.of hv,hw,d,G2,.refl J.ab,rY,q⟩
    ·exact q.elim
   | _=>exact bM q
  ·rename_i kvs hl;obtain⟨hk,q⟩:=q;split at q
   ·rename_i d hd;obtain⟨H3,o,I3,m3,g,_,hv⟩:=FR J.inv J.ab hl hk dY;obtain⟨w,rfl,rY⟩:=hv d hd;cases rx;exact tail_any (qV I3 g) PySem.F.slot_dict_getitem.lookup (wz (by lia) I3 g ry fun w' s3 I4 rv=>⟨w,H3,d,G2,I4,m.trans m3,rv,rY,q⟩) (hs _ _)
   ·exact q.elim
  ·exact q.elim
 | _=>exact bM q
noncomputable def Z0(X:Cx)(e:Option Expr)(t:Zf):Prop :=
 ∀ (E:lb) (pins:List (Addr×Obj)) (s:ar) (σ:L2.St) (H:Hp) (τ:gS) (G:Gp) (Q:Option Int->Gp->Prop),Lk X E->I2 X pins σ H τ G s->t E τ G Q ->
  wpAny (model X.prog X.w) X.A (evalPart e X.env) (fun u s'=>∃ o H' G',Inv X pins σ H' s'/\Mv X.K H G H' G'/\IsPart u o/\Q o G') X.xe s
theorem mz:Z0 X none iJ:=by
 intro E pins s σ H τ G Q hE I h;rw [evalPart_none];exact aj ⟨none,H,G,I.inv,.refl I.ab,.none,h⟩
theorem jL(h:gf X e te):Z0 X (some e) (qW te):=by
 intro E pins s σ H τ G Q hE I hw;rw [evalPart_some];refine j5 h hE I hw fun x H1 d G1 u s1 I1 m1 r1 iT q1=>?_;cases iT with
 | int i =>
  obtain⟨t,rfl⟩:=r1;exact⟨some i,H1,G1,I1.inv,m1,.int i t,q1⟩
 | _=>exact bM q1
theorem jv{lo hi:Option Expr}{tl th:Zf}(he:gf X a ta)(hl:Z0 X lo tl)(hu:Z0 X hi th):gf X (.Subscript a (.Slice lo hi none p2) pos) (Je ta tl th):=by
 intro E pins s σ H τ G Q hE I h;refine Subscript_ (j5 he hE I h fun x H1 d G1 v s1 I1 m1 r1 iT q1=>?_);refine wpAny_Slice (fZ (hl E pins s1 σ H1 τ G1 _ hE I1 q1) ?_);rintro vl s2 ⟨l,H2,G2,mQ,m2,pl,q2⟩;refine fZ (hu E pins s2 σ H2 τ G2 _ hE (I1.mv mQ m2) q2) ?_;rintro vu s3 ⟨r,H3,G3,I3,m3,pu,q3⟩;rw [evalPart_none];refine aj ?_;have XW:=m2.trans m3;have mm:=m1.trans XW;have I4:Inv X pins σ H3 { s3 with heap:=s3.heap.push { cls:=.type "slice",data:=.fields #[vl,vu,.none] } }:=I3.kept (t':=s3.toks) fun b ob q=>aE _ q;have UY:=iT.mono (XW.kp I1.ab);have Nz:=m3.ab;have key:∀ {rb:V->Option Int->Option Int->Hp->VK->Prop},SlR X rb->rb x l r H3 (B6 X.K H3 G3 Q)->wpAny (model X.prog X.w) X.A (subscriptTail a (.Slice lo hi none p2) v (.ref s3.heap.objs.size)) (rO X pins σ H G Q) X.xe { s3 with heap:=s3.heap.push { cls:=.type "slice",data:=.fields #[vl,vu,.none] } }:=fun hr hq=>by
  obtain⟨T,id,hT,ht,hg⟩:=hr pins { s3 with heap:=s3.heap.push { cls:=.type "slice",data:=.fields #[vl,vu,.none] } } σ H3 x v vl vu l r s3.heap.objs.size _ I4 r1 (Heap.IsSliceOf.new ..) pl pu hq;exact fZ (tail_any (ops:=[.ref s3.heap.objs.size,v]) ht hT hg (by with_unfolding_all rfl)) fun _ _ z=>(rO.of z).trans mm
 cases UY with
 | tup hq rs =>
  obtain⟨hw,q⟩:=q3;refine key UN ⟨_,_,rfl,.of hq,?_,fun p hp=>⟨_,G3,.Nt Nz hp,.tup cJ ((rs.cut l r).mono (.new hp)),q⟩⟩;rw [CB,CB,rs.length];exact hw
 | dJ hq rs=>exact key JU ⟨_,_,rfl,hq.sq,fun p hp=>⟨_,_,.Ar Nz hp (rs.cut l r),.ref _,q3 p (Nz.free hp)⟩⟩
 | ref g =>
  rw [J1] at q3;split at q3
  ·rename_i ds hg;obtain⟨vs,hv,rs⟩:=Nz.lst hg;exact key JU ⟨_,_,rfl,.of hv,fun p hp=>⟨_,_,.Ar Nz hp (rs.cut l r),.ref _,q3 p (Nz.free hp)⟩⟩
  ·exact q3.elim
 | _=>exact bM q3
theorem Sj(ss:List D)(s:D)(h1:pO ss=true)(h2:nr s=true):((lI ss).any fun y=>tS y (pd s))=ss.any (ic · s):=by
 induction ss with
 | nil=>rfl
 | cons d r ih =>
  have h':nr d=true/\pO r=true:=(jB).mp h1;show (tS (pd d) (pd s)||(lI r).any _)=_;rw [ih h'.2,tm d s h'.1 h2]; rfl
theorem K6{G:Gp}{n:Nat}{ds ss:List D}(h:Sn G (n+1) (.dJ ds) (.dJ ss)):cm (lI ss)<=n:=by
 exact tU (zC h)
theorem xR(hu:X.A.units+64 < cLine)(neg:Bool){pins:List (Addr×Obj)}{s:ar}{σ:L2.St}{H:Hp}{G:Gp}{x y:V}{dx t:D}{ds ss:List D}{v u:Value}{Q:DK}(I:Inv X pins σ H s)(ab:lC X.K H G)(rx:RelV x v)(dX:cB X.K H x dx)
  (hy:(∃ l vs bw,u=.ref l/\Vals vs bw/\bh X.K H vs ds/\(s.heap.IsList l bw.toArray\/s.heap.IsTuple l bw.toArray))) (s1:Sn G SN dx t) (s2:Sn G SN (.dJ ds) (.dJ ss))
  (q:Q (.bl (if neg then !ss.any (ic · t) else ss.any (ic · t))) G):wpAny (model X.prog X.w) X.A (dB (if neg then .NotIn else .In) v u) (rO X pins σ H G Q) X.xe s:=by
 obtain⟨l,vs,bw,rfl,rv,rs,hl⟩:=hy;obtain⟨as,ra⟩:=(gQ I ab s1).1 x v dX rx;obtain⟨bs,rb⟩:=(gQ I ab s2).2 ds ss (.inl ⟨rfl,rfl⟩) vs bw rs rv;have d2:=K6 (n:=7) s2;have n2:pO ss=true:=s2.nr;have yZ:=uI _ n2;have e:=Sj ss t n2 s1.nr;have uP:X.A.units+1+min (cm (lI ss)) (pd t).depth < cLine:=by lia
 have OI:gy s.heap bw.toArray.toList (lI ss) bs:=by simpa using rb
 have fin:∀ k:Bool,k=(if neg then !ss.any (ic · t) else ss.any (ic · t))->rO X pins σ H G Q (.bool k) s:=fun k hk=>by subst hk; exact⟨.bl _,H,.bl _,G,I,.refl ab,rfl,.bl _,q⟩
 cases neg with
 | false =>
  rcases hl with hl | hl
  ·exact SeqAt.in_listAt _ hl (mS OI ra yZ (jP _ s1.nr) uP) (by rw [qi OI yZ,e]; exact fin _ rfl)
  ·exact SeqAt.in_tupleAt _ hl (mS OI ra yZ (jP _ s1.nr) uP) (by rw [qi OI yZ,e]; exact fin _ rfl)
 | true =>
  rcases hl with hl | hl
  ·exact SeqAt.notIn_listAt _ hl (mS OI ra yZ (jP _ s1.nr) uP) (by rw [qi OI yZ,e]; exact fin _ rfl)
  ·exact SeqAt.notIn_tupleAt _ hl (mS OI ra yZ (jP _ s1.nr) uP) (by rw [qi OI yZ,e]; exact fin _ rfl)
theorem PA(hu:X.A.units+64 < cLine)(neg:Bool){pins:List (Addr×Obj)}{s:ar}{σ:L2.St}{H:Hp}{G:Gp}{x y:V}{dx:D}{kvs:List (D×D)}{v u:Value}{Q:DK}(I:Inv X pins σ H s)(ab:lC X.K H G)(rx:RelV x v)(ry:RelV y u)(dY:cB X.K H y (.kh kvs))(dX:cB X.K H x dx)
  (q:HM neg dx (.kh kvs) G Q):wpAny (model X.prog X.w) X.A (dB (if neg then .NotIn else .In) v u) (rO X pins σ H G Q) X.xe s:=by
 obtain⟨j8,hk,q⟩:=q;have go:∀ (a:Addr) (o:Option V),y=.ref a->zX H a x o->o.isSome=(look kvs dx).isSome->wpAny (model X.prog X.w) X.A (dB (if neg then .NotIn else .In) v u) (rO X pins σ H G Q) X.xe s:=by
  intro a o ea g ho;subst ea;cases ry;cases neg with
  | false=>exact Y0 (by lia) I g rx fun s3 I4=>⟨.bl _,H,.bl _,G,I4,.refl ab,rfl,.bl _,by rw [ho]; exact q⟩
  | true=>exact K8 (by lia) I g rx fun s3 I4=>⟨.bl _,H,.bl _,G,I4,.refl ab,rfl,.bl _,by rw [ho]; exact q⟩
 obtain⟨a,o,ea,g,ho,_⟩:=CF I dY hk dX;rcases g with rfl | g
 ·exact absurd rfl j8
 ·exact go a o ea g ho
theorem CS(hu:X.A.units+64 < cLine)(neg:Bool):oa X (dB (if neg then .NotIn else .In)) (HM neg):=by
 intro pins s σ H G x y dx dy v u Q I ab rx ry dX dY q;cases dY with
 | tup hq rs =>
  obtain⟨t,ss,s1,s2,q⟩:=q;cases ry;obtain⟨bw,rv,pl,hz⟩:=I.tuple (.of hq);exact xR hu neg (y:=x) I ab rx dX ⟨_,_,bw,rfl,rv,rs,.inr pl⟩ s1 s2 q
 | dJ hq rs =>
  obtain⟨t,ss,s1,s2,q⟩:=q;cases ry;obtain⟨bw,rv,pl,hz⟩:=I.list hq.sq;exact xR hu neg (y:=x) I ab rx dX ⟨_,_,bw,rfl,rv,rs,.inl pl.isList⟩ s1 s2 q
 | nV h rs=>exact PA hu neg I ab rx ry (.nV h rs) dX q
 | nU h rs=>exact PA hu neg I ab rx ry (.nU h rs) dX q
 | ref l =>
  unfold HM at q;dsimp only at q;split at q
  ·rename_i kvs hl;obtain⟨hk,q⟩:=q;obtain⟨H3,o,I3,m3,g,ho,_⟩:=FR I ab hl hk dX;cases ry;cases neg with
   | false=>exact Y0 (by lia) I3 g rx fun s3 I4=>⟨.bl _,H3,.bl _,G,I4,m3,rfl,.bl _,by rw [ho]; exact q⟩
   | true=>exact K8 (by lia) I3 g rx fun s3 I4=>⟨.bl _,H3,.bl _,G,I4,m3,rfl,.bl _,by rw [ho]; exact q⟩
  ·rename_i ds hl;obtain⟨t,ss,s1,s2,q⟩:=q;cases ry;obtain⟨vs,hv,rs⟩:=ab.lst hl;obtain⟨bw,rv,pl,hz⟩:=I.list (.of hv);exact xR hu neg (y:=x) I ab rx dX ⟨_,_,bw,rfl,rv,rs,.inl pl.isList⟩ s1 s2 q
  ·exact q.elim
 | _=>exact bM q
theorem Vk(hu:X.A.units+64 < cLine):oa X (dB .In) (HM false):=CS hu false
theorem Bx(hu:X.A.units+64 < cLine):oa X (dB .NotIn) (HM true):=CS hu true
end
end K2
end
section
namespace K2
open PySem PySem.Spec PyProof.Rows L2
section
variable {X:Cx} {a b c e o:Expr} {es:List Expr} {ta tb tc te to:fC} {t:Gu} {pos p p2 apos jq:Pos} {x name:Str} {id T:String}
theorem oJ:qY X (.builtin "len") xx:=by
 intro pins s σ H G xs ds us Q I ab rx rd q;unfold xx at q;split at q
 ·rename_i x;obtain⟨v,rfl,r⟩:=rd.one;have RO:∀ (n:Nat),Zj X.K v H n->Q (.int (n:Int)) G->wpAny (model X.prog X.w) X.A (call (.builtin "len") us) (rO X pins σ H G Q) X.xe s:=fun n hn hq =>
   fZ (QH pins s σ H [v] us (B6 X.K H G Q) I rx ⟨v,n,rfl,hn,_,_,.refl ab,.int _,hq⟩) fun _ _ z=>.of z
  have sz:bo=16777216:=cx;cases r with
  | tup hq rs=>exact RO _ (.inr ⟨_,.of hq,by rw [rs.length]⟩) q
  | dJ hq rs=>exact RO _ (.inl ⟨_,hq.sq,by rw [rs.length]⟩) q
  | str y =>
   unfold lenOf at q;dsimp only at q;by_cases hz:y.length<=SZ
   ·rw [if_pos hz] at q; exact RO _ ⟨by rw [sz]; exact hz,rfl⟩ q
   ·rw [if_neg hz] at q; exact q.elim
  | nV h rs =>
   rename_i l o kv kvs;obtain⟨u,rfl,ru⟩:=rx.one;cases ru;unfold lenOf at q;dsimp only at q;by_cases ha:(kvs.all fun p=>fh p.1)=true
   ·rw [if_pos ha] at q;exact Uh I (.inr ⟨_,h⟩) fun t s' I'=>⟨.int kv.length,H,_,G,I',.refl ab,⟨t,rfl⟩,.int _,by rw [rs.length]; exact q⟩
   ·rw [if_neg ha] at q; exact q.elim
  | nU h rs =>
   rename_i l o kv kvs;obtain⟨u,rfl,ru⟩:=rx.one;cases ru;unfold lenOf at q;dsimp only at q;by_cases ha:(kvs.all fun p=>fh p.1)=true
   ·rw [if_pos ha] at q;cases rs with
    | nil =>
     obtain⟨z,hS,xs,rel,ob,es,ep,ho,hx,xS,hl,nd⟩:=(I.cz l _ h).2;have hxs:xs=[]:=by cases rel; rfl
     subst hxs;have he:es=#[]:=by simpa using hl
     subst he;have dd:s.heap.DictOf (bX X.prog X.w) l []:=⟨ob,#[],ep,ho,hx,xS,(fun _ h=>by simp at h),.nil,cY⟩;refine call_len_dict hS dd (by simp) ?_;exact⟨.int 0,H,_,G,I.tok _,.refl ab,⟨_,rfl⟩,.int _,q⟩
    | cons _ _=>simp [fh] at ha
   ·rw [if_neg ha] at q; exact q.elim
  | ref l =>
   unfold lenOf at q;dsimp only at q;cases hg:G l with
   | none=>rw [hg] at q; exact q.elim
   | some g =>
    rw [hg] at q;cases g with
    | lst ds =>
     obtain⟨vs,hv,rs⟩:=ab.lst hg;exact RO _ (.inl ⟨_,.of hv,by rw [rs.length]⟩) q
    | ja kvs =>
     obtain⟨u,rfl,ru⟩:=rx.one;cases ru;dsimp only at q;by_cases ha:(kvs.all fun p=>fh p.1)=true
     ·rw [if_pos ha] at q;rcases ab l _ hg with ⟨kv,hv,rs⟩ | ⟨kv,hv,rs⟩
      ·exact Uh I (.inl hv) fun t s' I'=>⟨.int kv.length,H,_,G,I',.refl ab,⟨t,rfl⟩,.int _,by rw [rs.length]; exact q⟩
      ·cases rs with
       | nil =>
        obtain⟨z,hd,vs,rel,dd⟩:=K4 (toK I hv).cz cJ;have hvs:vs=[]:=by cases rel; rfl
        subst hvs;refine call_len_dict hd dd (by simp) ?_;exact⟨.int 0,H,_,G,I.tok _,.refl ab,⟨_,rfl⟩,.int _,q⟩
       | cons _ _=>simp [fh] at ha
     ·rw [if_neg ha] at q; exact q.elim
  | _=>exact bM q
 ·exact q.elim
theorem zJ:qY X (.type "list") xc:=by
 intro pins s σ H G xs ds us Q I ab rx rd q;unfold xc at q;split at q
 ·rename_i x;obtain⟨v,rfl,r⟩:=rd.one;have via:∀ (l:Addr) (ys:List V) (zs:List D),v=.ref l->(oK X.K H l ys\/zO X.K H l ys)->bh X.K H ys zs->jb G (.lst zs) Q->wpAny (model X.prog X.w) X.A (call (.type "list") us) (rO X pins σ H G Q) X.xe s:=fun l ys zs e h rs hq=>by
   subst e;exact fZ (DB pins s σ H _ us (B6 X.K H G Q) I rx ⟨l,ys,rfl,h,fun p hp=>⟨_,_,.Ar ab hp rs,.ref _,hq p (ab.free hp)⟩⟩) fun _ _ z=>.of z
  cases r with
  | tup hq rs=>exact via _ _ _ rfl (.inr (.of hq)) rs q
  | dJ hq rs=>exact via _ _ _ rfl (.inl hq.sq) rs q
  | ref l =>
   unfold itemsOf at q;dsimp only at q;cases hg:G l with
   | none=>rw [hg] at q; exact q.elim
   | some g =>
    rw [hg] at q;cases g with
    | lst ds =>
     obtain⟨vs,hv,rs⟩:=ab.lst hg;exact via _ _ _ rfl (.inl (.of hv)) rs q
    | ja kvs=>exact q.elim
  | _=>exact bM q
 ·exact q.elim
theorem sQ {r:List D->Gp->DK->Prop} (hc:qY X (.type T) r) (hg:Gl X x) (hm:X.mg x=none) (hv:dR x=some (.type T)) (ha:Gv X (e :: es) t) (hn:x≠"__name__":=by decide) (Mu:(x == ("__debug__" : Str))=false:=by decide)
  (he:bL (e :: es) X.env=(false,eval e X.env) :: bL es X.env:=by rfl) (BH:(jr pos (bL es X.env)).any (·.1)=false:=by rfl):gf X (.Call (.Name x p) (e :: es) [] pos) (sG r t):=by
 intro E pins s σ H τ G Q hE I h;refine fK (lq I.inv hg hm hv ?_ hn Mu);exact du (ym ha pos hE I h fun vs H1 ds G1 us s1 I1 m1 r1 iT q1=>fZ (hc pins s1 σ H1 G1 vs ds us Q I1.inv I1.ab r1 iT q1) fun _ _ z=>z.trans m1) he BH
theorem VA (K:ah):∀ C∈["int","bool","list","tuple","dict","str"],∀ T∈["NoneType","bool","int","str","tuple","list","dict"],PySem.W.kitOne K (.type T) (.type C)=some (T == C||(T == "bool" && C == "int")):=by
 intro C hC T hT;simp only [hX,fD,or_false] at hC hT;rcases hC with rfl | rfl | rfl | rfl | rfl | rfl <;> rcases hT with rfl | rfl | rfl | rfl | rfl | rfl | rfl <;> kernel_rfl
theorem Pw (C:String) (hC:C∈["int","bool","list","tuple","dict","str"]) {pins:List (Addr×Obj)} {s:ar} {σ:L2.St} {H:Hp} {G:Gp} {v:V} {d:D} {u:Value} {k:Bool} {Q:DK} (I:Inv X pins σ H s) (ab:lC X.K H G) (ru:RelV v u) (r:cB X.K H v d)
  (hk:X6 C d G=some k) (q:Q (.bl k) G):wpAny (model X.prog X.w) X.A (call (.builtin "isinstance") [u,.type C]) (rO X pins σ H G Q) X.xe s:=by
 have fin:∀ tk,rO X pins σ H G Q (.bool k) { s with toks:=tk }:=fun tk=>⟨.bl k,H,.bl k,G,I.tok _,.refl ab,rfl,.bl k,q⟩;have hl:∀ T∈["NoneType","bool","int","str","tuple","list","dict"],k=(T == C||(T == "bool" && C == "int"))->PySem.W.kitOne X.K (.type T) (.type C)=some k:=fun T hT e=>by rw [VA X.K C hC T hT,e]
 have tl:∀ {l:Addr} {o:Obj},s.heap.get? l=some o->o.cls=.type "list"->k=("list" == C||("list" == "bool" && C == "int"))->v=.ref l->wpAny (model X.prog X.w) X.A (call (.builtin "isinstance") [u,.type C]) (rO X pins σ H G Q) X.xe s:=fun ho hc e ev=>by
  subst ev;cases ru;exact iP PySem.W.kitx_list I.KC ⟨_,ho,hc⟩ (hl "list" (by decide) e) (fun z=>nomatch z) fin
 have td:∀ {l:Addr} {o:Obj},s.heap.get? l=some o->o.cls=.type "dict"->k=("dict" == C||("dict" == "bool" && C == "int"))->v=.ref l->wpAny (model X.prog X.w) X.A (call (.builtin "isinstance") [u,.type C]) (rO X pins σ H G Q) X.xe s:=fun ho hc e ev=>by
  subst ev;cases ru;exact iP PySem.W.kitx_dict I.KC ⟨_,ho,hc⟩ (hl "dict" (by decide) e) (fun z=>nomatch z) fin
 have nZ:∀ P:String->Prop,(∀ C'∈["int","bool","list","tuple","dict","str"],P C')->P C:=fun P h=>h C hC;cases r with
 | cL =>
  cases ru;have e:k=("NoneType" == C||("NoneType" == "bool" && C == "int")):=by
   have:k=false:=(bu hk).symm;rw [this];exact nZ (fun C=>false=("NoneType" == C||("NoneType" == "bool" && C == "int"))) (by decide)
  exact iP PySem.W.kitx_none I.KC iD (hl _ (by decide) e) (fun z=>nomatch z) fin
 | bl y =>
  cases ru;have e:k=("bool" == C||("bool" == "bool" && C == "int")):=by
   have:k=(C == "bool" || C == "int"):=(bu hk).symm;rw [this];exact nZ (fun C=>(C == "bool" || C == "int")=("bool" == C||("bool" == "bool" && C == "int"))) (by decide)
  exact iP PySem.W.kitx_bool I.KC iD (hl _ (by decide) e) (fun z=>nomatch z) fin
 | int y =>
  obtain⟨t,rfl⟩:=ru;have e:k=("int" == C||("int" == "bool" && C == "int")):=by
   have:k=(C == "int"):=(bu hk).symm;rw [this];exact nZ (fun C=>(C == "int")=("int" == C||("int" == "bool" && C == "int"))) (by decide)
  exact iP PySem.W.kitx_int I.KC iD (hl _ (by decide) e) (fun z=>nomatch z) fin
 | str y =>
  obtain⟨t,rfl⟩:=ru;have e:k=("str" == C||("str" == "bool" && C == "int")):=by
   have:k=(C == "str"):=(bu hk).symm;rw [this];exact nZ (fun C=>(C == "str")=("str" == C||("str" == "bool" && C == "int"))) (by decide)
  exact iP PySem.W.kitx_str I.KC iD (hl _ (by decide) e) (fun z=>nomatch z) fin
 | tup hq rs =>
  cases ru;have e:k=("tuple" == C||("tuple" == "bool" && C == "int")):=by
   have:k=(C == "tuple"):=(bu hk).symm;rw [this];exact nZ (fun C=>(C == "tuple")=("tuple" == C||("tuple" == "bool" && C == "int"))) (by decide)
  obtain⟨bw,rv,⟨o,h1,h2,_⟩,hz⟩:=I.tuple (.of hq);exact iP PySem.W.kitx_tuple I.KC ⟨o,h1,h2⟩ (hl _ (by decide) e) (fun z=>nomatch z) fin
 | dJ hq rs =>
  obtain⟨bw,rv,pl,hz⟩:=I.list hq.sq;obtain⟨o,h1,h2,_⟩:=pl.isList;refine tl h1 h2 ?_ rfl;have:k=(C == "list"):=(bu hk).symm;rw [this];exact nZ (fun C=>(C == "list")=("list" == C||("list" == "bool" && C == "int"))) (by decide)
 | nV h rs =>
  have e:k=("dict" == C||("dict" == "bool" && C == "int")):=by
   have:k=(C == "dict"):=(bu hk).symm;rw [this];exact nZ (fun C=>(C == "dict")=("dict" == C||("dict" == "bool" && C == "int"))) (by decide)
  obtain⟨_,_,vs,_,ob,_,_,h1,h2,_⟩:=vc I.cz (.inr ⟨_,h⟩);exact td h1 h2.1 e rfl
 | nU h rs =>
  have e:k=("dict" == C||("dict" == "bool" && C == "int")):=by
   have:k=(C == "dict"):=(bu hk).symm;rw [this];exact nZ (fun C=>(C == "dict")=("dict" == C||("dict" == "bool" && C == "int"))) (by decide)
  obtain⟨_,_,ys,_,ob,_,_,h1,h2,_⟩:=w9 I.cz (.inr ⟨_,h⟩);exact td h1 h2.1 e rfl
 | exc h=>simp [X6] at hk
 | ref l =>
  unfold X6 at hk;dsimp only at hk;cases hg:G l with
  | none=>rw [hg] at hk; cases hk
  | some g =>
   rw [hg] at hk;cases g with
   | lst ds =>
    obtain⟨vs,hv,rs⟩:=ab.lst hg;obtain⟨bw,rv,pl,hz⟩:=I.list (.of hv);obtain⟨o,h1,h2,_⟩:=pl.isList;refine tl h1 h2 ?_ rfl;have:k=(C == "list"):=(bu hk).symm;rw [this];exact nZ (fun C=>(C == "list")=("list" == C||("list" == "bool" && C == "int"))) (by decide)
   | ja kvs =>
    have e:k=("dict" == C||("dict" == "bool" && C == "int")):=by
     have:k=(C == "dict"):=(bu hk).symm;rw [this];exact nZ (fun C=>(C == "dict")=("dict" == C||("dict" == "bool" && C == "int"))) (by decide)
    rcases ab l _ hg with ⟨kv,hv,rs⟩ | ⟨kv,hv,rs⟩
    ·obtain⟨_,_,vs,_,ob,_,_,h1,h2,_⟩:=K4 I.cz hv;exact td h1 h2.1 e rfl
    ·obtain⟨_,_,ys,_,ob,_,_,h1,h2,_⟩:=Qq I.cz hv;exact td h1 h2.1 e rfl
theorem Kk (C:String) (hC:C∈["int","bool","list","tuple","dict","str"]) {y:Str} {py:Pos} (hg:Gl X "isinstance") (hm:X.mg "isinstance" = none) (hgC:Gl X y) (hmC:X.mg y=none) (hvC:dR y=some (.type C)) (ha:gf X a ta) (hn:y≠"__name__":=by decide) (Mu:(y == ("__debug__" : Str))=false:=by decide)
  (he:bL [a,.Name y py] X.env=(false,eval a X.env) :: bL [.Name y py] X.env:=by rfl) (BH:(jr pos (bL [Expr.Name y py] X.env)).any (·.1)=false:=by rfl) (YA:bL [.Name y py] X.env=[(false,eval (.Name y py) X.env)]:=by rfl) :
  gf X (.Call (.Name "isinstance" p) [a,.Name y py] [] pos) (Tb C ta):=by
 intro E pins s σ H τ G Q hE I h;refine fK (lq I.inv hg hm PyProof.Rows.boot_isinstance ?_);refine ky ?_ he BH;rw [he];show wpAny _ _ (NK ((false,eval a X.env) :: jr pos (bL [.Name y py] X.env))) _ _ s;refine kO (j5 ha hE I h fun v H1 d G1 u s1 I1 m1 r1 iT q1=>?_);rw [YA];show wpAny _ _ (NK [(false,eval (.Name y py) X.env)]) _ _ s1;refine kO (lq I1.inv hgC hmC hvC (Calls.spliced_nil ?_) hn Mu)
 try dsimp only at q1
 split at q1
 ·rename_i k hk;exact fZ (Pw C hC I1.inv I1.ab r1 iT hk q1) fun _ _ z=>z.trans m1
 ·exact q1.elim
end
end K2
end
section
namespace K2
open PySem PySem.Spec PyProof.Rows L2
section
variable {X:Cx} {a b c e o:Expr} {es:List Expr} {ta tb tc te to:fC} {t:Gu} {pos p p2 apos jq:Pos} {x name:Str} {id T:String}
noncomputable def QY(X:Cx)(id:String)(r:D->List D->Gp->DK->Prop):Prop :=
 ∀ (pins:List (Addr×Obj)) (s:ar) (σ:L2.St) (H:Hp) (G:Gp) (x:V) (d:D) (xs:List V) (ds:List D) (v:Value) (us:List Value) (Q:DK),Inv X pins σ H s->lC X.K H G->RelV x v->cB X.K H x d->Vals xs us->bh X.K H xs ds->r d ds G Q ->
  wpAny (model X.prog X.w) X.A (call (.builtin id) (v :: us)) (rO X pins σ H G Q) X.xe s
noncomputable def Wn(X:Cx)(T:String)(ty:D->Gp->Prop):Prop:=∀ (pins:List (Addr×Obj)) (s:ar) (σ:L2.St) (H:Hp) (G:Gp) (x:V) (d:D) (v:Value),Inv X pins σ H s->lC X.K H G->RelV x v->cB X.K H x d->ty d G ->
  s.TypeIs v T/\∀ a,v=.ref a->∃ ob,s.heap.get? a=some ob/\ob.dict=none
theorem gk:Wn X "list" vN:=by
 intro pins s σ H G x d v I ab r rd h;cases rd with
 | dJ hq rs=>exact Co I r (.inl ⟨rfl,_,hq.sq⟩)
 | ref l =>
  unfold vN at h;dsimp only at h;split at h
  ·rename_i ds hg;obtain⟨vs,hv,rs⟩:=ab.lst hg;exact Co I r (.inl ⟨rfl,vs,.of hv⟩)
  ·exact h.elim
 | _=>exact bM h
theorem yh:Wn X "dict" Zn:=by
 intro pins s σ H G x d v I ab r rd h;cases rd with
 | nV q rs =>
  cases r;obtain⟨t1,t2,_⟩:=Px I (.inl ⟨_,.inr ⟨_,q⟩⟩);exact⟨t1,t2⟩
 | nU q rs =>
  cases r;obtain⟨t1,t2,_⟩:=Px I (.inr ⟨_,.inr ⟨_,q⟩⟩);exact⟨t1,t2⟩
 | ref l =>
  unfold Zn at h;dsimp only at h;split at h
  ·rename_i kvs hg;rcases ab l _ hg with ⟨kv,hv,rs⟩ | ⟨kv,hv,rs⟩
   ·exact Co I r (.inr (.inr (.inl ⟨rfl,.inl ⟨kv,hv⟩⟩)))
   ·exact Co I r (.inr (.inr (.inl ⟨rfl,.inr ⟨kv,hv⟩⟩)))
  ·exact h.elim
 | _=>exact bM h
theorem jM {ty:D->Gp->Prop} {r:D->List D->Gp->DK->Prop} (pa:PlainAttrs T) (slot:Slot T name id) (hty:typeOf (.builtin id)=pure (.type "method_descriptor")) (ht:Wn X T ty) (hm:QY X id r) (ho:gf X o to) (ha:Gv X (e :: es) t)
  (Ft:vS o name X.env (eval o X.env)=eval o X.env:=by rfl)
  (S0:((jr jq (bL (e :: es) X.env)).all (fun x=>!x.1)&&(backToKw jq (keywordEach [] X.env)).all (fun x=>x.1.isSome)
   && decide ((e :: es).length+([]:List NW).length+(if ([]:List NW).isEmpty then 0 else 1) < 30))=true:=by rfl)
  (Fq:(apos.endLine == jq.line)=true:=by rfl) (hs:bL (e :: es) X.env=(false,eval e X.env) :: bL es X.env:=by rfl) (IB:(jr jq (bL es X.env)).any (·.1)=false:=by rfl) :
  gf X (.Call (.Attribute o name apos) (e :: es) [] jq) (tN ty r to t):=by
 intro E pins s σ H τ G Q hE I h;refine wpAny_Call_method_late Ft S0 Fq rfl (j5 ho hE I h ?_);rintro x H1 d G1 v s1 I1 m1 r1 iT ⟨hy,q1⟩;obtain⟨h1,h2⟩:=ht pins s1 σ H1 G1 x d v I1.inv I1.ab r1 iT hy;refine⟨T,id,pa,slot,hty,h1,h2,?_⟩;have hA:=ha jq E pins s1 σ H1 τ G1 _ hE I1 q1;rw [hs] at hA ⊢;refine sL (by show (false||(jr jq (bL es X.env)).any (·.1))=false; rw [IB] <;> rfl) (Calls.evalArgs_plain ?_);exact fZ hA (by rintro us s2 ⟨vs,H2,ds,G2,mQ,m2,r2,xH,q2⟩; exact fZ (hm pins s2 σ H2 G2 x d vs ds v us Q mQ m2.ab r1 (iT.mono (m2.kp I1.ab)) r2 xH q2) fun _ _ z=>z.trans (m1.trans m2))
theorem mD:QY X "list.append" jO:=by
 intro pins s σ H G x d xs ds v us Q I ab rx rd UR Aq q;unfold jO at q;split at q
 ·rename_i l d';cases rd;obtain⟨w,rfl,rY⟩:=Aq.one;split at q
  ·rename_i zs hg;obtain⟨hz,q⟩:=q;obtain⟨vs,hv,rs⟩:=ab.lst hg;exact fZ (Bz pins s σ H _ _ v us (B6 X.K H G Q) I rx UR ⟨l,vs,w,rfl,rfl,hv,by rw [rs.length,cx]; exact hz,_,_,.putL ab hg hv (rs.append (.cons rY .nil)),.cL,q⟩) fun _ _ z=>.of z
  ·exact q.elim
 ·exact q.elim
theorem IS(l:Addr)(xs:Array Value)(n:Nat)(b:Addr)(ys:Array Value)(n2:Nat)(dd:Option Addr)(sl:Array (Option Value))(T7:¬(!xs.isEmpty&&jk (xs.size+ys.size))=true)(hx:xs.size<=bo)(hxy:xs.size+ys.size<=bo+1) :
  Meets (Builtin.«list.extend» ⟨[.ref l,.ref b],[]⟩) (fun _ R s=>s.heap.get? l=some { cls:=.type "list",dict:=none,data:=.seq xs n,slots:=#[] }/\s.heap.get? b=some { cls:=.type "list",dict:=dd,data:=.seq ys n2,slots:=sl }/\R (.ok (.ret dG)) { s with heap:=s.heap.update l (iL fun x=>x++ys),toks:=s.toks }) :=
 .of_wp fun prog w A R s h=>by
  obtain⟨hp,g,d,tk,os⟩:=s;obtain⟨h1,h2,h3⟩:=h;have e1:=AutoSeq1.idx_int;have e2:=pM;have e3:=Hj;have e4:=AutoSeq1.sub_tuple_list;have e5:=AutoSeq1.sub_list_tuple;have PK:(xs++ys).size<=bo+1:=by rw [Array.size_append]; exact hxy
  wp_walk using (x3 h1 rfl (hz:=hx) (_hz':=PK)),bI h1,bI h2
  exact⟨_,rfl,h3⟩
theorem o7:QY X "list.extend" lP:=by
 intro pins s σ H G x d xs ds v us Q I ab rx rd UR Aq q;unfold lP at q;split at q
 ·rename_i l y;cases rd;obtain⟨w,rfl,rY⟩:=Aq.one;obtain⟨u,rfl,ru⟩:=UR.one;split at q
  ·rename_i zs ys hg hg2;obtain⟨hz,q⟩:=q;obtain⟨vs,hv,rs⟩:=ab.lst hg;obtain⟨b,ws,r8,rfl,LN,Nq,hb,_⟩:=mJ I ab ru rY hg2;cases rx;obtain⟨z,bw,n,r,hl,e⟩:=I.XZ hv;obtain⟨⟨cl,dd,dt,sl⟩,ho,C8,n2,hdt⟩:=hb;simp only at C8 hdt;subst C8 hdt;have h1:=LN.length;have h2:=Nq.length;have h3:=rs.length;have h4:=r.length;have h5:bo=16777216:=cx;have h6:SZ=16777216:=rfl;have hsz:bw.toArray.size+r8.toArray.size<=bo:=by rw [aR,aR]; lia
   have T7:¬ (!bw.toArray.isEmpty&&jk (bw.toArray.size+r8.toArray.size))=true:=by
    rw [O5 hsz,JE];exact eT
   refine G0 F.slot_list_extend ⟨_,e,rfl⟩ F.entry_list_extend (F.args_list_extend_2 _ _) (IS l bw.toArray n b r8.toArray n2 dd sl T7 (by rw [aR]; lia) (by lia)) ⟨e,ho,?_⟩;refine⟨.cL,_,.cL,_,I.X0 (its':=bw++r8) hv e (by simp) (r.append LN) ?_,.putL ab hg hv (rs.append Nq),rfl,.cL,q⟩;rw [aw];lia
  ·exact q.elim
 ·exact q.elim
theorem rE (hu : X.A.units + 64 < cLine) : QY X "list.index" qN := by
  intro pins s σ H G x d xs ds v us Q I ab rx rd UR Aq q;unfold qN at q;split at q
  · rename_i d'
    obtain⟨hy, zs, sn, ss, hi, s1, s2, q⟩ := q;obtain⟨w, rfl, rY⟩ := Aq.one;obtain⟨u, rfl, ru⟩ := UR.one;have lists : ∃ l vs bw, v = .ref l ∧ Vals vs bw ∧ bh X.K H vs zs ∧ s.heap.IsList l bw.toArray ∧ vs.length ≤ bo := by
      cases rd with
      | dJ hq rs =>
        cases hi;cases rx;obtain⟨bw, rv, pl, hz⟩ := I.list hq.sq;exact⟨_, _, bw, rfl, rv, rs, pl.isList, hz⟩
      | ref l =>
        unfold itemsOf at hi;dsimp only at hi;cases hg : G l with
        | none => rw [hg] at hi; cases hi
        | some g =>
          rw [hg] at hi;cases g with
          | lst ds =>
            cases hi;cases rx;obtain⟨vs, hv, rs⟩ := ab.lst hg;obtain⟨bw, rv, pl, hz⟩ := I.list (.of hv);exact⟨_, _, bw, rfl, rv, rs, pl.isList, hz⟩
          | ja _ => cases hi
      | _ => exact bM hy
    obtain⟨l, vs, bw, rfl, rv, rs, hl, hz⟩ := lists;obtain⟨as, ra⟩ := (gQ I ab s1).1 w u rY ru;obtain⟨bs, rb⟩ := (gQ I ab s2).2 zs ss (.inl ⟨rfl, rfl⟩) vs bw rs rv;have d2 := K6 (n := 7) s2;have n2 : pO ss = true := s2.nr;have yZ := uI _ n2;have uP : X.A.units + 1 + min (cm (lI ss)) (pd sn).depth < cLine := by lia
    have OI : gy s.heap bw.toArray.toList (lI ss) bs := by simpa using rb
    have mp := SeqAt.readsAll_map _ _ _ yZ OI;split at q
    · rename_i k hk
      obtain⟨oj, ab8, VQ⟩ := List.findIdx?_eq_some_iff_getElem.mp hk;have pdl : ∀ (zz : List D), (lI zz).length = zz.length := by
        intro zz;induction zz with
        | nil => rfl
        | cons a r ih => exact congrArg Nat.succ ih
      have hlen : bw.length = ss.length := by
        have := congrArg cV mp;rw [ag, pdl] at this;simpa using this
      have at_ : ∀ (m : Nat) (h1 : m < bw.toArray.size) (h2 : m < ss.length), tS (AZ s.heap bw.toArray[m]) (pd sn) = ic ss[m] sn := by
        intro m h1 h2;have e1 : (bw.toArray.toList.map (AZ s.heap))[m]? = (lI ss)[m]? := by rw [mp]
        have pdg : ∀ (zz : List D) (m : Nat) (h : m < zz.length), (lI zz)[m]? = some (pd zz[m]) := by
          intro zz;induction zz with
          | nil => intro m h; simp at h
          | cons a r ih => intro m h; cases m with
            | zero => rfl
            | succ m => exact ih m (tT h)
        rw [pdg ss m h2] at e1;have YN : m < bw.length := by simpa using h1
        have e2 : AZ s.heap bw.toArray[m] = pd ss[m] := by
          simpa [YN] using e1
        rw [e2];have nrm : nr ss[m] = true := by
          have : ∀ (zz : List D) (m : Nat) (h : m < zz.length), pO zz = true -> nr zz[m] = true := by
            intro zz;induction zz with
            | nil => intro m h; simp at h
            | cons a r ih => intro m h hn; have Mp : nr a = true ∧ pO r = true := (jB).mp hn
                             cases m with
                             | zero => exact Mp.1
                             | succ m => exact ih m (by simpa using h) Mp.2
          exact this ss m h2 n2
        exact tm _ _ nrm s1.nr
      have sz : bo = 16777216 := cx;have hvl : vs.length = bw.length := rv.length;obtain⟨⟨cls, dd, data, sl⟩, ho, hc, n, hd⟩ := id hl;simp only at hc hd;subst hc hd;have SW : k < bw.toArray.size := by rw [aR]; lia
      refine G0 gT ⟨_, ho, rfl⟩ PySem.F.entry_list_index (PySem.F.args_list_index_2 _ _)
        (SeqAt.list_indexAt l bw.toArray n dd sl u (fun y => tS (AZ s.heap y) (pd sn)) k SW (by lia) ?_ ?_) ⟨ho, mS OI ra yZ (jP _ s1.nr) uP, ?_⟩
      · rw [at_ k SW oj]; exact ab8
      · intro m hm Yo
        have Yr : m < ss.length := by lia
        rw [at_ m hm Yr];simpa using VQ m Yo
      · exact⟨.int k, H, .int k, G, I.tok _, .refl ab, ⟨_, rfl⟩, .int _, q⟩
    · exact q.elim
  · exact q.elim
theorem ux:gf X (.Dict [] [] pos) xq:=by
 intro E pins s σ H τ G Q hE I h;exact fZ (OX pins s σ H (B6 X.K H G Q) I.inv fun p hp=>⟨_,_,.new I.ab hp (.dk cJ .nil),.ref _,h p (I.ab.free hp)⟩) fun _ _ z=>.of z
end
end K2
end
section
namespace K2
open PySem PySem.Spec PyProof.Rows L2
noncomputable def fS(env:Env):List (Str×sk)->List (Str×Addr)->List (Str×Addr)
 | [],acc=>acc
 | (n,k) :: r,acc=>if k=.free then fS env r ((n,(env.cells.lookup n).getD 0) :: acc) else fS env r acc
theorem tD(env:Env)(f:Str×sk->List (Str×Addr)->Sem (ForInStep (List (Str×Addr))))(hf:∀ n k c,f (n,k) c=if (k == j9)=true then (cellOf env n >>= fun a=>pure (rT ((n,a) :: c))) else pure (rT c)) :
  ∀ (ns:List (Str×sk)) (acc:List (Str×Addr)),(∀ x∈ns,x.2=.free->∃ c,env.cells.lookup x.1=some c)->forIn ns acc f=(pure (fS env ns acc):Sem (List (Str×Addr)))
 | [],acc,_=>rfl
 | (n,k) :: r,acc,h=>by
  rw [List.forIn_cons,hf];have hr:∀ x∈r,x.2=.free->∃ c,env.cells.lookup x.1=some c:=fun x hx=>h x (ao _ hx);by_cases hk:k=.free
  ·subst hk;obtain⟨c,hc⟩:=h (n,.free) aB rfl;have ec:cellOf env n=pure c:=by unfold cellOf; rw [hc]
   rw [if_pos (by decide),ec,pure_bind,pure_bind];show forIn r ((n,c) :: acc) f=_;rw [tD env f hf r _ hr];show _=(pure (fS env ((n,.free) :: r) acc):Sem (List (Str×Addr)));rw [fS,if_pos rfl,hc]; rfl
  ·rw [if_neg (by simpa using hk),pure_bind];show forIn r acc f=_;rw [tD env f hf r _ hr];show _=(pure (fS env ((n,k) :: r) acc):Sem (List (Str×Addr)));rw [fS,if_neg hk]
theorem AP{env:Env}{scope:Scope}(h:∀ x∈scope.names,x.2=.free->∃ c,env.cells.lookup x.1=some c):closureFor scope env=pure (fS env scope.names []):=by
 unfold closureFor;dsimp only;rw [tD env _ (fun n k c=>?_) scope.names [] h]
 ·rfl
 ·by_cases hk:(k == j9)=true
  ·simp only [hk,if_true]
  ·simp only [hk,if_false,aQ]
theorem tY{env:Env}{x:Str}{c:Addr}:∀ {ns:List (Str×sk)} {acc:List (Str×Addr)},(∀ y∈ns,y.2=.free->∃ c,env.cells.lookup y.1=some c)->(∀ y c,acc.lookup y=some c->env.cells.lookup y=some c)->(fS env ns acc).lookup x=some c->env.cells.lookup x=some c
 | [],_,_,ha,e=>ha _ _ e
 | (n,k) :: r,acc,h,ha,e=>by
  have hr:∀ y∈r,y.2=.free->∃ c,env.cells.lookup y.1=some c:=fun y hy=>h y (ao _ hy);unfold fS at e;by_cases hk:k=.free
  ·rw [if_pos hk] at e;refine tY hr (fun y c' q=>?_) e;rw [DY] at q;by_cases hy:(y == n)=true
   ·rw [hy] at q;have e1:y=n:=eq_of_beq hy;subst e1;obtain⟨c0,hc0⟩:=h (y,k) aB hk;rw [hc0] at q ⊢;exact q
   ·have T1:(y == n)=false:=by simpa using hy
    rw [T1] at q;exact ha y c' q
  ·rw [if_neg hk] at e;exact tY hr ha e
theorem oX{env:Env}{x:Str}:∀ {ns:List (Str×sk)} {acc:List (Str×Addr)},((x,j9)∈ns\/∃ c,acc.lookup x=some c)->∃ c,(fS env ns acc).lookup x=some c
 | [],_,h=>by rcases h with h | h; exact absurd h (by simp); exact h
 | (n,k) :: r,acc,h=>by
  unfold fS;have grow:∀ a,(∃ c,acc.lookup x=some c)->∃ c,((n,a) :: acc).lookup x=some c:=fun a VM=>by
   obtain⟨c,hc⟩:=VM;rw [DY];by_cases hy:(x == n)=true
   ·rw [hy]; exact⟨_,rfl⟩
   ·have T1:(x == n)=false:=by simpa using hy
    rw [T1]; exact⟨c,hc⟩
  by_cases hk:k=.free
  ·rw [if_pos hk];refine oX ?_;rcases h with h | h
   ·rcases List.mem_cons.mp h with e | h
    ·injection e with e1 e2
     subst e1;exact .inr ⟨(env.cells.lookup x).getD 0,by rw [DY]; simp⟩
    ·exact .inl h
   ·exact .inr (grow _ h)
  ·rw [if_neg hk];refine oX ?_;rcases h with h | h
   ·rcases List.mem_cons.mp h with e | h
    ·injection e with e1 e2
     exact absurd e2.symm hk
    ·exact .inl h
   ·exact .inr h
noncomputable abbrev dU(X:Cx)(N:List Str)(scope:Scope)(C:Addr)(s:ar)(H:Hp)(fp:List Addr):Cx :=
 { X with env:=compEnvC scope (fS X.env scope.names []) C X.env,N:=N,mV:=s,Q0:=H,outer:=X.stack,stack:=X.stack,ex:=fp,fn:=fun _=>false,pn:=[],xe:=fun _ _=>False }
theorem uf{scope:Scope}{env:Env}{x:Str}(h:(GX scope env).names.lookup x=some .cell\/(GX scope env).names.lookup x=some .free)(pP:∀ y∈scope.names,y.2≠.cell):(x,j9)∈scope.names:=by
 have go:∀ k,(GX scope env).names.lookup x=some k->k=.cell\/k=.free->(x,j9)∈scope.names:=by
  intro k hk hkk;have hm:=hU hk;unfold GX at hm;dsimp only at hm;obtain⟨⟨n,j⟩,hj,e⟩:=List.mem_map.mp hm;dsimp only at e;by_cases hc:(j == j9&&env.scope.kind == .function&&env.kindOf n == some .cell)=true
  ·rw [if_pos hc] at e;rw [aN,aN] at hc;injection e with e1 e2
   have ej:j=.free:=eq_of_beq hc.1.1;rw [ej,e1] at hj;exact hj
  ·rw [if_neg hc] at e;injection e with e1 e2
   subst e1;rcases hkk with r | r
   ·exact absurd (e2.trans r) (pP _ hj)
   ·rw [e2.trans r] at hj; exact hj
 rcases h with h | h
 ·exact go _ h (.inl rfl)
 ·exact go _ h (.inr rfl)
section
variable {X:Cx} {N:List Str} {scope:Scope} {fp:List Addr} {pins:List (Addr×Obj)} {σ:L2.St} {H:Hp} {s:ar} {C:Addr}
theorem V9(I:Inv X pins σ H s)(pP:∀ y∈scope.names,y.2≠.cell)(BJ:scope.kind=.function)(uR:∀ y∈scope.names,y.2=.free->X.env.kindOf y.1=some .cell)(hC:s.heap.objs.size<=C)(Yy:∀ b∈fp,ng X pins H b/\b < s.heap.objs.size):(dU X N scope C s H fp).Ok:=by
 have C8:∀ y∈scope.names,y.2=.free->∃ c,X.env.cells.lookup y.1=some c:=fun y hy hf=>I.ok.has _ (.inl (uR y hy hf));have UC:∀ x c,(fS X.env scope.names []).lookup x=some c->X.env.cells.lookup x=some c:=fun x c e=>tY C8 (fun y c q=>by simp at q) e;refine⟨I.ok.mod,BJ,I.ok.glob,I.ok.blt,hC,fun x y c h1 h2=>I.ok.inj x y c (UC x c h1) (UC y c h2),fun x hx=>?_,fun x c h=>absurd h (by simp),I.ok.hd,I.ok.frames,.inl rfl,fun b hb=>?_,I.bs,cC I.ok.Tn I.sz,fun b o e hb=>?_,fun b hb=>?_,I.stack,I.JO⟩
 ·exact oX (.inl (uf hx pP))
 ·obtain⟨⟨f0,f1,f2,f3,f4,f5⟩,oj⟩:=Yy b hb;exact⟨bB (bJ oj hC),fun x c e=>f4 x c (UC x c e)⟩
 ·obtain⟨⟨f0,f1,f2,f3,f4,f5⟩,oj⟩:=Yy b hb;rcases f3 with f3 | f3
  ·exact I.ok.L8 b o e f3
  ·exact absurd (bJ (aL e) (cC I.ok.Tn f3)) (eU _)
 ·obtain⟨⟨f0,f1,f2,f3,f4,f5⟩,oj⟩:=Yy b hb;intro z;rcases List.mem_cons.mp (I.Hz b z) with e | e
  ·exact f1 e
  ·exact f2 e
theorem Tf{pY:Heap}{m:Nat}{fr:List Nat}{tk:Nat}(I:Inv X pins σ H s)(ok:(dU X N scope s.heap.objs.size s H fp).Ok)(VT:∀ y∈scope.names,y.2≠.cell)(uR:∀ y∈scope.names,y.2=.free->X.env.kindOf y.1=some .cell)(hN:N.length=m+fr.length)
  (hfr:∀ j i x,fr[j]?=some i->N[m+j]?=some x->X.N[i]?=some x/\X.env.scope.names.lookup x=some .cell/\(GX scope X.env).names.lookup x=some .cell) (Rl:∃ mm,pY.Ns s.heap.objs.size mm) (hk:∀ b o,s.heap.get? b=some o->pY.get? b=some o) :
  Inv (dU X N scope s.heap.objs.size s H fp) [] (aK m none++fr.map fun i=>(σ[i]?).getD none) H { s with heap:=pY,toks:=tk }:=by
 have C8:∀ y∈scope.names,y.2=.free->∃ c,X.env.cells.lookup y.1=some c:=fun y hy hf=>I.ok.has _ (.inl (uR y hy hf));have UC:∀ x c,(fS X.env scope.names []).lookup x=some c->X.env.cells.lookup x=some c:=fun x c e=>tY C8 (fun y c q=>by simp at q) e;obtain⟨mm,Rl⟩:=Rl;refine⟨ok,rfl,I.bare,Un.kept hk,⟨mm,Rl,fun i x v h1 h2 h3=>?_⟩,fun x c e=>?_,I.cz.fresh (aC _),fun x c e=>?_,fun p hp=>absurd hp (by simp),I.cz.kept hk,?_⟩
 ·by_cases hi:i < m
  ·rw [dq (by simpa using hi),h8] at h2;split at h2 <;> cases h2
  ·obtain⟨j,rfl⟩:∃ j,i=m+j:=⟨i - m,by lia⟩;rw [cA (by simp),da,sI,aX] at h2;cases hj:fr[j]? with
   | none=>rw [hj] at h2; cases h2
   | some k =>
    rw [hj] at h2;have Mw:(σ[k]?).getD none=some v:=by simpa using h2
    have Rn:σ[k]?=some (some v):=by
     cases q:σ[k]? with
     | none=>rw [q] at Mw; cases Mw
     | some o=>rw [q] at Mw; simp at Mw; rw [Mw]
    obtain⟨e1,e2,e3⟩:=hfr j k x hj h1;obtain⟨m0,hn0,hl0⟩:=I.loc;obtain⟨u,r,l⟩:=hl0 k x v e1 Rn (.inr (.inl e2));refine⟨u,r,.inr ⟨.inl e3,?_⟩⟩;rcases l with ⟨l1,_⟩ | ⟨_,c,hc,pP⟩
    ·have:X.env.scope.names.lookup x=some .local:=l1;rw [e2] at this; cases this
    ·have hx:(x,j9)∈scope.names:=uf (.inl e3) VT;obtain⟨c',Ub⟩:=oX (env:=X.env) (x:=x) (ns:=scope.names) (acc:=[]) (.inl hx);have:=UC x c' Ub;rw [hc] at this;have ec:c=c':=bu this;subst ec;obtain⟨oc,WG,hd⟩:=pP;exact⟨c,Ub,oc,hk _ _ WG,hd⟩
 ·obtain⟨v,oc,WG,hd⟩:=I.cell x c (UC x c e);exact⟨v,oc,hk _ _ WG,hd⟩
 ·exact I.mG x c (UC x c e)
 ·rw [aw,da,ag];exact hN.symm
theorem DA{prog:bE}{w:World}{A:c8}{R:Result->ar->Prop}{s:ar}{elt target iter:Expr}{ifs:List Expr}{sc:Scope}{pos:Pos}{it acc:Value}{env:Env}(J:Nat->ar->Prop)
  (turn:∀ n s,J n s->wpAny (model prog w) A (nh it) (fun r eR=>match r with
   | none=>R (.ok .next) eR
   | some v=>wpAny (model prog w) A (x6 target it v) (fun _ Xa=>wpAny (model prog w) A (NQ target env v) (fun _ iX =>
     wpAny (model prog w) A (forIn ifs true fun c r=>if r=true then do let ok ← isTrue c env (eval c env); pure (rT ok) else pure (rT r)) (fun k Of =>
      if k=true then wpAny (model prog w) A (eval elt env) (fun x LH=>wpAny (model prog w) A (call (.builtin "list.append") [acc,x]) (fun _ Oe=>∃ m,m < n/\J m Oe) (fun _ _=>False) LH) (fun _ _=>False) Of
      else ∃ m,m < n/\J m Of) (fun _ _=>False) iX) (fun _ _=>False) Xa) (fun _ _=>False) eR) (fun _ _=>False) s) (n:Nat) (h:J n s) :
  vQ (model prog w) A (.compLoop (.ListComp elt [⟨target,iter,ifs,0⟩] sc pos) 0 it acc env) R s:=by
 have no:∀ {α:Type} {t:Sem α} {Q:α->ar->Prop} {E:Value->ar->Prop} {s:ar},wpAny (model prog w) A t Q (fun _ _=>False) s->wpAny (model prog w) A t Q E s:=fun h=>jc h (fun _ _ q=>q) fun _ _ z=>z.elim;refine codeAny_loop rfl J (fun n s hJ=>?_) n h;show wpAny _ A ((compTurn (.ListComp elt [⟨target,iter,ifs,0⟩] sc pos) 0 it acc env).onRaise (fun x=>do noteFrame x env; theTreesLotGoes x)) _ _ s;refine wpAny_noted ?_;rw [compTurn_list];refine ae (D7 (ae (fZ (no (turn n s hJ)) fun r eR pY=>?_)));cases r with
 | none=>exact aj pY
 | some v =>
  refine ae (fZ (no pY) fun _ iX Iz=>ae (fZ (no Iz) fun _ Of abv=>ae (fZ (no abv) fun k LH X8=>?_)));cases k with
  | false=>exact aj ⟨rfl,X8⟩
  | true=>exact ae (ae (fZ (no X8) fun x Oe abu=>ae (fZ (no abu) fun _ aeo abt=>aj (aj ⟨rfl,abt⟩))))
noncomputable def CompEnd(X:Cx)(pins:List (Addr×Obj))(σ:L2.St)(H:Hp)(G:Gp)(Q:DK)(C Dd:Addr)(s':ar):Prop :=
 ∃ m H' G',Inv X pins σ H' s'/\s'.heap.Ns C m/\ng X pins H' C/\Mv X.K H G H' G'/\Q (.ref Dd) G'
inductive Wr (Xc:Cx):List Expr->Option x2->Prop
 | none:Wr Xc [] none
 | some {c:Expr} {t:x2}:Lp Xc c t->Wr Xc [c] (some t)
theorem BY{τ:gS}{G G2:Gp}{H2:Hp}{s2:ar}{tg elt iter:Expr}{ifs:List Expr}{pos:Pos}{m:Nat}{fr:List Nat}{E:lb}{g:AQ}{c:Option x2}{te:fC}{J:It}{tn:Nat->Heap->Prop}{it:Addr}{ds:List D}{ok:Gp->Prop}{Q:DK}{Rr:Value->Addr->Result->ar->Prop}{E0:Value->ar->Prop}
  (hc:X.calm=true) (pP:∀ y∈scope.names,y.2≠.cell) (BJ:scope.kind=.function) (uR:∀ y∈scope.names,y.2=.free->X.env.kindOf y.1=some .cell) (hN:N.length=m+fr.length)
  (hfr:∀ j i x,fr[j]?=some i->N[m+j]?=some x->X.N[i]?=some x/\X.env.scope.names.lookup x=some .cell/\(GX scope X.env).names.lookup x=some .cell)
  (hg:∀ C s H fp,NA (dU X N scope C s H fp) tg g) (hi:∀ C s H fp,Wr (dU X N scope C s H fp) ifs c) (he:∀ C s H fp,gf (dU X N scope C s H fp) elt te)
  (I:I2 X pins σ H2 τ G2 s2) (m2:Mv X.K H G H2 G2) (T:Turn X.prog X.w X.K tg J fp it tn) (Np:tn 0 s2.heap) (f2:∀ b∈fp,ng X pins H2 b) (wk:Ul X.K J H2 ds ok) (hz:ds.length<=SZ)
  (hE0:∀ ex G,¬ E ex G) (q:iS g c te ok ds E (zH m fr τ) G2 [] fun xs G3=>jb G3 (.lst xs) Q)
  (fin:∀ C s',CompEnd X pins σ H G Q C s2.heap.objs.size s'->Rr (.ref s2.heap.objs.size) C (.ok .next) s') :
  wpAny (model X.prog X.w) X.A (newList []) (fun acc Of=>wpAny (model X.prog X.w) X.A (newFunctionEnv scope X.env.globals (fS X.env scope.names []) [] X.env.qual none .none (some X.env)) (fun Y6 LH =>
   vQ (model X.prog X.w) X.A (.compStart (.ListComp elt [⟨tg,iter,ifs,0⟩] scope pos) 0 (.ref it) acc { Y6 with scope:=GX scope X.env }) (Rr acc Y6.locals) LH) E0 Of) E0 s2:=by
 have sz:bo=16777216:=cx;have wt:H2 s2.heap.objs.size=none:=I.inv.cz.fresh (aC _);have V0:G2 s2.heap.objs.size=none:=I.ab.free wt;refine cD (wpAny_newFunctionEnv pP (by intro y hy; simp at hy) (fun pY PR PN=>?_) BJ);dsimp only at PR PN ⊢;have I3:Inv X pins σ (upd H2 s2.heap.objs.size (.lst [])) { s2 with heap:=s2.heap.push { cls:=.type "list",data:=.seq ([]:List Value).toArray },toks:=s2.toks }:=I.inv.abm (ys:=[]) .nil (cb _);generalize hs3:({ s2 with heap:=s2.heap.push { cls:=.type "list",data:=.seq ([]:List Value).toArray },toks:=s2.toks }:ar)=s3 at I3;generalize YL:upd H2 s2.heap.objs.size (.lst [])=H3 at I3;have eH3:∀ b,b≠s2.heap.objs.size->H3 b=H2 b:=fun b hb=>by rw [<-YL,bN hb]
 have Fs:s3.heap=s2.heap.push { cls:=.type "list",data:=.seq ([]:List Value).toArray }:=by rw [<-hs3]
 have Xj:s3.heap.objs.size=s2.heap.objs.size+1:=by rw [Fs,iE]
 have PT:∀ b∈fp,b < s2.heap.objs.size:=fun b hb=>by
  obtain⟨o,e,_⟩:=T.obj _ _ Np b hb;exact aL e
 have Yx:∀ b∈fp,ng X pins H3 b/\b < s3.heap.objs.size:=fun b hb=>by
  have ZO:=PT b hb;obtain⟨f0,f1⟩:=f2 b hb;exact⟨⟨by rw [eH3 b (bB ZO)]; exact f0,f1⟩,bJ ZO (by rw [Xj]; exact He _)⟩
 have Zw:(dU X N scope s3.heap.objs.size s3 H3 fp).Ok:=V9 I3 pP BJ uR (aC _) Yx;have T9:∀ b o,s3.heap.get? b=some o->pY.get? b=some o:=fun b o e=>by
  have hb:b < s3.heap.objs.size:=aL e;refine PN.extBut b o ?_ (aE _ ?_)
  ·rw [<-Fs]; exact bB hb
  ·rw [<-Fs]; exact e
 have abV:∃ mm,pY.Ns s3.heap.objs.size mm:=⟨_,by rw [Fs]; exact PR⟩;have I4:=Tf (tk:=s3.toks+([]:List (Str×Value)).length) I3 Zw pP uR hN hfr abV T9;have abp:Kp H2 H3:=by rw [<-YL]; exact .new wt
 have Nz:lC X.K H3 G2:=by rw [<-YL]; exact(Mv.Nt I.ab wt).ab
 have mv3:Mv X.K H2 G2 H3 G2:=by rw [<-YL]; exact .Nt I.ab wt
 have Zs:NF X.K H3 (aK m none++fr.map fun i=>(σ[i]?).getD none) (zH m fr τ):=by
  refine⟨by unfold zH; rw [aw,aw,ag,ag,da,da],fun i d h2=>?_⟩;unfold zH at h2;by_cases hi:i < m
  ·rw [dq (by simpa using hi),h8] at h2;split at h2 <;> cases h2
  ·obtain⟨j,rfl⟩:∃ j,i=m+j:=⟨i - m,by lia⟩;rw [cA (by simp),da,sI,aX] at h2;rw [cA (by simp),da,sI,aX];cases hj:fr[j]? with
   | none=>rw [hj] at h2; cases h2
   | some k =>
    rw [hj] at h2;have Mw:(τ[k]?).getD none=some d:=by simpa using h2
    have Rn:τ[k]?=some (some d):=by
     cases qq:τ[k]? with
     | none=>rw [qq] at Mw; cases Mw
     | some o=>rw [qq] at Mw; simp at Mw; rw [Mw]
    obtain⟨v,e1,e2⟩:=I.st.at' k d Rn;exact⟨v,by simp [e1],e2.mono abp⟩
 have hD3:H3 s2.heap.objs.size=some (.lst []):=by rw [<-YL,cJ]
 have Xf:tn 0 pY:=T.keep _ _ _ Np fun b hb o e=>T9 b o (by rw [Fs]; exact aE _ e);have Ol:∀ {Hc:Hp},(∀ b∈fp,Hc b=none)->∀ b∈fp,ng (dU X N scope s3.heap.objs.size s3 H3 fp) [] Hc b:=fun hn b hb =>
  ⟨hn b hb,(Zw.ZT b hb).1,Zw.Qj b hb,.inl hb,fun x c e=>(Zw.ZT b hb).2 x c e,fun p hp=>absurd hp (by simp)⟩
 have neD:∀ b∈fp,b≠s2.heap.objs.size:=fun b hb=>bB (PT b hb);have loop:vQ (model X.prog X.w) X.A (.compLoop (.ListComp elt [⟨tg,iter,ifs,0⟩] scope pos) 0 (.ref it) (.ref s2.heap.objs.size) (dU X N scope s3.heap.objs.size s3 H3 fp).env) (Rr (.ref s2.heap.objs.size) s3.heap.objs.size)
   { s3 with heap:=pY,toks:=s3.toks+([]:List (Str×Value)).length }:=by
  refine DA (fun n s'=>∃ i Q9 Hc NZ Gc tF vw,I2 (dU X N scope s3.heap.objs.size s3 H3 fp) [] Q9 Hc NZ Gc s'/\Gc s2.heap.objs.size=none/\Hc s2.heap.objs.size=some (.lst tF)/\bh X.K Hc tF vw/\vw.length<=i/\Mv X.K H2 G2 Hc Gc/\tn i s'.heap/\(∀ b∈fp,Hc b=none) /\
   n=ds.length - i/\i<=ds.length/\iS g c te ok (ds.drop i) E NZ Gc vw fun xs G3=>jb G3 (.lst xs) Q) ?_ ds.length
   ⟨0,_,H3,_,G2,[],[],⟨I4,Zs,Nz⟩,V0,hD3,.nil,aC _,mv3,Xf,fun b hb=>by rw [eH3 b (neD b hb)]; exact(f2 b hb).1,rfl,cb _,q⟩
  rintro n s4 ⟨i,Q9,Hc,NZ,Gc,tF,vw,Ic,gD,hD,rA,hA,mc,stc,frc,rfl,hle,wq⟩;have kpc:Kp H2 Hc:=mc.kp I.ab;by_cases oj:i < ds.length
  ·rw [fj oj] at wq;obtain⟨okG,wq⟩:=wq;obtain⟨go,yl⟩:=(wk i Hc Gc kpc Ic.ab okG).1 ds[i] (by simp [oj]);refine fZ (T.item (dU X N scope s3.heap.objs.size s3 H3 fp) rfl rfl rfl hc i [] s4 Q9 Hc (fun _ _=>False) Ic.inv (Ol frc) stc go) ?_;rintro r s5 ⟨u,hr,h5⟩;subst hr;refine fZ h5 ?_;rintro _ s6 ⟨x,H6,I6,r6,y6,st6,fr6⟩;obtain⟨rd6,m6⟩:=yl x H6 y6;have I6':=I6.pinned (Ol fr6) (T.obj _ _ st6);have J6:I2 (dU X N scope s3.heap.objs.size s3 H3 fp) ([]++mB fp s6.heap) Q9 H6 NZ Gc s6:=⟨I6',Ic.st.mono (m6.kp Ic.ab),m6.ab⟩;have back:∀ {σ9:L2.St} {H9:Hp} {Zl:gS} {G9:Gp} {s9:ar} {aV:List V} {aD:List D},I2 (dU X N scope s3.heap.objs.size s3 H3 fp) ([]++mB fp s6.heap) σ9 H9 Zl G9 s9->Mv X.K H2 G2 H9 G9->G9 s2.heap.objs.size=none->H9 s2.heap.objs.size=some (.lst aV)->bh X.K H9 aV aD->aD.length<=i+1 ->
     (iS g c te ok (ds.drop (i+1)) E Zl G9 aD fun xs G3=>jb G3 (.lst xs) Q)->∃ mm,mm < ds.length - i/\∃ i Q9 Hc NZ Gc tF vw,I2 (dU X N scope s3.heap.objs.size s3 H3 fp) [] Q9 Hc NZ Gc s9/\Gc s2.heap.objs.size=none/\Hc s2.heap.objs.size=some (.lst tF)/\bh X.K Hc tF vw/\vw.length<=i /\
      Mv X.K H2 G2 Hc Gc/\tn i s9.heap/\(∀ b∈fp,Hc b=none)/\mm=ds.length - i/\i<=ds.length/\iS g c te ok (ds.drop i) E NZ Gc vw fun xs G3=>jb G3 (.lst xs) Q:=fun {σ9 H9 Zl G9 s9 aV aD} I9 m9 g9 h9 r9 l9 n9=>by
    refine⟨ds.length - (i+1),by lia,i+1,σ9,H9,Zl,G9,aV,aD,⟨I9.inv.qt,I9.st,I9.ab⟩,g9,h9,r9,l9,m9,T.keep _ _ _ st6 fun b hb o e=>(I9.inv.pin (b,o) (bb _ (bb _ (ko hb e)))).1,fun b hb=>?_,rfl,oj,n9⟩;obtain⟨o,e,d⟩:=T.obj _ _ st6 b hb;exact(I9.inv.pin (b,o) (bb _ (bb _ (ko hb e)))).2.1
   have mc6:=mc.trans m6;have hD6:=m6.keep _ _ hD gD;refine fZ (hg _ _ _ _ E _ s6 Q9 H6 NZ Gc x ds[i] u _ (Lk.none hE0) J6 r6 rd6 wq) ?_;rintro _ s7 ⟨Nm,H7,Nl,G7,I7,m7,q7⟩;have ZS:=m7.keep _ _ hD6.1 gD;have mc7:=mc6.trans m7;have rA7:=rA.mono ((m6.trans m7).kp Ic.ab);have YY:∀ (H8:Hp) (G8:Gp) (s8:ar),I2 (dU X N scope s3.heap.objs.size s3 H3 fp) ([]++mB fp s6.heap) Nm H8 Nl G8 s8->Mv X.K H7 G7 H8 G8->(te E Nl G8 fun y G9=>iS g c te ok (ds.drop (i+1)) E Nl G9 (vw++[y]) fun xs G3=>jb G3 (.lst xs) Q) ->
     wpAny (model X.prog X.w) X.A (eval elt (dU X N scope s3.heap.objs.size s3 H3 fp).env) (fun y LH=>wpAny (model X.prog X.w) X.A (call (.builtin "list.append") [.ref s2.heap.objs.size,y]) (fun _ Oe=>∃ mm,mm < ds.length - i/\∃ i Q9 Hc NZ Gc tF vw,I2 (dU X N scope s3.heap.objs.size s3 H3 fp) [] Q9 Hc NZ Gc Oe/\Gc s2.heap.objs.size=none/\Hc s2.heap.objs.size=some (.lst tF)/\bh X.K Hc tF vw/\vw.length<=i /\
      Mv X.K H2 G2 Hc Gc/\tn i Oe.heap/\(∀ b∈fp,Hc b=none)/\mm=ds.length - i/\i<=ds.length/\iS g c te ok (ds.drop i) E NZ Gc vw fun xs G3=>jb G3 (.lst xs) Q) (fun _ _=>False) LH) (fun _ _=>False) s8:=fun H8 G8 s8 I8 m8 q8=>by
    refine j5 (he _ _ _ _) (Lk.none hE0) I8 q8 fun v H9 d9 G9 u9 s9 I9 m9 r9 rd9 q9=>?_;have m79:=m8.trans m9;have ZR:=m79.keep _ _ ZS.1 ZS.2;have rA9:=rA7.mono (m79.kp I7.ab);have mc9:=mc7.trans m79;refine fZ (Bz (X:=dU X N scope s3.heap.objs.size s3 H3 fp) _ s9 Nm H9 (.ref s2.heap.objs.size) [v] _ [u9] (fun _ H'=>H'=upd H9 s2.heap.objs.size (.lst (tF++[v]))) I9.inv rfl (.cons r9 .nil)
     ⟨_,tF,v,rfl,rfl,ZR.1,by rw [rA.length,sz]; have:SZ=16777216:=rfl; lia,rfl⟩) ?_
    rintro _ s10 ⟨v10,H10,I10,_,e10⟩;subst e10;have kpA:Kp H9 (upd H9 s2.heap.objs.size (.lst (tF++[v]))):=.putL ZR.1;have abA:lC X.K (upd H9 s2.heap.objs.size (.lst (tF++[v]))) G9:=fun a g' e=>by
     have ne:a≠s2.heap.objs.size:=by rintro rfl; rw [ZR.2] at e; cases e
     exact(I9.ab a g' e).mono kpA (bN ne)
    have mA:Mv X.K H2 G2 (upd H9 s2.heap.objs.size (.lst (tF++[v]))) G9:=⟨fun a o e n=>by
      have ne:a≠s2.heap.objs.size:=eF e wt;obtain⟨e1,e2⟩:=mc9.keep a o e n;exact⟨by rw [bN ne]; exact e1,e2⟩,fun a n=>by
      by_cases ha:a=s2.heap.objs.size
      ·rw [ha,cJ]; simp
      ·rw [bN ha]; exact mc9.mW a n,abA⟩
    exact back ⟨I10,I9.st.mono kpA,abA⟩ mA ZR.2 cJ ((rA9.append (.cons rd9 .nil)).mono kpA) (by rw [aw,bF]; lia) q9
   cases hi s3.heap.objs.size s3 H3 fp with
   | none =>
    refine wpAny_tests_nil ?_;rw [if_pos rfl];exact YY H7 G7 s7 I7 (.refl I7.ab) q7
   | some YE =>
    refine wpAny_tests_one (RU YE (Lk.none hE0) I7 q7 fun k H8 G8 s8 I8 m8 q8=>?_);cases k with
    | true =>
     rw [if_pos rfl] at q8 ⊢;exact YY H8 G8 s8 I8 m8 q8
    | false =>
     rw [if_neg eT] at q8 ⊢;have hD8:=m8.keep _ _ ZS.1 ZS.2;exact back I8 (mc7.trans m8) hD8.2 hD8.1 (rA7.mono (m8.kp I7.ab)) (by lia) q8
  ·have hn:ds.length<=i:=by lia
   rw [iM hn] at wq;obtain⟨okG,qn⟩:=wq;have stop:=(wk i Hc Gc kpc Ic.ab okG).2 hn;refine fZ (T.done (dU X N scope s3.heap.objs.size s3 H3 fp) rfl rfl rfl hc i [] s4 Q9 Hc (fun _ _=>False) Ic.inv (Ol frc) stc stop) ?_;rintro r s5 ⟨hr,I5⟩;subst hr;refine fin s3.heap.objs.size s5 ?_;obtain⟨mm,abW,_⟩:=I5.loc;have hC5:Hc s3.heap.objs.size=none:=I5.free;have I6:Inv X pins σ Hc s5:=by
    obtain⟨h5,g5,d5,t5,o5⟩:=s5;have eo:o5=s3.os:=I5.os;subst eo;exact I3.call (h':=h5) (g':=g5) (d':=d5) (t':=t5) (ch:=fp) I5.base I5.cz I5.bare fun b hb=>by
     obtain⟨⟨f0,f1,f2',f3,f4,f5⟩,hl⟩:=Yx b hb;exact⟨f3,f1,f4,f5⟩
   have mvF:Mv X.K H2 G2 Hc (c6 Gc s2.heap.objs.size (.lst vw)):=⟨fun a o e n=>by
     have ne:a≠s2.heap.objs.size:=eF e wt;obtain⟨e1,e2⟩:=mc.keep a o e n;exact⟨e1,by rw [dh ne]; exact e2⟩,mc.mW,fun a g' e=>by
     by_cases ha:a=s2.heap.objs.size
     ·subst ha;rw [aH] at e;cases e;exact⟨tF,hD,rA⟩
     ·rw [dh ha] at e;exact Ic.ab a g' e⟩
   exact⟨mm,Hc,_,I6,abW,I3.Fy (aC _) hC5,m2.trans mvF,qn _ gD⟩
 have all:vQ (model X.prog X.w) X.A (.compStart (.ListComp elt [⟨tg,iter,ifs,0⟩] scope pos) 0 (.ref it) (.ref s2.heap.objs.size) (dU X N scope s3.heap.objs.size s3 H3 fp).env) (Rr (.ref s2.heap.objs.size) s3.heap.objs.size)
   { s3 with heap:=pY,toks:=s3.toks+([]:List (Str×Value)).length }:=codeAny_compStart_list loop (T.self _ 0 _ _ _ Xf loop)
 subst hs3;exact all
end
end K2
end
section
namespace K2
open PySem PySem.Spec PyProof.Rows L2
section
variable {X:Cx} {N:List Str} {scope:Scope} {tg elt iter:Expr} {ifs:List Expr} {pos:Pos} {m:Nat} {fr:List Nat} {wi:MZ} {g:AQ} {c:Option x2} {te:fC}
structure zY(X:Cx)(N:List Str)(scope:Scope)(m:Nat)(fr:List Nat):Prop where
 cell:∀ y∈scope.names,y.2≠.cell
 kind:scope.kind=.function
 names:∀ y∈scope.names,y.2=.local->scope.names.lookup y.1=some .local
 free:∀ y∈scope.names,y.2=.free->X.env.kindOf y.1=some .cell
 len:N.length=m+fr.length
 at':∀ j i x,fr[j]?=some i->N[m+j]?=some x->X.N[i]?=some x/\X.env.scope.names.lookup x=some .cell/\(GX scope X.env).names.lookup x=some .cell
theorem zY.closed{X:Cx}{N:List Str}{scope:Scope}{m:Nat}{fr:List Nat}(k:zY X N scope m fr){pins:List (Addr×Obj)}{σ:L2.St}{H:Hp}{s:ar}(I:Inv X pins σ H s):closureFor scope X.env=pure (fS X.env scope.names []) :=
 AP fun y hy hf=>I.ok.has _ (.inl (k.free y hy hf))
theorem L5(hc:X.calm=true)(k:zY X N scope m fr)(hi:M0 X tg iter wi)(hg:∀ C s H fp,NA (dU X N scope C s H fp) tg g)(VS:∀ C s H fp,Wr (dU X N scope C s H fp) ifs c)(he:∀ C s H fp,gf (dU X N scope C s H fp) elt te)
  (hs:∀ x,j0 iter X.env x=pure x:=by intro _; rfl):gf X (.ListComp elt [⟨tg,iter,ifs,0⟩] scope pos) (fm m fr wi g c te):=by
 intro E pins s σ H τ G Q hE I h;rw [eval_ListComp];refine wpAny_comprehension_free (use:=none) rfl hs (k.closed I.inv) k.kind k.names (fZ (hi E pins s σ H τ G _ hE I h) fun xv eR pY=>fZ pY fun SH iX Iz=>?_);obtain⟨it,fp,tn,J,H2,G2,ds,ok,e,mQ,m2,T,Np,f2,wk,hz,q⟩:=Iz;subst e;refine BY (Rr:=fun acc C=>compPost (model X.prog X.w) X.A X.xe none (rO X pins σ H G Q) acc C) hc k.cell k.kind k.free k.len k.at' hg VS he (I.mv mQ m2) m2 T Np f2 wk hz (fun _ _ z=>z) q ?_;rintro C s' ⟨mm,H',G',I',Rl,fpC,mv,q'⟩;refine⟨mm,Rl,fun h' KO=>?_⟩;obtain⟨f0,f1,_,f3,f4,f5⟩:=fpC;exact⟨.ref _,H',.ref _,G',I'.turned (t':=s'.toks) (fun b o hb e=>KO.extBut b o hb e) f0 f1 f3 f4 f5,mv,rfl,.ref _,q'⟩
theorem EI{i:Nat}{y:Str}{py Ov:Pos}(hN:X.N.Nodup)(hyi:X.N[i]?=some y)(hy:X.env.scope.names.lookup y=some .local)(hc:X.calm=true)(k:zY X N scope m fr)(hi:M0 X tg iter wi)(hg:∀ C s H fp,NA (dU X N scope C s H fp) tg g)
  (VS:∀ C s H fp,Wr (dU X N scope C s H fp) ifs c) (he:∀ C s H fp,gf (dU X N scope C s H fp) elt te) (Yd:D8 (.ListComp elt [⟨tg,iter,ifs,0⟩] scope pos) (some (.Name y py)) Ov.line X.env=pure true:=by rfl)
  (hs:∀ x,j0 iter X.env x=pure x:=by intro _; rfl):Lq X (.Assign [.Name y py] (.ListComp elt [⟨tg,iter,ifs,0⟩] scope pos) Ov) (bK (fm m fr wi g c te) (aM i)):=by
 intro E pins s σ H τ G D hE I h;rw [exec_Assign_Name_used _ _ _ _ Yd];refine ae (D7 (ae ?_));show wpAny _ X.A (do let _ ← comprehension (.ListComp elt [⟨tg,iter,ifs,0⟩] scope pos) scope X.env _ (newList []) false (eval iter X.env) (some (NQ (.Name y py) X.env))) _ _ s;refine ae (fZ (wpAny_comprehension_free (use:=some (NQ (.Name y py) X.env)) (Q:=fun _ s'=>Wq X pins H G D .next s') rfl hs (k.closed I.inv) k.kind k.names (fZ (hi E pins s σ H τ G _ hE I h) fun xv eR pY=>fZ pY fun SH iX Iz=>?_)) fun _ s' hq=>aj (aj hq));obtain⟨it,fp,tn,J,H2,G2,ds,ok,e,mQ,m2,T,Np,f2,wk,hz,q⟩:=Iz;subst e;refine BY (Rr:=fun acc C=>compPost (model X.prog X.w) X.A X.xe (some (NQ (.Name y py) X.env)) (fun _ s'=>Wq X pins H G D .next s') acc C) hc k.cell k.kind k.free k.len k.at' hg VS he (I.mv mQ m2) m2 T Np f2 wk hz (fun _ _ z=>z) q ?_;rintro C s' ⟨mm,H',G',I',Rl,fpC,mv,q'⟩;show wpAny (model X.prog X.w) X.A (NQ (.Name y py) X.env (.ref iX.heap.objs.size)) _ X.xe s';obtain⟨f0,f1,_,f3,f4,f5⟩:=fpC;refine GV (A9 (v:=.ref iX.heap.objs.size) I' hN hyi (.inl hy) rfl (?_) (.inr hy));rintro s3 I3 ⟨a,Yg,ha⟩;have hCa:C≠a:=by
  rcases ha with rfl | ha
  ·exact f1
  ·exact fun e=>f4 y a ha e.symm
 refine⟨mm,Rl.sameBut Yg hCa,fun h' KO=>?_⟩;exact⟨_,H',_,G',⟨I3.turned (t':=s3.toks) (fun b o hb e=>KO.extBut b o hb e) f0 f1 f3 f4 f5,(I.st.mono (mv.kp I.ab)).set i (.ref _),mv.ab⟩,mv,q'⟩
theorem fR{i:Nat}{u:DM}{n:Nat}(h:∀ E ds τ G Q,u E ds τ G Q->ds.length=n):∀ E ds τ G Q,iN (aM i) u E ds τ G Q->ds.length=n+1 :=
 MB h (fun _ _ _ _ _ _ q k=>k _ _ q) fun _ _ _ _ q=>q
theorem bC (i:Nat) {x:Str} {pos:Pos} (hN:X.N[i]?=some x:=by rfl) (hv:autoParam (ZX X.env.scope x) Ao._auto_1) (hd:(x == ("__debug__" : Str))=false:=by decide)
  (GQ:(x == ("__classdict__" : Str))=false:=by decide):gf X (.Name x pos) (au i):=Sh hN hv hd GQ
theorem Il{pins:List (Addr×Obj)}{s:ar}{σ:L2.St}{H:Hp}{G:Gp}{x:V}{d:D}{v:Value}{zs:List D}(I:Inv X pins σ H s)(ab:lC X.K H G)(rx:RelV x v)(rd:cB X.K H x d)(hi:itemsOf d G=some zs) :
  ∃ l vs bw,v=.ref l/\Vals vs bw/\bh X.K H vs zs/\(s.heap.IsList l bw.toArray\/s.heap.IsTuple l bw.toArray)/\vs.length<=bo:=by
 cases rd with
 | dJ hq rs =>
  cases hi;cases rx;obtain⟨bw,rv,pl,hz⟩:=I.list hq.sq;exact⟨_,_,bw,rfl,rv,rs,.inl pl.isList,hz⟩
 | tup hq rs =>
  cases hi;cases rx;obtain⟨bw,rv,pl,hz⟩:=I.tuple (.of hq);exact⟨_,_,bw,rfl,rv,rs,.inr pl,hz⟩
 | ref l =>
  unfold itemsOf at hi;dsimp only at hi;cases hg:G l with
  | none=>rw [hg] at hi; cases hi
  | some gg =>
   rw [hg] at hi;cases gg with
   | lst ds =>
    cases hi;cases rx;obtain⟨vs,hv,rs⟩:=ab.lst hg;obtain⟨bw,rv,pl,hz⟩:=I.list (.of hv);exact⟨_,_,bw,rfl,rv,rs,.inl pl.isList,hz⟩
   | ja _=>cases hi
 | _=>cases hi
theorem U3{body:List Stmt}{t2:iO}(h:zP X body t2){E:lb}(hE:Lk X E):WQ X body (fun D σ H=>∃ (τ:gS) (G:Gp) (D2:mL),NF X.K H σ τ/\lC X.K H G/\t2 E D2 τ G /\
  (∀ jC H' nS G',Mv X.K H G H' G'->D2.nx nS G'->D.nx jC H')/\(∀ v H' d G',Mv X.K H G H' G'->cB X.K H' v d->D2.rt d G'->D.rt v H')/\(∀ τ G,¬ D2.bk τ G)/\(∀ τ G,¬ D2.ct τ G)):=by
 rintro pins s σ H D I ⟨τ,G,D2,st,ab,q,k1,k2,k3,k4⟩;refine fZ (h E pins s σ H τ G D2 hE ⟨I,st,ab⟩ q) fun f s1 z=>?_;cases f with
 | next=>obtain⟨jC,H',nS,G',J,mv,z⟩:=z; exact⟨jC,H',J.inv,k1 jC H' nS G' mv z⟩
 | brk=>obtain⟨jC,H',nS,G',J,mv,z⟩:=z; exact(k3 _ _ z).elim
 | cont=>obtain⟨jC,H',nS,G',J,mv,z⟩:=z; exact(k4 _ _ z).elim
 | ret u=>obtain⟨v,jC,H',d,G',J,mv,r,rd,z⟩:=z; exact⟨v,jC,H',J,r,k2 v H' d G' mv rd z⟩
theorem Om{K:ah}{H:Hp}{Nn:List Str}{vs:List V}{ds:List D}(r:bh K H vs ds):NF K H (L2.start Nn vs) (bG Nn.length ds):=by
 unfold L2.start bG;refine⟨by simp [r.length],fun i d h=>?_⟩;by_cases hi:i < ds.length
 ·rw [dq (by simpa using hi),aX] at h;cases hd:ds[i]? with
  | none=>rw [hd] at h; cases h
  | some d' =>
   rw [hd] at h;have e:d'=d:=by simpa using h
   subst e;obtain⟨v,h1,h2⟩:=r.get hd;refine⟨v,?_,h2⟩;rw [dq (by simpa [r.length] using hi),aX,h1]; rfl
 ·rw [cA (by simpa using hi),h8] at h;split at h <;> cases h
theorem S1{P:bE}{w:World}{K:ah}{mg:Str->Option Value}{base:Heap}{x qual:Str}{st:Stmt}{f:Addr}{fd:aJ}{Nn ps:List Str}{k:Nat}{sp:om}{rd:iO}(F:oS K x qual st f fd)(S:cG Nn ps (a9 st))(len:∀ ds G Q E,sp ds G Q E->ds.length=ps.length)
  (hr:∀ ds G Q,sp ds G Q (fun _ _=>False)->rd (fun _ _=>False) (ends Q) (bG Nn.length ds) G)
  (hb:∀ (oR:Value) (A:c8) (outer:List Env) (s:ar) (H:Hp) (E:XK),mK k (A.deeper (D9 qual (a9 st) s.heap.objs.size f oR))->zP (FZ gP P w K mg base Nn qual (a9 st) f oR A outer s H E).WA (jQ st) rd):fV P w K mg base gP (k+1) f fd ps (dj K sp):=by
 refine F.ok S ((by rintro vs H Q E ⟨ds,G,Q2,r,ab,q,_⟩; exact by rw [r.length]; exact len _ _ _ _ q)) ?_;rintro oR A outer s H vs Q E Yh ⟨ds,G,Q2,r,ab,q,kk⟩;refine⟨_,U3 (hb oR A outer s H E Yh) (E:=fun _ _=>False) (Lk.none fun _ _ z=>z),?_⟩;exact⟨bG Nn.length ds,G,ends Q2,Om r,ab,hr ds G Q2 q,fun jC H' nS G' mv z=>kk _ _ _ _ z mv .cL,fun v H' d G' mv Xp z=>kk _ _ _ _ z mv Xp,fun _ _ z=>z,fun _ _ z=>z⟩
section
variable {prog:bE} {w:World} {A:c8} {R:Result->ar->Prop} {Z2:Addr} {fq wr:List Addr} {n:Nat} {P:Nat->Value->Prop} {Sx:Nat->Heap->Prop}
theorem Vr(W:Walks prog w A.in1 Z2 fq wr n P Sx)(bt:Nat->Nat->Bool)(T:Heap->Prop)(B:Addr)(hB:B∉fq)(hT:∀ h h',T h->(∀ b o,b∉wr->b≠B->h.get? b=some o->h'.get? b=some o)->T h')
  (cmp:∀ i j x y s (Q:Value->ar->Prop) (E:Value->ar->Prop),T s.heap->P i x->P j y->Q (.bool (bt i j)) s->wpAny (model prog w) A.in1 (qf .Lt x y) Q E s) :
  ∀ (k j:Nat) (s:ar) (best:Value) (cc:Nat),n - (j+1)=k->j+1<=n->Sx (j+1) s.heap->T s.heap->P (qh bt j) best ->
  s.heap.get? B=some { cls:=.type "list",dict:=none,data:=.seq #[best,best] cc,slots:=#[] } ->
  (∀ v h' tk,P (qh bt (n - 1)) v->(∀ b o,b∉wr->b≠B->s.heap.get? b=some o->h'.get? b=some o)->R (.ok (.ret v)) { s with heap:=h',toks:=tk }) ->
  vQ (model prog w) A (.builtin "min.loop" ⟨[.ref Z2,.none,.ref B],[]⟩) R s:=by
 have hBw:B∉wr:=fun z=>hB (W.sub _ z);have nm:(toString "min"++toString ".loop" : String) = "min.loop":=by decide
 intro k;induction k with
 | zero =>
  intro j s best cc hk hj hs ht hp hb hR;have ej:j+1=n:=by lia
  refine fE Hh ?_; rw [eS iQ _];show wpAny _ A.in1 (seqItems? (.ref B) >>= _) _ _ s; refine ae (sH hb rfl ?_);show wpAny _ A.in1 (tryCatch (nh (.ref Z2)) _ >>= _) _ _ s; refine ae (AW (W.done s _ _ (ej ▸ hs) fun h' tk kept=>?_));have uS:=kept B _ hBw hb;show wpAny _ A.in1 (updateSeq B (fun _=>#[]) >>= _) _ _ _; refine ae ?_;refine x3 uS rfl (ae (NG (aj ?_)));exact hR best _ tk (by rw [<-ej]; exact hp) fun b o z1 z2 e=>(cR _ _ (cW z2)).trans (kept b o z1 e)
 | succ k ih =>
  intro j s best cc hk hj hs ht hp hb hR;have lt:j+1 < n:=by lia
  refine fE Hh ?_; rw [eS iQ _];show wpAny _ A.in1 (seqItems? (.ref B) >>= _) _ _ s; refine ae (sH hb rfl ?_);show wpAny _ A.in1 (tryCatch (nh (.ref Z2)) _ >>= _) _ _ s; refine ae (AW (W.item (j+1) s _ _ lt hs fun v h' tk pv xj kept=>?_));have uS:=kept B _ hBw hb;have Mn:T h':=hT _ _ ht fun b o z1 _ e=>kept b o z1 e;show wpAny _ A.in1 (tryCatch (GY [v,v] (qf .Lt v best >>= _)) _ >>= _) _ _ _;refine ae (AW (cX (ae (cmp (j+1) (qh bt j) v best _ _ _ Mn pv hp ?_)))); refine ae (cX (jX ?_)); refine ae (NG (aj ?_));cases hbt:bt (j+1) (qh bt j) with
  | true =>
   simp only [if_true]; refine ae ?_;refine x3 uS rfl (ae (NG ?_)); rw [nm];refine aj ⟨jZ iQ _,ih (j+1) _ v _ (by lia) lt (W.frame _ _ _ xj fun b z o e=>?_) (hT _ _ Mn fun b o _ z2 e=>?_) (by simp only [qh,hbt,if_true]; exact pv) (df _ uS rfl) fun v' YO Od Xv kk=>?_⟩
   ·exact(cR _ _ (fun z':B=b=>hB (by rw [z']; exact z))).trans e
   ·exact(cR _ _ (cW z2)).trans e
   ·exact hR v' YO Od Xv fun b o z1 z2 e=>kk b o z1 z2 ((cR _ _ (cW z2)).trans (kept b o z1 e))
  | false =>
   simp only [aQ,if_false]; refine ae (NG ?_); rw [nm];refine aj ⟨jZ iQ _,ih (j+1) _ best cc (by lia) lt xj Mn (by simp only [qh,hbt,aQ,if_false]; exact hp) uS fun v' YO Od Xv kk=>?_⟩;exact hR v' YO Od Xv fun b o z1 z2 e=>kk b o z1 z2 (kept b o z1 e)
end
theorem EU{prog:bE}{w:World}{A:c8}{E:Value->ar->Prop}{s:ar}{x:Value}{Q:Value->ar->Prop}
  (h:wpAny (model prog w) A.in1 (wH x) (fun it iX=>∃ (I:Addr) (fq wr:List Addr) (n:Nat) (P:Nat->Value->Prop) (Sx:Nat->Heap->Prop) (bt:Nat->Nat->Bool) (T:Heap->Prop),it=.ref I/\Walks prog w A.in1 I fq wr n P Sx/\Sx 0 iX.heap/\(∀ b∈fq,b < iX.heap.objs.size)/\0 < n/\T iX.heap/\(∀ (h h':Heap) (B:Addr),iX.heap.objs.size<=B->T h->(∀ b o,b∉wr->b≠B->h.get? b=some o->h'.get? b=some o)->T h') /\
   (∀ i j x y s (Q:Value->ar->Prop) (E:Value->ar->Prop),T s.heap->P i x->P j y->Q (.bool (bt i j)) s->wpAny (model prog w) A.in1 (qf .Lt x y) Q E s) /\
   ∀ v h' tk,P (qh bt (n - 1)) v->(∀ b o,b∉wr->iX.heap.get? b=some o->h'.get? b=some o)->Q v { iX with heap:=h',toks:=tk }) E s) :
  wpAny (model prog w) A (call (.builtin "min") [x]) Q E s:=by
 have nm:(toString "min"++toString ".loop" : String) = "min.loop":=by decide
 refine call_function_tree F.kind_min F.plain_min F.entry_min (F.args_min1 _) ?_;show wpAny _ A.in1 (vL "min" ["key","default"] 0 ⟨[],[]⟩ >>= _) _ _ s; refine ae (qc (show vL "min" ["key","default"] 0 ⟨[],[]⟩=pure [none,none] from rfl) ?_);refine ae (aj ?_); refine ae (jc h (fun it iX Iz=>?_) fun _ _ e=>e);obtain⟨I,fq,wr,n,P,Sx,bt,T,rfl,W,IA,Yy,hn,ht,hT,cmp,hQ⟩:=Iz;refine ae (cD ?_);have WK:iX.heap.objs.size∉fq:=fun z=>eU _ (Yy _ z);have ZQ:iX.heap.objs.size∉wr:=fun z=>WK (W.sub _ z);rw [nm];generalize hh:iX.heap.push { cls:=.type "list",data:=.seq ([]:List Value).toArray } = hp;have hb:hp.get? iX.heap.objs.size=some { cls:=.type "list",dict:=none,data:=.seq #[] 0,slots:=#[] }:=by rw [<-hh]; exact aT _ rfl
 have old:∀ b o,iX.heap.get? b=some o->hp.get? b=some o:=fun b o e=>by rw [<-hh]; exact aE _ e
 have st0:Sx 0 hp:=W.frame _ _ _ IA fun b _ o e=>old b o e;have ht0:T hp:=hT _ _ _ (aC _) ht fun b o _ _ e=>old b o e;refine aj ⟨jZ iQ _,?_⟩;refine fE Hh ?_; rw [eS iQ _];show wpAny _ A.in1 (seqItems? (.ref iX.heap.objs.size) >>= _) _ _ _; refine ae (sH hb rfl ?_);show wpAny _ A.in1 (tryCatch (nh (.ref I)) _ >>= _) _ _ _; refine ae (AW (W.item 0 _ _ _ hn st0 fun v h' tk pv xj kept=>?_));have uS:=kept _ _ ZQ hb;show wpAny _ A.in1 (updateSeq iX.heap.objs.size (fun _=>#[v,v]) >>= _) _ _ _; refine ae ?_;refine x3 uS rfl ?_; rw [nm];refine aj ⟨jZ iQ _,Vr W bt T _ WK (fun h h'=>hT h h' _ (aC _)) cmp _ 0 _ v _ rfl hn (W.frame _ _ _ xj fun b z o e=>?_) (hT _ _ _ (aC _) (hT _ _ _ (aC _) ht0 fun b o z1 _ e=>kept b o z1 e) fun b o _ z2 e=>?_) pv (df _ uS rfl) fun v' YO Od Xv kk=>?_⟩
 ·exact(cR _ _ (fun z':iX.heap.objs.size=b=>WK (by rw [z']; exact z))).trans e
 ·exact(cR _ _ (cW z2)).trans e
 ·refine hQ v' YO Od Xv fun b o z1 e=>?_;have nb:b≠iX.heap.objs.size:=bB (aL e);exact kk b o z1 nb ((cR _ _ (cW nb)).trans (kept b o z1 (old b o e)))
theorem Gq{α:Type}(lt:α->α->Bool)(l:List α)(a:α)(f:Nat->α)(hf:∀ i,i < l.length+1->f i=(a :: l).getD i a) :
  f (qh (fun i j=>lt (f i) (f j)) l.length)=l.foldl (fun m x=>if lt x m=true then x else m) a:=by
 have key:∀ k,k<=l.length->f (qh (fun i j=>lt (f i) (f j)) k)=(l.take k).foldl (fun m x=>if lt x m=true then x else m) a:=by
  intro k;induction k with
  | zero=>intro _; rw [qh,hf 0 (by lia)]; rfl
  | succ k ih =>
   intro hk;have ZC:=ih (by lia);rw [gG (by lia),e9,<-ZC];have e:f (k+1)=l[k]:=by
    rw [hf (k+1) (by lia),az];simp [show k < l.length by lia]
   show f (if lt (f (k+1)) (f (qh _ k))=true then k+1 else qh _ k)=(if lt l[k] _=true then l[k] else _);rw [<-e];split <;> rfl
 rw [key l.length (aC _),List.take_length]
theorem MU (hc : X.calm = true) (hu : X.A.units + 64 < cLine) : qY X (.builtin "min") QJ := by
  intro pins s σ H G xs ds us Q I ab rx rd q;unfold QJ at q;split at q
  · rename_i x
    obtain⟨v, rfl, r⟩ := rd.one;obtain⟨u, rfl, ru⟩ := rx.one;have main : ∀ {α : Type} (zs : List α) (a : α) (enc : α -> D) (lt : α -> α -> Bool) (T : Heap -> Prop), itemsOf x G = some ((a :: zs).map enc) -> T s.heap -> (∀ (h h' : Heap) (B : Addr), s.heap.objs.size ≤ B -> T h -> (∀ b o, b < s.heap.objs.size -> b ≠ B -> h.get? b = some o -> h'.get? b = some o) -> T h') ->
        (∀ y z vy vz uy uz (s' : ar) (Q' : Value -> ar -> Prop) (E' : Value -> ar -> Prop), T s'.heap -> cB X.K H vy (enc y) -> RelV vy uy -> cB X.K H vz (enc z) -> RelV vz uz -> Q' (.bool (lt y z)) s' -> wpAny (model X.prog X.w) X.A.in1 (qf .Lt uy uz) Q' E' s') ->
        Q (enc (zs.foldl (fun m x => if lt x m = true then x else m) a)) G -> wpAny (model X.prog X.w) X.A (call (.builtin "min") [u]) (rO X pins σ H G Q) X.xe s := by
      intro α zs a enc lt T hi ht hT cmp hq;obtain⟨l, vs, bw, rfl, rv, rs, hl, hz⟩ := Il I ab ru r hi;have hlen : bw.length = zs.length + 1 := by rw [<-rv.length, rs.length, ag, ak]
      have j8 : ∀ {o : Obj}, s.heap.get? l = some o -> l ≠ s.heap.objs.size := fun e => bB (aL e);have at_ : ∀ i uu, bw.toArray[i]? = some uu -> ∃ vv, RelV vv uu ∧ cB X.K H vv (enc ((a :: zs).getD i a)) := fun i uu e => by
        have e' : bw[i]? = some uu := by simpa using e
        have xn : i < bw.length := (List.getElem?_eq_some_iff.mp e').1;have hd : ((a :: zs).map enc)[i]? = some (enc ((a :: zs).getD i a)) := by
          rw [aX, az];cases h9 : (a :: zs)[i]? with
          | none => rw [List.getElem?_eq_none_iff] at h9; simp at h9; lia
          | some z => rfl
        obtain⟨vv, h1, h2⟩ := rs.get hd;obtain⟨uu', h3, h4⟩ := rv.get h1;rw [e'] at h3;cases h3;exact⟨vv, h4, h2⟩
      have Y4 : ∀ i j p9 q9 s' (Q' : Value -> ar -> Prop) (E' : Value -> ar -> Prop), T s'.heap -> bw.toArray[i]? = some p9 -> bw.toArray[j]? = some q9 -> Q' (.bool (lt ((a :: zs).getD i a) ((a :: zs).getD j a))) s' -> wpAny (model X.prog X.w) X.A.in1 (qf .Lt p9 q9) Q' E' s' := fun i j p9 q9 s' Q' E' t' h1 h2 h3 => by
        obtain⟨v1, r1, d1⟩ := at_ i p9 h1;obtain⟨v2, r2, d2⟩ := at_ j q9 h2;exact cmp _ _ v1 v2 p9 q9 s' Q' E' t' d1 r1 d2 r2 h3
      have fin : ∀ vv h' tk, bw.toArray[qh (fun i j => lt ((a :: zs).getD i a) ((a :: zs).getD j a)) (bw.toArray.size - 1)]? = some vv -> (∀ b o, b ∉ [s.heap.objs.size] -> s.heap.get? b = some o -> h'.get? b = some o) -> rO X pins σ H G Q vv { s with heap := h', toks := tk } := fun vv h' tk e hk => by
        obtain⟨v1, r1, d1⟩ := at_ _ vv e;have es : bw.toArray.size - 1 = zs.length := by rw [aR]; lia
        rw [es, Gq lt zs a (fun i => (a :: zs).getD i a) (fun i _ => rfl)] at d1;exact⟨v1, H, _, G, I.kept fun b o e => hk b o (by simpa using bB (aL e)) e, .refl ab, r1, d1, hq⟩
      have SU : 0 < bw.toArray.size := by rw [aR]; lia
      have hTp : ∀ (oo : Obj), T (s.heap.push oo) := fun oo => hT _ _ (s.heap.objs.size + 1) (He _) ht fun b o hb _ e => aE _ e;have hT2 : ∀ (oo : Obj) (h h' : Heap) (B : Addr), (s.heap.push oo).objs.size ≤ B -> T h -> (∀ b o, b ∉ [s.heap.objs.size] -> b ≠ B -> h.get? b = some o -> h'.get? b = some o) -> T h' := fun oo h h' B hB t kk => hT h h' B (by rw [iE] at hB; exact Nat.le_of_succ_le hB) t fun b o hb hn e => kk b o (by simpa using bB hb) hn e;rcases hl with hl | hl
      · refine EU (jY hl ?_)
        obtain⟨o, ho, C8, n, hd⟩ := id hl;exact⟨s.heap.objs.size, _, _, _, _, _, _, T, rfl, Walks.list (A := X.A.in1) (show X.A.in1.handled = none from I.ok.hd hc) _ l (j8 ho) bw.toArray, ⟨⟨_, aT _ rfl, rfl, rfl⟩, ⟨o, aE _ ho, C8, n, hd⟩⟩,
          fun b hb => by rcases (by simpa using hb : b = s.heap.objs.size ∨ b = l) with rfl | rfl
                         · rw [iE]; exact nR _
                         · rw [iE]; exact rS (aL ho), SU, hTp _, hT2 _, Y4, fun vv h' tk e hk => fin vv h' tk e fun b o hb e => hk b o hb (aE _ e)⟩
      · refine EU (wpAny_pyIter_tuple hl ?_)
        obtain⟨o, ho, C8, n, hd⟩ := id hl;exact⟨s.heap.objs.size, _, _, _, _, _, _, T, rfl, Walks.tuple (A := X.A.in1) (show X.A.in1.handled = none from I.ok.hd hc) _ l (j8 ho) bw.toArray, ⟨⟨_, aT _ rfl, rfl, rfl⟩, ⟨o, aE _ ho, C8, n, hd⟩⟩,
          fun b hb => by rcases (by simpa using hb : b = s.heap.objs.size ∨ b = l) with rfl | rfl
                         · rw [iE]; exact nR _
                         · rw [iE]; exact rS (aL ho), SU, hTp _, hT2 _, Y4, fun vv h' tk e hk => fin vv h' tk e fun b o hb e => hk b o hb (aE _ e)⟩
    rcases q with ⟨ns, mm, hi, hm, q⟩ | ⟨Zx, mm, hi, hm, q⟩
    · cases ns with
      | nil => cases hm
      | cons a zs =>
        cases hm;have e : (fun m x : Int => if x < m then x else m) = fun m x => if decide (x < m) = true then x else m := by funext m x; simp
        rw [e] at q;refine main zs a D.int (fun x y => decide (x < y)) (fun _ => True) hi trivial (fun _ _ _ _ _ _ => trivial) (fun y z vy vz uy uz s' Q' E' _ d1 r1 d2 r2 hq => ?_) q;cases d1;cases d2;obtain⟨t1, rfl⟩ := r1;obtain⟨t2, rfl⟩ := r2;exact HT.yE X.A.in1 s' y t1 z t2 X.prog X.w E' Q' hq
    · cases Zx with
      | nil => cases hm
      | cons a zs =>
        cases hm;have el : ∀ xs ys : List Int, HT.lexLt xs ys = K2.lexLt xs ys := by
          intro xs;induction xs with
          | nil => intro ys; cases ys <;> rfl
          | cons x xs ih => intro ys; cases ys with
            | nil => rfl
            | cons y ys => unfold HT.lexLt K2.lexLt; rw [ih]
        refine main zs a tI K2.lexLt (fun h => ∀ b o, b < s.heap.objs.size -> s.heap.get? b = some o -> h.get? b = some o) hi (fun b o _ e => e) (fun h h' B hB t kk b o hb e => kk b o hb (bB (bJ hb hB)) (t b o hb e)) (fun y z vy vz uy uz s' Q' E' t' d1 r1 d2 r2 hq => ?_) q;cases d1 with
        | tup h1 rs1 =>
          cases d2 with
          | tup h2 Nq =>
            cases r1;cases r2;have z1 := rs1.ints;have z2 := Nq.ints;subst z1 z2;obtain⟨Pu, Wy, ⟨o1, ho1, hc1, n1, YD⟩, _⟩ := I.tuple (.of h1);obtain⟨r8, LN, ⟨o2, BI, C9, n2, hd2⟩, _⟩ := I.tuple (.of h2);have p1 : IsTup s'.heap _ Pu.toArray := ⟨o1, t' _ _ (aL ho1) ho1, hc1, n1, YD⟩;have p2 : IsTup s'.heap _ r8.toArray := ⟨o2, t' _ _ (aL BI) BI, C9, n2, hd2⟩;rw [<-el] at hq;have i1 : me Pu.toArray.toList y := intsAre_of Wy;have i2 : me r8.toArray.toList z := intsAre_of LN;exact(HT.yQ p1 p2 i1 i2 (show X.A.units + 1 < cLine by lia) hq : wpAny (model X.prog X.w) X.A.in1 (dB .Lt _ _) Q' E' s')
  · exact q.elim
noncomputable def aaE(scope sc:Scope):List (Str×sk):=scope.names.map fun (n,k)=>if (k == .free&&sc.kind == .function&&sc.names.lookup n == some .cell) then (n,.cell) else (n,k)
noncomputable def xX(N:List Str)(scope:Scope)(m:Nat)(fr:List Nat)(sc:Scope)(XN:List Str):Bool :=
 scope.names.all (fun y=>decide (y.2≠.cell))&&decide (scope.kind=.function)&&scope.names.all (fun y=>!decide (y.2=.local)||decide (scope.names.lookup y.1=some .local)) &&
 scope.names.all (fun y=>!decide (y.2=.free)||decide (sc.names.lookup y.1=some .cell))&&decide (N.length=m+fr.length) &&
 (aU fr.length).all (fun j=>match fr[j]?,N[m+j]? with
  | some i,some x=>decide (XN[i]?=some x)&&decide (sc.names.lookup x=some .cell)&&decide ((aaE scope sc).lookup x=some .cell)
  | _,_=>false)
theorem BZ{sc:Scope}{XN:List Str}(Ye:X.env.scope=sc)(YI:X.N=XN)(hb:xX N scope m fr sc XN=true):zY X N scope m fr:=by
 subst Ye YI;unfold xX at hb;simp only [aN] at hb;obtain⟨⟨⟨⟨⟨h1,h2⟩,h3⟩,h4⟩,h5⟩,h6⟩:=hb;refine⟨fun y hy=>of_decide_eq_true (List.all_eq_true.mp h1 y hy),of_decide_eq_true h2,fun y hy hl=>?_,fun y hy hl=>?_,of_decide_eq_true h5,fun j i x e1 e2=>?_⟩
 ·have:=List.all_eq_true.mp h3 y hy;simp only [hl,decide_true,cS,Nj] at this;exact of_decide_eq_true this
 ·have:=List.all_eq_true.mp h4 y hy;simp only [hl,decide_true,cS,Nj] at this;exact of_decide_eq_true this
 ·have hj:j < fr.length:=(List.getElem?_eq_some_iff.mp e1).1;have:=List.all_eq_true.mp h6 j (List.mem_range.mpr hj);rw [e1,e2] at this;simp only [aN] at this;exact⟨of_decide_eq_true this.1.1,of_decide_eq_true this.1.2,of_decide_eq_true this.2⟩
theorem iq(N:List Str){sc:Scope}{XN:List Str}(hi:M0 X tg iter wi)(hg:∀ C s H fp,NA (dU X N scope C s H fp) tg g)(VS:∀ C s H fp,Wr (dU X N scope C s H fp) ifs c)(he:∀ C s H fp,gf (dU X N scope C s H fp) elt te)
  (Ye:X.env.scope=sc:=by rfl) (YI:X.N=XN:=by rfl) (hb:xX N scope m fr sc XN=true:=by decide +kernel) (hc:X.calm=true:=by rfl) (hs:∀ x,j0 iter X.env x=pure x:=by intro _; rfl):gf X (.ListComp elt [⟨tg,iter,ifs,0⟩] scope pos) (fm m fr wi g c te) :=
 L5 hc (BZ Ye YI hb) hi hg VS he hs
theorem uv(N:List Str){sc:Scope}{XN:List Str}{i:Nat}{y:Str}{py Ov:Pos}(hN:X.N.Nodup)(hyi:X.N[i]?=some y)(hy:X.env.scope.names.lookup y=some .local)(hi:M0 X tg iter wi)(hg:∀ C s H fp,NA (dU X N scope C s H fp) tg g)
  (VS:∀ C s H fp,Wr (dU X N scope C s H fp) ifs c) (he:∀ C s H fp,gf (dU X N scope C s H fp) elt te) (Ye:X.env.scope=sc:=by rfl) (YI:X.N=XN:=by rfl) (hb:xX N scope m fr sc XN=true:=by decide +kernel) (hc:X.calm=true:=by rfl)
  (Yd:D8 (.ListComp elt [⟨tg,iter,ifs,0⟩] scope pos) (some (.Name y py)) Ov.line X.env=pure true:=by rfl) (hs:∀ x,j0 iter X.env x=pure x:=by intro _; rfl) :
  Lq X (.Assign [.Name y py] (.ListComp elt [⟨tg,iter,ifs,0⟩] scope pos) Ov) (bK (fm m fr wi g c te) (aM i)) :=
 EI hN hyi hy hc (BZ Ye YI hb) hi hg VS he Yd hs
theorem Mf{K:ah}{H:Hp}{a:Addr}{ns:List Int}(hO:Tv H)(hS:oK K H a (ns.map V.int))(hl:ns.length<=63):dj K Bb [.ref a] H (fun v _=>v=.bl true) fun _ _ _=>False:=by
 have hF:WO K H a (ns.map V.int):=by
  rcases hS with (h | ⟨o,h⟩) | h
  ·rcases hO a with z | ⟨o,xs,z⟩
   ·rw [z] at h; cases h
   ·rw [z] at h; cases h
  ·exact .inl ⟨o,h⟩
  ·exact .inr h
 refine⟨[.dJ (ns.map D.int)],fun _=>none,fun d _=>d=.bl true,.cons (.dJ hF (bh.CT ns)) .nil,fun a g e=>(by cases e),⟨ns,rfl,hl,fun _=>rfl,fun _=>rfl⟩,fun d G' v H' e mv r=>?_⟩;subst e;cases r;rfl
theorem Pl{l:B9}{q:bE}{loose:List Str}{XP:(Str->Option Value)->Heap->Prop}{YP:World->Heap->Prop}{d:DefRec}{K:Params->ah}{k:Nat}{x:Str}(hn:l.most=some 63)(YC:d.params.defaults=[])(hr:mK k GZ)
  (hY:∀ (w:World) (h:Heap),YP w h->(K w.params).In h)
  (F:∀ (w:World) (mg:Str->Option Value) (fa:Addr) (h:Heap),(K w.params).In h->h.Ns bQ mg->mg d.name=some (.ref fa) ->
   ∃ fd:aJ,(∀ (s:ar) (u:Value),NY s fd ⟨[u],[]⟩ [(x,u)])/\∀ base:Heap,(K w.params).In base->base.Ns bQ mg->fV l.prog w (K w.params) mg base gP k fa fd [x] (dj (K w.params) Bb)) :
  PySem.W.WalkO q loose XP YP l.row.toRowW d [] (fun f vs=>Jw f vs) :=
 L2.RN (n:=63) (k:=k) (x:=x) (CX:=fun _=>gP) (sp:=fun w=>dj (K w.params) Bb) hn (by decide) YC hr hY F (fun _ _ _ _ hl hO hS=>Mf hO hS hl) fun _ _ _ _ _ z=>z
end
end K2
end
section
namespace K2
open PySem PySem.Spec PyProof.Rows L2
noncomputable def Ji:HO->Bool
 | .lst _=>true
 | .dK _=>true
 | .dT _=>true
 | _=>false
noncomputable def lS(h:Heap)(S:Addr->Bool)(H:Hp):Hp:=fun a=>match H a with
 | some u=>if (Ji u&&S a)=true then (match h.get? a with
  | some o=>some (.mP o u)
  | none=>some u) else some u
 | none=>none
section
variable {h:Heap} {S:Addr->Bool} {H:Hp} {a:Addr}
theorem IF(n:∀ u,H a=some u->Ji u=false):lS h S H a=H a:=by
 unfold lS;cases e:H a with
 | none=>rfl
 | some u=>simp only [n u e,p8,aQ,if_false]
theorem uX(hs:S a=false):lS h S H a=H a:=by
 unfold lS;cases e:H a with
 | none=>rfl
 | some u=>simp only [hs,JE,aQ,if_false]
theorem rJ{u:HO}{o:Obj}(hs:S a=true)(e:H a=some u)(hu:Ji u=true)(ho:h.get? a=some o):lS h S H a=some (.mP o u):=by
 unfold lS;simp only [e,hs,hu,Bool.and_self,if_true,ho]
theorem oF(e:H a=none):lS h S H a=none:=by unfold lS; rw [e]
theorem nG{u:HO}(e:H a=some u)(hu:Ji u=false):lS h S H a=some u:=by rw [IF (fun v z=>by rw [e] at z; cases z; exact hu)]; exact e
theorem uY:Kp H (lS h S H):=⟨fun a xs e=>nG e rfl,fun a o u e=>nG e rfl⟩
end
section
variable {X:Cx} {pins:List (Addr×Obj)} {σ:L2.St} {H:Hp} {s:ar} {G:Gp}
theorem Inv.freeze(I : Inv X pins σ H s)(S : Addr -> Bool) : Inv X pins σ (lS s.heap S H) s where
  ok := I.ok
  os := I.os
  bare := I.bare
  base := { keep := I.base.keep, slot := I.base.slot, there := I.base.there
            free := fun b o q n hx => oF (I.base.free b o q n hx)
            vX := fun b xs q => nG (I.base.vX b xs q) rfl
            uW := fun b o u q => nG (I.base.uW b o u q) rfl
            vY := fun b ps q => nG (I.base.vY b ps q) rfl }
  loc := I.loc
  cell := I.cell
  free := oF I.free
  mG := fun x c e => oF (I.mG x c e)
  pin := fun p hp => let ⟨h1, h2, h3⟩ := I.pin p hp; ⟨h1, oF h2, h3⟩
  cz := fun a o q => by
    have st : ∀ u, H a = some u -> gC X.prog X.w (lS s.heap S H) s.heap a u := fun u e =>
      (I.cz a u e).mW (fun b v _ r => r) (fun b r => nG r rfl) (fun b xs r => nG r rfl)
    cases e : H a with
    | none => rw [oF e] at q; cases q
    | some u =>
      by_cases hc : Ji u = true
      · by_cases hs : S a = true
        · obtain⟨ob, ho⟩ := kn (I.cz a _ e)
          rw [rJ hs e hc ho] at q;cases q;exact⟨ho, st _ e⟩
        · rw [uX (by simpa using hs), e] at q
          cases q;exact st _ e
      · rw [nG e (by simpa using hc)] at q
        cases q;exact st _ e
  len := I.len
noncomputable def iZ(R:Nat->Bool)(G:Gp):Addr->Bool:=fun a=>R a&&(G a).isSome
theorem MC(I:Inv X pins σ H s)(ab:lC X.K H G)(R:Nat->Bool):Mv X.K H G (lS s.heap (iZ R G) H) (AH R G) where
 keep:=fun a o e n=>by
  refine⟨by rw [uX (by simp [iZ,n])]; exact e,?_⟩;unfold AH; split
  ·rfl
  ·exact n
 mW:=fun a n=>by
  cases q:G a with
  | none=>exact absurd q n
  | some g =>
   have t:=(ab a g q).tracked;cases e:H a with
   | none=>exact absurd e t
   | some u =>
    unfold lS;rw [e];dsimp only;split
    ·split <;> simp
    ·simp
 ab:=fun a g e=>by
  unfold AH at e;split at e
  ·cases e
  ·rename_i hr;exact(ab a g e).mono uY (uX (by simp [iZ,hr]))
theorem P0(I:Inv X pins σ H s)(ab:lC X.K H G){R:Nat->Bool}:∀ {d t:D} {v:V},Fz G R d t->cB X.K H v d->cB X.K (lS s.heap (iZ R G) H) v t:=by
 intro d t v h;revert v;refine Fz.rec (motive_1:=fun d t _=>∀ {v:V},cB X.K H v d->cB X.K (lS s.heap (iZ R G) H) v t)
  (motive_2:=fun ds ts _=>∀ {vs:List V},bh X.K H vs ds->bh X.K (lS s.heap (iZ R G) H) vs ts)
  (motive_3:=fun ds ts _=>(∀ {vs:List (Key×V)},oe X.K H vs ds->oe X.K (lS s.heap (iZ R G) H) vs ts)/\∀ {vs:List (List Key×V)},lB X.K H vs ds->lB X.K (lS s.heap (iZ R G) H) vs ts)
  ?_ ?_ ?_ ?_ ?_ ?_ ?_ ?_ ?_ h
 ·intro d v r; exact r.mono uY
 ·intro ds ss _ ih v r;cases r with
  | tup h rs=>exact .tup (uY.tup _ _ h) (ih rs)
 ·intro ds ss _ ih v r;cases r with
  | dJ h rs=>exact .dJ (uY.TF h) (ih rs)
 ·intro a ds ss g hr _ ih v r;cases r;obtain⟨vs,hv,rs⟩:=ab a _ g;obtain⟨ob,ho⟩:=kn (I.cz a _ hv);exact .dJ (.inl ⟨_,rJ (by simp [iZ,hr,g]) hv rfl ho⟩) (ih rs)
 ·intro a ds ss g hr _ ih v r;cases r;rcases ab a _ g with ⟨kv,hv,rs⟩ | ⟨kv,hv,rs⟩
  ·obtain⟨ob,ho⟩:=kn (I.cz a _ hv);exact .nV (rJ (by simp [iZ,hr,g]) hv rfl ho) (ih.1 rs)
  ·obtain⟨ob,ho⟩:=kn (I.cz a _ hv);exact .nU (rJ (by simp [iZ,hr,g]) hv rfl ho) (ih.2 rs)
 ·intro vs r; cases r; exact .nil
 ·intro d s ds ss _ _ i1 i2 vs r;cases r with
  | cons r rs=>exact .cons (i1 r) (i2 rs)
 ·exact⟨fun r=>by cases r; exact .nil,fun r=>by cases r; exact .nil⟩
 ·intro k d s ds ss _ _ i1 i2;exact⟨fun r=>by cases r with | cons r rs=>exact .cons (i1 r) (i2.1 rs),fun r=>by cases r with | cons r rs=>exact .cons (i1 r) (i2.2 rs)⟩
variable {e:Expr} {te:fC} {st:Stmt} {t:iO}
theorem cP(he:gf X e te):gf X e (gB te):=by
 intro E pins s σ H τ G Q hE I h;refine fZ (he E pins s σ H τ G _ hE I h) ?_;rintro u s1 ⟨v,H1,d,G1,I1,m,r,rd,R,t,hf,q⟩;exact⟨v,_,t,_,Inv.freeze I1 _,m.trans (MC I1 m.ab R),r,P0 I1 m.ab hf rd,q⟩
end
end K2
end
section
namespace K2
open PySem PySem.Spec PyProof.Rows L2
theorem zL:dR "len" = some (.builtin "len"):=by decide +kernel
theorem Wj:dR "min" = some (.builtin "min"):=by decide +kernel
theorem B1:dR "sorted" = some (.builtin "sorted"):=by decide +kernel
theorem DG:dR "list" = some (.type "list"):=by decide +kernel
theorem Wl:dR "int" = some (.type "int"):=by decide +kernel
theorem Tj:dR "bool" = some (.type "bool"):=by decide +kernel
section
variable {X:Cx} {a b c e o:Expr} {es:List Expr} {ta tb tc te to:fC} {t:Gu} {pos p p2 apos jq:Pos} {x name:Str} {id T:String} {k:Nat} {f:Addr} {fd:aJ} {ps:List Str} {sp:om}
theorem bO(F:fV X.prog X.w X.K X.mg X.base gP k f fd ps (dj X.K sp))(hr:mK k X.A)(hg:Gl X x)(hm:X.mg x=some (.ref f))(hk:lF X.K (.ref f)=true)(hb:Binds X.K fd ps [])
  (ha:Gv X (e :: es) t) (Mu:(x == ("__debug__" : Str))=false:=by decide) (he:bL (e :: es) X.env=(false,eval e X.env) :: bL es X.env:=by rfl) (BH:(jr pos (bL es X.env)).any (·.1)=false:=by rfl) :
  gf X (.Call (.Name x p) (e :: es) [] pos) (cE sp t):=OY F hr hg hm hk hb ha Mu he BH
end
end K2
end
section
namespace L2
open PySem PySem.Spec PyProof.Rows
section
variable {X:Cx} {pins:List (Addr×Obj)} {σ:St} {H:Hp} {s:ar} {h':Heap}
theorem Inv.tX{t':Nat}{fp:List Addr}(I:Inv X pins σ H s)(hf:∀ b∈fp,ng X pins H b)(k:∀ b o,b∉fp->s.heap.get? b=some o->h'.get? b=some o):Inv X pins σ H { s with heap:=h',toks:=t' }:=by
 have nt:∀ b u,H b=some u->b∉fp:=fun b u e z=>by rw [(hf b z).1] at e; cases e
 refine I.step (g':=s.gens) (d':=s.drawn) (ch:=fp) (fun b hb=>?_) (fun b o _ _ hc e _=>k b o hc e) (fun b o _ _ hc e _=>⟨o.slots,k b o hc e⟩) (fun _ _ _ _ n=>n)
  (fun b o hc e=>⟨o,k b o hc e⟩) (fun _ _ e=>e) (fun _ _ _ e=>e) (fun _ _ e=>e) (fun m hm=>?_) (fun b u e=>?_) I.bare
 ·obtain⟨f0,f1,f2,f3,f4,f5⟩:=hf b hb;exact⟨f3,f1,f4,f5⟩
 ·obtain⟨o,es,ep,ho,r⟩:=hm;exact⟨o,es,ep,k _ _ (fun z=>(hf _ z).2.1 rfl) ho,r⟩
 ·refine(I.cz b u e).mW (fun c v hc r=>k c v ?_ r) (fun _ z=>z) (fun _ _ z=>z);rcases hc with rfl | hc
  ·exact nt _ _ e
  ·exact nt _ _ hc
theorem Inv.Cp{t':Nat}{fp:List Addr}{T:Addr}{vs:List V}(I:Inv X pins σ H s)(hf:∀ b∈fp,ng X pins H b)(k:∀ b o,b∉fp->s.heap.get? b=some o->h'.get? b=some o)(hT:s.heap.objs.size<=T)
  (new:gC X.prog X.w (upd H T (.tup vs)) h' T (.tup vs)):Inv X pins σ (upd H T (.tup vs)) { s with heap:=h',toks:=t' }:=by
 have hn:H T=none:=I.cz.fresh hT;have ht:∀ b o,s.heap.get? b=some o->b≠T:=fun b o e z=>by subst z; exact absurd (aL e) (Nat.not_lt.mpr hT)
 have nt:∀ b u,H b=some u->b∉fp:=fun b u e z=>by rw [(hf b z).1] at e; cases e
 have ne:∀ b u,H b=some u->b≠T:=fun b u e=>eF e hn;refine I.step (g':=s.gens) (d':=s.drawn) (ch:=fp) (fun b hb=>?_) (fun b o _ _ hc e _=>k b o hc e) (fun b o _ _ hc e _=>⟨o.slots,k b o hc e⟩) (fun b o _ e n=>by rw [bN (ht b o e)]; exact n)
  (fun b o hc e=>⟨o,k b o hc e⟩) (fun b xs e=>by rw [bN (ne _ _ e)]; exact e) (fun b o u e=>by rw [bN (ne _ _ e)]; exact e) (fun b ps e=>by rw [bN (ne _ _ e)]; exact e) (fun m hm=>?_) (fun b u e=>?_) I.bare
 ·obtain⟨f0,f1,f2,f3,f4,f5⟩:=hf b hb;exact⟨f3,f1,f4,f5⟩
 ·obtain⟨o,es,ep,ho,r⟩:=hm;exact⟨o,es,ep,k _ _ (fun z=>(hf _ z).2.1 rfl) ho,r⟩
 ·by_cases hb:b=T
  ·subst hb; rw [cJ] at e; cases e; exact new
  ·rw [bN hb] at e;refine(I.cz b u e).mW (fun c v hc r=>k c v ?_ r) (fun c z=>by rw [bN (ne _ _ z)]; exact z) (fun c xs z=>by rw [bN (ne _ _ z)]; exact z);rcases hc with rfl | hc
   ·exact nt _ _ e
   ·exact nt _ _ hc
theorem ng.upd{b T:Addr}{o:HO}(h:ng X pins H b)(hb:b≠T):ng X pins (L2.upd H T o) b:=by
 obtain⟨f0,r⟩:=h;exact⟨by rw [bN hb]; exact f0,r⟩
end
end L2
namespace K2
open PySem PySem.Spec PyProof.Rows L2
section
variable {X:Cx} {elts:List Expr} {kk:Nat} {yk:Pos} {a b:Expr} {ta tb:fC} {pos p:Pos}
theorem vo:dR "enumerate" = some (.type "enumerate"):=by decide +kernel
theorem Wi:dR "zip" = some (.type "zip"):=by decide +kernel
end
end K2
end
section
namespace K2
open PySem PySem.Spec PyProof.Rows L2
section
variable {X:Cx} {o i a b:Expr} {to ti ta tb:fC} {pos p:Pos}
theorem g6(hu:X.A.units+64 < cLine)(ho:gf X o to)(hi:gf X i ti)
  (ha:∀ v,NQ (.Subscript o i pos) X.env v=(do
   let ov ← GY [v] (eval o X.env)
   let iv ← GY [v,ov] (eval i X.env)
   standAt pos
   GY [v,ov,iv] (setItem ov iv v)
   release [v,ov,iv] []):=by intro _; rfl):NA X (.Subscript o i pos) (lA to ti):=by
 intro E pins s σ H τ G w d u Q hE I r rd h;rw [ha];refine ae (cX (j5 ho hE I h fun x H1 dx G1 ov s1 I1 m1 r1 iT q1=>?_));refine ae (cX (j5 hi hE I1 q1 fun y H2 dy G2 iv s2 mQ m2 r2 xH q2=>?_));refine ae (D7 (ae (cX ?_)));have ZA:=m1.trans m2;have Zv:=rd.mono (ZA.kp I.ab);have xj:=I.st.mono (ZA.kp I.ab);have rx':=iT.mono (m2.kp I1.ab);unfold sr at q2;split at q2
 ·rename_i l;cases rx';cases r1;split at q2
  ·rename_i xs hg;obtain⟨vs,hv,rs⟩:=mQ.ab.lst hg;split at q2
   ·rename_i k;cases xH;split at q2
    ·rename_i j hj;have m3:Mv X.K H2 G2 (upd H2 l (.lst (vs.set j w))) (c6 G2 l (.lst (xs.set j d))):=.putL mQ.ab hg hv (rs.set Zv j);refine fZ (set_list pins s2 σ H2 (.ref l) (.int k) w _ _ _ (fun H3=>H3=upd H2 l (.lst (vs.set j w))) mQ.inv rfl r2 r ⟨l,vs,k,j,rfl,rfl,hv,?_,rfl⟩) ?_
     ·rw [rs.length]; exact hj
     ·rintro _ s3 ⟨H3,I3,e3⟩;subst e3;exact wpAny_release ⟨σ,_,τ,_,⟨I3,xj.mono (m3.kp mQ.ab),m3.ab⟩,ZA.trans m3,q2⟩
    ·exact q2.elim
   ·exact q2.elim
  ·rename_i kvs hg;obtain⟨hk,hz,q⟩:=q2;obtain⟨H3,H4,I3,dp,m3⟩:=Qv mQ.inv mQ.ab hg hk hz xH Zv;exact MQ (by lia) I3 dp r2 r fun s4 I4=>wpAny_release ⟨σ,H4,τ,_,⟨I4,xj.mono (m3.kp mQ.ab),m3.ab⟩,ZA.trans m3,q⟩
  ·exact q2.elim
 ·exact q2.elim
end
end K2
end
section
namespace L2
open PySem PySem.Spec PyProof.Rows
theorem t4{X:Cx}{pins:List (Addr×Obj)}{σ:St}{H:Hp}{s:ar}{l b:Addr}{xs:List V}(I:Inv X pins σ H s)(hq:oK X.K H l xs)(hf:ng X pins H b):l≠b:=by
 rintro rfl;obtain⟨f0,f1,f2,f3,f4,f5⟩:=hf;rcases hq with (h | ⟨o,h⟩) | ⟨o,bw,n,h,_⟩
 ·rw [f0] at h; cases h
 ·rw [f0] at h; cases h
 ·have hb:=I.ok.mod.VC _ _ h;rcases f3 with f3 | f3
  ·exact I.ok.L8 _ _ hb f3
  ·exact absurd (aL (I.ok.bs _ _ hb).1) (Nat.not_lt.mpr f3)
noncomputable def Itz(K:ah)(a b:Addr):It :=
  ⟨fun i H=>∃ xs x ys y,oK K H a xs/\xs[i]?=some x/\oK K H b ys/\ys[i]?=some y,
   fun i H v H'=>∃ T x y,v=.ref T/\H T=none/\H'=upd H T (.tup [x,y])/\(∀ xs,oK K H a xs->xs[i]?=some x)/\∀ ys,oK K H b ys->ys[i]?=some y,
   fun i H=>∃ xs ys,oK K H a xs/\oK K H b ys/\(xs.length<=i\/ys.length<=i)⟩
structure Zc(z TI TO i1 i2 a b:Addr)(i:Nat)(h:Heap):Prop where
 hz:IsZip h z TI TO .none
 hI:IsPair h TI (.ref i1) (.ref i2)
 hO:∃ x y,IsPair h TO x y
 h1:h.IsListIter i1 a i
 h2:h.IsListIter i2 b i
theorem Oc{P:bE}{w:World}{K:ah}{elts:List Expr}{kk:Nat}{pos:Pos}(a b z TI TO i1 i2:Addr)(nd:[z,TI,TO,i1,i2].Nodup) :
  Turn P w K (.Tuple elts kk pos) (Itz K a b) [z,TI,TO,i1,i2] z (Zc z TI TO i1 i2 a b) where
 mem:=by simp
 obj:=fun i h st c hc=>by
  simp only [hX,fD,or_false] at hc;rcases hc with rfl | rfl | rfl | rfl | rfl
  ·exact⟨_,st.hz,fun v q=>by cases q⟩
  ·exact⟨_,st.hI,fun v q=>by cases q⟩
  ·obtain⟨x,y,h⟩:=st.hO; exact⟨_,h,fun v q=>by cases q⟩
  ·obtain⟨o,e,_,d⟩:=st.h1; exact⟨o,e,fun v q=>by rw [d] at q; cases q⟩
  ·obtain⟨o,e,_,d⟩:=st.h2; exact⟨o,e,fun v q=>by rw [d] at q; cases q⟩
 keep:=fun i h h' st k=>⟨k _ (by simp) _ st.hz,k _ (by simp) _ st.hI,let ⟨x,y,q⟩:=st.hO; ⟨x,y,k _ (by simp) _ q⟩,st.h1.at fun o q=>k _ (by simp) o q,st.h2.at fun o q=>k _ (by simp) o q⟩
 item:=by
  intro X hP hw hK hc i pins s σ H E I hf st hg;subst hP hw hK;obtain⟨xs,x,ys,y,Rj,hx,Ri,hy⟩:=hg;obtain⟨Pu,Wy,p1,hz1⟩:=I.list Rj;obtain⟨r8,LN,p2,hz2⟩:=I.list Ri;obtain⟨u1,hu1,Xl⟩:=Wy.get hx;obtain⟨u2,hu2,Xk⟩:=LN.get hy;obtain⟨xo,yo,hO⟩:=st.hO;have ap:∀ c∈[z,TI,TO,i1,i2],a≠c/\b≠c:=fun c hc=>⟨t4 I Rj (hf c hc),t4 I Ri (hf c hc)⟩;simp only [cF,hX,fD,or_false,not_or] at nd;obtain⟨⟨n1,n2,n3,n4⟩,⟨n5,n6,n7⟩,⟨n8,n9⟩,n10,_⟩:=nd;have Dz:ZipApart z TI TO i1 i2 a b:=⟨cW n1,cW n2,cW n3,cW n4,n5,n6,n7,n8,n9,n10,(ap z (by simp)).1,(ap TO (by simp)).1,(ap i1 (by simp)).1,(ap i2 (by simp)).1,(ap z (by simp)).2,(ap TO (by simp)).2,(ap i1 (by simp)).2,(ap i2 (by simp)).2⟩;have YJ:H s.heap.objs.size=none:=I.cz.fresh (aC _);have inH:∀ c∈[z,TI,TO,i1,i2],c≠s.heap.objs.size:=fun c hc=>by
   simp only [hX,fD,or_false] at hc;rcases hc with rfl | rfl | rfl | rfl | rfl
   ·exact bB (aL st.hz)
   ·exact bB (aL st.hI)
   ·exact bB (aL hO)
   ·obtain⟨o,e,_⟩:=st.h1; exact bB (aL e)
   ·obtain⟨o,e,_⟩:=st.h2; exact bB (aL e)
  refine wpAny_pyNext_zip_item Dz st.hz st.hI hO st.h1 st.h2 p1.isList p2.isList (x:=u1) (y:=u2) (by simpa using hu1) (by simpa using hu2) fun h' a1 a2 a3 a4 a5 a6 a7=>?_;refine⟨_,rfl,?_⟩;have k1:∀ c o,c∉[z,TI,TO,i1,i2]->s.heap.get? c=some o->h'.get? c=some o:=fun c o hc q =>
   a7 c o (fun e=>hc (by simp [e])) (fun e=>hc (by simp [e])) (fun e=>hc (by simp [e])) (fun e=>hc (by simp [e])) q
  have I1:Inv X pins σ (upd H s.heap.objs.size (.tup [x,y])) { s with heap:=h' } :=
   I.Cp (t':=s.toks) (fp:=[z,TI,TO,i1,i2]) hf k1 (aC _) ⟨by show 2<=bo; decide,[u1,u2],.cons Xl (.cons Xk .nil),⟨_,a5,rfl,_,rfl⟩⟩
  refine wpAny_letOwnedTupleGo_zip (s:={ s with heap:=h' }) a1 fun h2 hz2 zc=>?_;have f1:∀ c∈[z,TI,TO,i1,i2],ng X pins (upd H s.heap.objs.size (.tup [x,y])) c:=fun c hc=>(hf c hc).upd (inH c hc);have I2:Inv X pins σ (upd H s.heap.objs.size (.tup [x,y])) { s with heap:=h2 } :=
   Inv.tX (s:={ s with heap:=h' }) (t':=s.toks) (fp:=[z,TI,TO,i1,i2]) I1 f1 fun c o hc q=>(zc.2 c (fun e=>hc (by simp [e]))).trans q
  have hI':IsPair h' TI (.ref i1) (.ref i2):=a7 TI _ (cW n1) n5 n6 n7 st.hI;refine⟨.ref s.heap.objs.size,_,I2,rfl,⟨_,x,y,rfl,YJ,rfl,fun zs hs=>by rw [I.uD hs Rj]; exact hx,fun zs hs=>by rw [I.uD hs Ri]; exact hy⟩,⟨hz2,?_,⟨u1,u2,?_⟩,?_,?_⟩,fun c hc=>(f1 c hc).1⟩
  ·exact(zc.2 TI (cW n1)).trans hI'
  ·exact(zc.2 TO (cW n2)).trans a2
  ·exact a3.at fun o q=>(zc.2 i1 (cW n3)).trans q
  ·exact a4.at fun o q=>(zc.2 i2 (cW n4)).trans q
 done:=by
  intro X hP hw hK hc i pins s σ H E I hf st hg;subst hP hw hK;obtain⟨xs,ys,Rj,Ri,hx⟩:=hg;obtain⟨Pu,Wy,p1,hz1⟩:=I.list Rj;obtain⟨r8,LN,p2,hz2⟩:=I.list Ri;have T8:=Wy.length;have Rm:=LN.length;obtain⟨xo,yo,hO⟩:=st.hO;have ap:∀ c∈[z,TI,TO,i1,i2],a≠c/\b≠c:=fun c hc=>⟨t4 I Rj (hf c hc),t4 I Ri (hf c hc)⟩;simp only [cF,hX,fD,or_false,not_or] at nd;obtain⟨⟨n1,n2,n3,n4⟩,⟨n5,n6,n7⟩,⟨n8,n9⟩,n10,_⟩:=nd;have Dz:ZipApart z TI TO i1 i2 a b:=⟨cW n1,cW n2,cW n3,cW n4,n5,n6,n7,n8,n9,n10,(ap z (by simp)).1,(ap TO (by simp)).1,(ap i1 (by simp)).1,(ap i2 (by simp)).1,(ap z (by simp)).2,(ap TO (by simp)).2,(ap i1 (by simp)).2,(ap i2 (by simp)).2⟩;refine wpAny_pyNext_zip_end (I.ok.hd hc) Dz st.hz st.hI hO st.h1 st.h2 p1.isList p2.isList (by
   rcases hx with hx | hx
   ·left; simp; lia
   ·right; simp; lia) fun h' k1=>⟨rfl,?_⟩
  exact I.tX (t':=s.toks) (fp:=[z,TI,TO,i1,i2]) hf fun c o hc q=>k1 c o (fun e=>hc (by simp [e])) (fun e=>hc (by simp [e])) (fun e=>hc (by simp [e])) (fun e=>hc (by simp [e])) q
 self:=fun A i s Q E st h=>wpAny_pyIter_zip st.hz h
end L2
namespace K2
open PySem PySem.Spec PyProof.Rows L2
section
variable {X:Cx} {elts:List Expr} {kk:Nat} {yk:Pos} {a b:Expr} {ta tb:fC} {pos p:Pos}
theorem E2{pins:List (Addr×Obj)}{s:ar}{σ:L2.St}{H:Hp}{G:Gp}{x:V}{d:D}{v:Value}{ds:List D}{ok:Gp->Prop}(I:Inv X pins σ H s)(ab:lC X.K H G)(rx:RelV x v)(rd:cB X.K H x d)(hi:uC d G=some (ds,ok)) :
  ∃ l vs,v=.ref l/\oK X.K H l vs/\bh X.K H vs ds/\∀ H2 G2,Kp H H2->lC X.K H2 G2->ok G2->∃ ws,oK X.K H2 l ws/\bh X.K H2 ws ds:=by
 cases rd with
 | dJ hq rs=>cases hi; cases rx; exact⟨_,_,rfl,hq.sq,rs,fun H2 G2 k ab _=>⟨_,(k.TF hq).sq,rs.mono k⟩⟩
 | ref l =>
  unfold uC at hi;dsimp only at hi;cases hg:G l with
  | none=>rw [hg] at hi; cases hi
  | some gg =>
   rw [hg] at hi;cases gg with
   | lst zs =>
    cases hi;cases rx;obtain⟨vs,hv,rs⟩:=ab.lst hg;refine⟨_,_,rfl,.of hv,rs,fun H2 G2 k ab o=>?_⟩;obtain⟨ws,hw,rY⟩:=ab.lst o;exact⟨ws,.of hw,rY⟩
   | ja _=>cases hi
 | _=>cases hi
theorem Kh (hg:Gl X "zip") (hm:X.mg "zip" = none) (ha:gf X a ta) (hb:gf X b tb) (hs:bL [a,b] X.env=[(false,eval a X.env),(false,eval b X.env)]:=by rfl) (zc:bL [b] X.env=[(false,eval b X.env)]:=by rfl) :
  M0 X (.Tuple elts kk yk) (.Call (.Name "zip" p) [a,b] [] pos) (PG ta tb):=by
 intro E pins s σ H τ G R hE I h;have hA:Gv X [a,b] (aI ta (aI tb bx)):=ax ha (ax hb aO zc) (by rw [hs,zc]);refine Call_ (lq I.inv hg hm Wi (du (ym hA pos hE I (R:=aaQ fun x y G1=>sV x y G1 R) h fun vs H1 ds G1 us s1 I1 m1 r1 iT q1=>?_) (by rw [hs,zc]) (by rw [zc]; rfl)))
 match ds,q1 with
 | [x,y],q1 =>
  change sV x y G1 R at q1;obtain⟨w1,w2,rfl,CC,rw2⟩:=iT.two;obtain⟨u1,u2,rfl,Xl,Xk⟩:=vals2 r1;unfold sV at q1;split at q1
  ·rename_i xs k1 ys k2 e1 e2;obtain⟨l1,v1,rfl,Rj,rs1,st1⟩:=E2 I1.inv I1.ab Xl CC e1;obtain⟨l2,v2,rfl,Ri,Nq,Np⟩:=E2 I1.inv I1.ab Xk rw2 e2;obtain⟨Pu,Wy,pl1,_⟩:=I1.inv.list Rj;obtain⟨r8,LN,pl2,_⟩:=I1.inv.list Ri;refine call_zip_2 pl1.isList pl2.isList fun h' z1 z2 z3 z4 z5 z6 z7=>?_;refine wpAny_pyIter_zip z1 ?_;refine⟨_,[s1.heap.objs.size+4,s1.heap.objs.size+2,s1.heap.objs.size+3,s1.heap.objs.size,s1.heap.objs.size+1],_,_,H1,G1,oW xs ys,_,rfl,I1.inv.kept (t':=s1.toks) z7,m1,
    Oc l1 l2 _ _ _ _ _ (by simp),⟨z1,z2,⟨_,_,z3⟩,z4,z5⟩,fun c hc=>?_,fun i H2 G2 k ab o=>?_,q1⟩
   ·have Ub:s1.heap.objs.size<=c:=by
     simp only [hX,fD,or_false] at hc;rcases hc with rfl | rfl | rfl | rfl | rfl
     ·exact eX _ _
     ·exact eX _ _
     ·exact eX _ _
     ·exact aC _
     ·exact eX _ _
    exact I1.inv.Fy Ub (I1.inv.cz.fresh Ub)
   ·obtain⟨ws1,hw1,iT⟩:=st1 H2 G2 k ab o.1;obtain⟨ws2,hw2,xH⟩:=Np H2 G2 k ab o.2;refine⟨fun d hd=>?_,fun hl=>⟨ws1,ws2,hw1,hw2,?_⟩⟩
    ·rw [Ei] at hd;cases hx:xs[i]? with
     | none=>rw [hx] at hd; cases hd
     | some x' =>
      cases hy:ys[i]? with
      | none=>rw [hx,hy] at hd; cases hd
      | some y' =>
       rw [hx,hy] at hd;have ed:D.tup [x',y']=d:=by simpa using hd
       subst ed;obtain⟨vx,hvx,rx⟩:=iT.get hx;obtain⟨vy,hvy,ry⟩:=xH.get hy;refine⟨⟨ws1,vx,ws2,vy,hw1,hvx,hw2,hvy⟩,?_⟩;rintro v H3 ⟨T,px,py,ex,hT,e3,hx3,hy3⟩;subst ex e3;have q1:=hx3 ws1 hw1;have q2:=hy3 ws2 hw2;rw [hvx] at q1;rw [hvy] at q2;cases q1; cases q2;exact⟨.tup cJ (.cons (rx.mono (.new hT)) (.cons (ry.mono (.new hT)) .nil)),.Nt ab hT⟩
    ·rw [Eg] at hl;rw [iT.length,xH.length];lia
  ·exact q1.elim
 | [],q1=>exact q1.elim
 | [_],q1=>exact q1.elim
 | _ :: _ :: _ :: _,q1=>exact q1.elim
end
end K2
end
section
namespace K2
open PySem PySem.W PyProof.Rows
noncomputable def gU{α:Type}(lt:Nat->Nat->Bool):KasT α->α
 | .ret a=>a
 | .ask i j k=>gU lt (k (lt i j))
theorem lY{α β:Type}(lt:Nat->Nat->Bool)(f:α->KasT β):∀ t:KasT α,gU lt (t.bind f)=gU lt (f (gU lt t))
 | .ret _=>rfl
 | .ask i j k=>lY lt f (k (lt i j))
noncomputable abbrev gA(p:Array Nat)(k:Nat):Nat:=p.getD k 0
theorem BM(p:Array Nat)(k:Nat):gA p k=(p[k]?).getD 0:=by
 unfold gA; rw [bg]
structure Lo(lt:Nat->Nat->Bool):Prop where
 asymm:∀ i j,lt i j=true->lt j i=false
 trans:∀ i j k,lt j i=false->lt k j=false->lt k i=false
theorem Lo.refl{lt:Nat->Nat->Bool}(w:Lo lt)(i:Nat):lt i i=false:=by
 cases h:lt i i with
 | false=>rfl
 | true=>rw [w.asymm _ _ h] at h; cases h
noncomputable def Up(lt:Nat->Nat->Bool)(p:Array Nat)(m:Nat):Prop:=∀ i j,i<=j->j < m->lt (gA p j) (gA p i)=false
noncomputable def Dn(lt:Nat->Nat->Bool)(p:Array Nat)(m:Nat):Prop:=∀ i j,i<=j->j < m->lt (gA p i) (gA p j)=false
section
variable {lt:Nat->Nat->Bool}
theorem Up.more(w:Lo lt){p:Array Nat}{n m:Nat}(h1:1<=n)(h:Up lt p n)(hs:∀ k,n<=k->k < m->lt (gA p k) (gA p (k - 1))=false):Up lt p m:=by
 intro i j IC hjm;induction j with
 | zero =>
  have:i=0:=by lia
  subst this; exact w.refl _
 | succ j ih =>
  by_cases hj:j+1 < n
  ·exact h i (j+1) IC hj
  ·by_cases e:i=j+1
   ·subst e; exact w.refl _
   ·have h1:=ih (by lia) (by lia);have h2:=hs (j+1) (by lia) hjm;exact w.trans _ _ _ h1 h2
theorem JW(p:Array Nat):∀ (f n:Nat),n<=gU lt (qg p f n)/\gU lt (qg p f n)<=n+f/\(∀ k,n<=k->k < gU lt (qg p f n)->lt (gA p k) (gA p (k - 1))=false) /\
  (gU lt (qg p f n) < n+f->lt (gA p (gU lt (qg p f n))) (gA p (gU lt (qg p f n) - 1))=true):=by
 intro f;induction f with
 | zero=>intro n; exact⟨aC _,aC _,fun k h1 h2=>absurd (show k < n from h2) (by lia),fun h=>absurd (show n < n+0 from h) (by lia)⟩
 | succ f ih =>
  intro n;have e:gU lt (qg p (f+1) n)=if lt (gA p n) (gA p (n - 1))=true then n else gU lt (qg p f (n+1)):=by
   show gU lt (if lt (gA p n) (gA p (n - 1))=true then vT n else qg p f (n+1))=_;split <;> rfl
  rw [e];by_cases c:lt (gA p n) (gA p (n - 1))=true
  ·rw [if_pos c];exact⟨aC _,by lia,fun k h1 h2=>absurd h2 (by lia),fun _=>c⟩
  ·rw [if_neg c];obtain⟨h1,h2,h3,h4⟩:=ih (n+1);refine⟨by lia,by lia,fun k k1 k2=>?_,fun h=>h4 (by lia)⟩;by_cases e:k=n
   ·subst e; simpa using c
   ·exact h3 k (by lia) k2
theorem gR{p:Array Nat}{i j:Nat}(hj:j<=p.size)(k:Nat):gA (gi p i j) k=if i<=k/\k < j then gA p (i+j - 1 - k) else gA p k:=by
 rw [BM,gi,getElem?_mirror_all hj];split <;> rw [BM]
theorem mq(p:Array Nat)(i j:Nat):(gi p i j).size=p.size:=mirror_size _ _ _ _
theorem jJ(p:Array Nat)(i j:Nat):(gi p i j).Perm p:=mirror_perm _ _ _ _
theorem Dn.rev{p:Array Nat}{a n:Nat}(w:Lo lt)(hn:n<=p.size)(h:Dn lt p n)(he:∀ k,a<=k->k < n->lt (gA p (n - 1)) (gA p k)=false):Dn lt (gi p a n) n:=by
 intro i j IC Yt;rw [gR hn,gR hn];by_cases hi:a<=i
 ·rw [if_pos ⟨hi,by lia⟩,if_pos ⟨by lia,Yt⟩];exact w.trans _ _ _ (he (a+n - 1 - j) (by lia) (by lia)) (h (a+n - 1 - i) (n - 1) (by lia) (by lia))
 ·rw [if_neg (by lia)];by_cases hj:a<=j
  ·rw [if_pos ⟨hj,Yt⟩];exact h i (a+n - 1 - j) (by lia) (by lia)
  ·rw [if_neg (by lia)];exact h i j IC Yt
noncomputable def Eqs(lt:Nat->Nat->Bool)(p:Array Nat)(n q:Nat):Prop:=q+1<=n/\∀ k,n - (q+1)<=k->k < n->lt (gA p (n - 1)) (gA p k)=false
theorem Dn.one(w:Lo lt){p:Array Nat}{n:Nat}(h1:1<=n)(h:Dn lt p n)(hc:lt (gA p (n - 1)) (gA p n)=false):Dn lt p (n+1):=by
 intro i j IC hj;by_cases e:j=n
 ·subst e;by_cases e2:i=j
  ·subst e2; exact w.refl _
  ·exact w.trans _ _ _ hc (h i (j - 1) (by lia) (by lia))
 ·exact h i j IC (by lia)
theorem OC(w:Lo lt):∀ (f:Nat) (p:Array Nat) (n q:Nat),n+f<=p.size->Dn lt p n->Eqs lt p n q->∃ p' n' q',gU lt (k7 f p n q)=(p',n',q')/\p'.Perm p/\p'.size=p.size/\n<=n'/\n'<=n+f/\Dn lt p' n'/\Eqs lt p' n' q':=by
 intro f;induction f with
 | zero=>intro p n q _ hd he; exact⟨p,n,q,rfl,mM _,rfl,aC _,aC _,hd,he⟩
 | succ f ih =>
  intro p n q hs hd he;have h1:1<=n:=by have:=he.1; lia
  have e:gU lt (k7 (f+1) p n q)=if lt (gA p n) (gA p (n - 1))=true then (if q > 0 then gU lt (k7 f (gi p (n - (q+1)) n) (n+1) 0) else gU lt (k7 f p (n+1) 0))
    else if lt (gA p (n - 1)) (gA p n)=true then (p,n,q) else gU lt (k7 f p (n+1) (q+1)):=by
   show gU lt (if lt (gA p n) (gA p (n - 1))=true then (if q > 0 then k7 f (gi p (n - (q+1)) n) (n+1) 0 else k7 f p (n+1) 0) else .ask (gA p (n - 1)) (gA p n) fun d=>if d=true then .ret (p,n,q) else k7 f p (n+1) (q+1))=_;split
   ·split <;> rfl
   ·show gU lt (if lt (gA p (n - 1)) (gA p n)=true then vT (p,n,q) else k7 f p (n+1) (q+1))=_;split <;> rfl
  rw [e];by_cases c:lt (gA p n) (gA p (n - 1))=true
  ·rw [if_pos c];have ca:=w.asymm _ _ c;by_cases hq:q > 0
   ·rw [if_pos hq];have d1:Dn lt (gi p (n - (q+1)) n) n:=hd.rev w (by lia) he.2;have en:gA (gi p (n - (q+1)) n) n=gA p n:=by rw [gR (by lia),if_neg (by lia)]
    have ca':lt (gA (gi p (n - (q+1)) n) (n - 1)) (gA (gi p (n - (q+1)) n) n)=false:=by
     rw [en,gR (by lia)];split
     ·-- an item of the Zq is above p n
      exact w.trans _ _ _ ca (hd _ (n - 1) (by lia) (by lia))
     ·exact ca
    obtain⟨p',n',q',z,h2,h3,h4,h5,h6,h7⟩:=ih (gi p (n - (q+1)) n) (n+1) 0 (by rw [mq]; lia) (d1.one w h1 ca') ⟨by lia,fun k k1 k2=>by
     have:k=n:=by lia
     subst this; exact w.refl _⟩
    exact⟨p',n',q',z,h2.trans (jJ _ _ _),h3.trans (mq _ _ _),by lia,by lia,h6,h7⟩
   ·rw [if_neg hq];obtain⟨p',n',q',z,h2,h3,h4,h5,h6,h7⟩:=ih p (n+1) 0 (by lia) (hd.one w h1 ca) ⟨by lia,fun k k1 k2=>by
     have:k=n:=by lia
     subst this; exact w.refl _⟩
    exact⟨p',n',q',z,h2,h3,by lia,by lia,h6,h7⟩
  ·rw [if_neg c];have c':lt (gA p n) (gA p (n - 1))=false:=by simpa using c
   by_cases d:lt (gA p (n - 1)) (gA p n)=true
   ·rw [if_pos d];exact⟨p,n,q,rfl,mM _,rfl,aC _,by lia,hd,he⟩
   ·rw [if_neg d];have d':lt (gA p (n - 1)) (gA p n)=false:=by simpa using d
    obtain⟨p',n',q',z,h2,h3,h4,h5,h6,h7⟩:=ih p (n+1) (q+1) (by lia) (hd.one w h1 d') ⟨by have:=he.1; lia,fun k k1 k2=>by
     rw [Nat.add_sub_cancel];by_cases e:k=n
     ·subst e; exact w.refl _
     ·exact w.trans _ _ _ (he.2 k (by lia) (by lia)) c'⟩
    exact⟨p',n',q',z,h2,h3,by lia,by lia,h6,h7⟩
theorem Dn.up{p:Array Nat}{n:Nat}(hn:n<=p.size)(h:Dn lt p n):Up lt (gi p 0 n) n:=by
 intro i j IC Yt;rw [gR hn,gR hn,if_pos ⟨by lia,Yt⟩,if_pos ⟨by lia,by lia⟩];exact h _ _ (by lia) (by lia)
theorem EA(w:Lo lt){p:Array Nat}{n nrem:Nat}(h1:1<=n)(hn:n<=nrem)(hs:nrem<=p.size)(h:Dn lt p n):∃ p' m,gU lt (NM n nrem p)=(m,p')/\p'.Perm p/\p'.size=p.size/\n<=m/\m<=nrem/\Up lt p' m:=by
 obtain⟨a1,a2,a3,_⟩:=JW (lt:=lt) (gi p 0 n) (nrem - n) n;refine⟨gi p 0 n,gU lt (qg (gi p 0 n) (nrem - n) n),by rw [NM,lY]; rfl,jJ _ _ _,mq _ _ _,a1,by lia,?_⟩;exact(h.up (by lia)).more w h1 a3
theorem ud(w:Lo lt){p:Array Nat}{n nrem:Nat}(h1:1<=n)(hn:n < nrem)(hs:nrem<=p.size)(h:Dn lt p n)(hc:lt (gA p (n - 1)) (gA p n)=false) :
  ∃ p' m,gU lt (x8 n nrem p)=(m,p')/\p'.Perm p/\p'.size=p.size/\n<=m/\m<=nrem/\Up lt p' m:=by
 obtain⟨p1,n1,q1,z,z2,z3,z4,z5,z6,z7⟩:=OC w (nrem - (n+1)) p (n+1) 0 (by lia) (h.one w h1 hc) ⟨by lia,fun k k1 k2=>by
  have:k=n:=by lia
  subst this; exact w.refl _⟩
 rw [x8,lY,z];show ∃ p' m,gU lt (if q1 > 0 then NM n1 nrem (gi p1 (n1 - (q1+1)) n1) else NM n1 nrem p1)=(m,p')/\_;by_cases hq:q1 > 0
 ·rw [if_pos hq];obtain⟨p',m,y1,y2,y3,y4,y5,y6⟩:=EA (nrem:=nrem) w (p:=gi p1 (n1 - (q1+1)) n1) (by lia) (by lia) (by rw [mq]; lia) (z6.rev w (by lia) z7.2);exact⟨p',m,y1,(y2.trans (jJ _ _ _)).trans z2,(y3.trans (mq _ _ _)).trans z3,by lia,y5,y6⟩
 ·rw [if_neg hq];obtain⟨p',m,y1,y2,y3,y4,y5,y6⟩:=EA (nrem:=nrem) w (p:=p1) (by lia) (by lia) (by lia) z6;exact⟨p',m,y1,y2.trans z2,y3.trans z3,by lia,y5,y6⟩
theorem LP(w:Lo lt){p:Array Nat}{nrem:Nat}(h1:1<=nrem)(hs:nrem<=p.size):∃ p' m,gU lt (kas_count nrem p)=(m,p')/\p'.Perm p/\p'.size=p.size/\1<=m/\m<=nrem/\Up lt p' m:=by
 obtain⟨a1,a2,a3,a4⟩:=JW (lt:=lt) p (nrem - 1) 1;rw [kas_count,lY];generalize gU lt (qg p (nrem - 1) 1)=n at a1 a2 a3 a4;have u1:Up lt p 1:=fun i j IC hj=>by
  have:i=j:=by lia
  subst this; exact w.refl _
 have up:Up lt p n:=u1.more w (aC _) a3;by_cases e:n=nrem
 ·subst e;rw [if_pos (by simp)];exact⟨p,n,rfl,mM _,rfl,a1,aC _,up⟩
 ·rw [if_neg (by simpa using e)];have hb:=a4 (by lia);by_cases h2:n > 1
  ·rw [if_pos h2];show ∃ p' m,gU lt (if lt (gA p 0) (gA p (n - 1))=true then vT (n,p) else x8 n nrem (gi p 0 n))=(m,p')/\_;by_cases c:lt (gA p 0) (gA p (n - 1))=true
   ·rw [if_pos c];exact⟨p,n,rfl,mM _,rfl,a1,by lia,up⟩
   ·rw [if_neg c];have c':lt (gA p 0) (gA p (n - 1))=false:=by simpa using c
    have all:∀ i j,i < n->j < n->lt (gA p i) (gA p j)=false:=fun i j hi hj =>
     w.trans _ _ _ (w.trans _ _ _ (up j (n - 1) (by lia) (by lia)) c') (up 0 i (by lia) hi)
    have d1:Dn lt (gi p 0 n) n:=fun i j IC hj=>by
     rw [gR (by lia),gR (by lia),if_pos ⟨by lia,by lia⟩,if_pos ⟨by lia,hj⟩];exact all _ _ (by lia) (by lia)
    have hl:lt (gA (gi p 0 n) (n - 1)) (gA (gi p 0 n) n)=false:=by
     rw [gR (by lia),gR (by lia),if_pos ⟨by lia,by lia⟩,if_neg (by lia)];exact w.trans _ _ _ (w.asymm _ _ hb) (all _ _ (by lia) (by lia))
    obtain⟨p',m,y1,y2,y3,y4,y5,y6⟩:=ud (nrem:=nrem) w (p:=gi p 0 n) a1 (by lia) (by rw [mq]; lia) d1 hl;exact⟨p',m,y1,y2.trans (jJ _ _ _),y3.trans (mq _ _ _),by lia,y5,y6⟩
  ·rw [if_neg h2];have e1:n=1:=by lia
   subst e1;have d1:Dn lt p 1:=fun i j IC hj=>by
    have:i=j:=by lia
    subst this; exact w.refl _
   obtain⟨p',m,y1,y2,y3,y4,y5,y6⟩:=ud (nrem:=nrem) w (p:=p) (aC _) (by lia) hs d1 (w.asymm _ _ hb);exact⟨p',m,y1,y2,y3,by lia,y5,y6⟩
theorem LO(w:Lo lt){p:Array Nat}{k:Nat}:∀ (f l r:Nat),l<=r->r<=k->r - l<=f->Up lt p k->(∀ i,i < l->lt (gA p k) (gA p i)=false)->(∀ i,r<=i->i < k->lt (gA p k) (gA p i)=true) ->
  ∃ m,gU lt (jD p k f l r)=m/\m<=k/\(∀ i,i < m->lt (gA p k) (gA p i)=false)/\(∀ i,m<=i->i < k->lt (gA p k) (gA p i)=true):=by
 intro f;induction f with
 | zero =>
  intro l r hlr ZF hf up h1 h2;have:l=r:=by lia
  subst this;exact⟨l,rfl,ZF,h1,h2⟩
 | succ f ih =>
  intro l r hlr ZF hf up h1 h2;have e:gU lt (jD p k (f+1) l r)=if l>=r then l else if lt (gA p k) (gA p ((l+r) / 2))=true then gU lt (jD p k f l ((l+r) / 2)) else gU lt (jD p k f ((l+r) / 2+1) r):=by
   show gU lt (if l>=r then vT l else .ask (gA p k) (gA p ((l+r) / 2)) fun c=>if c=true then jD p k f l ((l+r) / 2) else jD p k f ((l+r) / 2+1) r)=_;split
   ·rfl
   ·show gU lt (if lt (gA p k) (gA p ((l+r) / 2))=true then jD p k f l ((l+r) / 2) else jD p k f ((l+r) / 2+1) r)=_;split <;> rfl
  rw [e];by_cases c:l>=r
  ·rw [if_pos c];have:l=r:=by lia
   subst this;exact⟨l,rfl,ZF,h1,h2⟩
  ·rw [if_neg c];by_cases d:lt (gA p k) (gA p ((l+r) / 2))=true
   ·rw [if_pos d];refine ih l ((l+r) / 2) (by lia) (by lia) (by lia) up h1 fun i i1 i2=>?_;cases q:lt (gA p k) (gA p i) with
    | true=>rfl
    | false=>rw [w.trans _ _ _ (up ((l+r) / 2) i i1 i2) q] at d; cases d
   ·rw [if_neg d];refine ih ((l+r) / 2+1) r (by lia) ZF (by lia) up (fun i hi=>?_) h2;exact w.trans _ _ _ (up i ((l+r) / 2) (by lia) (by lia)) (by simpa using d)
theorem BN{p:Array Nat}{src d:Nat}(hs:src < p.size)(hd:d<=src)(k:Nat):gA (bubble p src d) k=if k=src - d then gA p src else if src - d < k/\k<=src then gA p (k - 1) else gA p k:=by
 rw [BM,getElem?_bubble hs d hd,BM p src,BM p (k - 1),BM p k];by_cases h1:k=src - d
 ·rw [if_pos h1,if_pos h1]
 ·rw [if_neg h1,if_neg h1];by_cases h2:src - d < k/\k<=src
  ·rw [if_pos h2,if_pos h2]
  ·rw [if_neg h2,if_neg h2]
theorem R5(w:Lo lt):∀ (f:Nat) (p:Array Nat) (k:Nat),k+f<=p.size->Up lt p k->∃ p',gU lt (kas_bin f p k)=p'/\p'.Perm p/\p'.size=p.size/\Up lt p' (k+f):=by
 intro f;induction f with
 | zero=>intro p k _ up; exact⟨p,rfl,mM _,rfl,up⟩
 | succ f ih =>
  intro p k hs up;obtain⟨m,e,hm,h1,h2⟩:=LO w k 0 k (cb _) (aC _) (aC _) up (fun i hi=>absurd hi (by lia)) (fun i i1 i2=>absurd i1 (by lia));have up':Up lt (bubble p k (k - m)) (k+1):=by
   intro i j IC hj;rw [BN (by lia) (by lia),BN (by lia) (by lia)];have ek:k - (k - m)=m:=by lia
   rw [ek];by_cases j1:j=m
   ·rw [if_pos j1];by_cases i1:i=m
    ·rw [if_pos i1]; exact w.refl _
    ·rw [if_neg i1,if_neg (by lia)]; exact h1 i (by lia)
   ·rw [if_neg j1];by_cases j2:m < j/\j<=k
    ·rw [if_pos j2];by_cases i1:i=m
     ·rw [if_pos i1]; exact w.asymm _ _ (h2 (j - 1) (by lia) (by lia))
     ·rw [if_neg i1];by_cases i2:m < i/\i<=k
      ·rw [if_pos i2]; exact up _ _ (by lia) (by lia)
      ·rw [if_neg i2]; exact up _ _ (by lia) (by lia)
    ·rw [if_neg j2,if_neg (by lia),if_neg (by lia)]; exact up _ _ IC (by lia)
  obtain⟨p',z,z1,z2,z3⟩:=ih (bubble p k (k - m)) (k+1) (by rw [bubble_size]; lia) up';refine⟨p',?_,z1.trans (bubble_perm _ _ _),z2.trans (bubble_size _ _ _),by rw [show k+(f+1)=k+1+f by lia]; exact z3⟩;rw [kas_bin,lY,e]; exact z
theorem EB(w:Lo lt){n:Nat}(h1:1<=n):∃ p,gU lt (kas_sort n)=p/\p.toList.Perm (aU n)/\p.size=n/\Up lt p n:=by
 obtain⟨p,m,z,z1,z2,z3,z4,z5⟩:=LP w (p:=(aU n).toArray) h1 (by simp);have zs:p.size=n:=by rw [z2]; simp
 have zp:p.toList.Perm (aU n):=by simpa using z1.toList
 rw [kas_sort,lY,z];show ∃ q,gU lt (if m < n then kas_bin (n - max m 1) p (max m 1) else .ret p)=q/\_;by_cases c:m < n
 ·rw [if_pos c];have em:max m 1=m:=by lia
  rw [em];obtain⟨p',y,y1,y2,y3⟩:=R5 w (n - m) p m (by lia) z5;exact⟨p',y,(by simpa using y1.toList:p'.toList.Perm p.toList).trans zp,y2.trans zs,by rw [show n=m+(n - m) by lia]; exact y3⟩
 ·rw [if_neg c];have:m=n:=by lia
  subst this;exact⟨p,rfl,zp,zs,z5⟩
end
end K2
end
section
namespace K2
open PySem PySem.Spec PyProof.Rows L2
open PySem.AutoSeq1 (wpAny_loadPart')
open PySem.MeetsSeq PySem.MeetsSeq2 PySem.MeetsSeq3 PySem.SeqAt
noncomputable def zW(A:c8)(s:ar)(y x:Value)(b:Bool):Prop :=
 ∀ (prog:bE) (w:World) (E:Value->ar->Prop) (Q:Value->ar->Prop),Q (.bool b) s->wpAny (model prog w) A (qf .Lt y x) Q E s
noncomputable def rZ(e l:Nat->Bool)(n m:Nat):Nat->Nat->Bool
 | 0,_=>decide (n < m)
 | f+1,i=>if e i=true then rZ e l n m f (i+1) else l i
theorem SD(l b:Addr)(xs ys:Array Value)(n m:Nat)(dd de:Option Addr)(sl sm:Array (Option Value))(e lt:Nat->Bool)(k:Nat) :
  ∀ i:Nat,i<=min xs.size ys.size->min xs.size ys.size - i=k->Meets (Builtin.«list.__eq__.loop» ⟨[.ref l,.ref b,ma i,ma 0],[]⟩)
   (fun A R s=>s.heap.get? l=some { cls:=.type "list",dict:=dd,data:=.seq xs n,slots:=sl }/\s.heap.get? b=some { cls:=.type "list",dict:=de,data:=.seq ys m,slots:=sm } /\
    (∀ j (h1:j < xs.size) (h2:j < ys.size),EqAt A.in1 s xs[j] ys[j] (e j)/\zW A.in1 s xs[j] ys[j] (lt j)) /\
    R (.ok (.ret (.bool (rZ e lt xs.size ys.size k i)))) s):=by
 induction k with
 | zero =>
  intro i hi hk prog w A R s h;obtain⟨hp,g,d,tk,os⟩:=s;obtain⟨hl,hb,he,h⟩:=h
  wp_walk using bI hl,bI hb
  by_cases c:xs.size<=ys.size
  ·have h1:xs[((i:Nat):Int).toNat]?=none:=by simp; lia
   rw [h1]
   wp_walk using bI hl,bI hb
   exact h
  ·have h2:ys[((i:Nat):Int).toNat]?=none:=by simp; lia
   rw [h2];cases q:xs[((i:Nat):Int).toNat]? with
   | none =>
    wp_walk using bI hl,bI hb
    exact h
   | some v =>
    wp_walk using bI hl,bI hb
    exact h
 | succ k ih =>
  intro i hi hk prog w A R s h;obtain⟨hp,g,d,tk,os⟩:=s;obtain⟨hl,hb,he,h⟩:=h
  wp_walk using bI hl,bI hb
  have l1:i < xs.size:=by lia
  have l2:i < ys.size:=by lia
  have h1:xs[((i:Nat):Int).toNat]?=some xs[i]:=by simp [l1]
  have h2:ys[((i:Nat):Int).toNat]?=some ys[i]:=by simp [l2]
  have hc:((i:Int)+1)=((i+1:Nat):Int):=by push_cast; rfl
  rw [h1,h2];refine ae ((he i l1 l2).1 prog w _ _ ?_);cases q:e i with
  | true =>
   rw [rZ,q,if_pos rfl] at h
   wp_walk
   rw [hc];exact⟨jZ plain_eq_loop _,fE entry_eq_loop (by
    rw [eS plain_eq_loop _];exact ih (i+1) (by lia) (by lia) prog w A R _ ⟨hl,hb,he,h⟩)⟩
  | false =>
   rw [rZ,q,if_neg (by simp)] at h
   wp_walk using bI hl,bI hb
   rw [h1,h2];have Yi:=(he i l1 l2).2 prog w
   wp_walk using Yi
   exact h
theorem BB(l b:Addr)(xs ys:Array Value)(n m:Nat)(dd de:Option Addr)(sl sm:Array (Option Value))(e lt:Nat->Bool) :
  Meets (Builtin.«list.__lt__» ⟨[.ref l,.ref b],[]⟩)
   (fun A R s=>s.heap.get? l=some { cls:=.type "list",dict:=dd,data:=.seq xs n,slots:=sl }/\s.heap.get? b=some { cls:=.type "list",dict:=de,data:=.seq ys m,slots:=sm } /\
    (∀ j (h1:j < xs.size) (h2:j < ys.size),EqAt A.in1 s xs[j] ys[j] (e j)/\zW A.in1 s xs[j] ys[j] (lt j)) /\
    R (.ok (.ret (.bool (rZ e lt xs.size ys.size (min xs.size ys.size) 0)))) s):=by
 intro prog w A R s h;obtain⟨hp,g,d,tk,os⟩:=s;obtain⟨hl,hb,he,h⟩:=h;have f3:=Hj
 wp_walk using bI hl,bI hb
 exact⟨jZ plain_eq_loop _,fE entry_eq_loop (by
  rw [eS plain_eq_loop _];exact SD l b xs ys n m dd de sl sm e lt _ 0 (cb _) rfl prog w A R _ ⟨hl,hb,he,h⟩)⟩
theorem yi(l b:Addr)(xs ys:Array Value)(n m:Nat)(dd de:Option Addr)(sl sm:Array (Option Value))(e lt:Nat->Bool) :
  Meets (Builtin.«tuple.__lt__» ⟨[.ref l,.ref b],[]⟩)
   (fun A R s=>s.heap.get? l=some { cls:=.type "tuple",dict:=dd,data:=.seq xs n,slots:=sl }/\s.heap.get? b=some { cls:=.type "tuple",dict:=de,data:=.seq ys m,slots:=sm } /\
    (∀ j (h1:j < xs.size) (h2:j < ys.size),EqAt A.in1 s xs[j] ys[j] (e j)/\zW A.in1 s xs[j] ys[j] (lt j)) /\
    R (.ok (.ret (.bool (rZ e lt xs.size ys.size (min xs.size ys.size) 0)))) s) :=
 .of_wp fun prog w A R s h=>by
  obtain⟨hp,g,d,tk,os⟩:=s;obtain⟨hl,hb,he,h⟩:=h;have f2:=pM;have zl:(xs.toList.zip ys.toList).length=min xs.size ys.size:=by simp
  wp_walk using bI hl,bI hb,iW _ (fun rest c s'=>c.1=none/\s'=⟨hp,g,d,tk,os⟩/\∃ i,i<=min xs.size ys.size/\rest=(xs.toList.zip ys.toList).drop i /\
   R (.ok (.ret (.bool (rZ e lt xs.size ys.size (min xs.size ys.size - i) i)))) ⟨hp,g,d,tk,os⟩) _
  case turn =>
   rintro⟨y,x⟩ rest c s' ⟨hc,rfl,i,hi,hz,hR⟩;have il:i < min xs.size ys.size:=by
    have:=congrArg cV hz;rw [ck,zl,ak] at this;lia
   have l1:i < xs.size:=by lia
   have l2:i < ys.size:=by lia
   rw [fj (by rw [zl]; exact il)] at hz;injection hz with hyx PO
   have ey:y=xs[i]/\x=ys[i]:=by simpa using hyx
   obtain⟨rfl,rfl⟩:=ey;obtain⟨k,ek⟩:∃ k,min xs.size ys.size - i=k+1:=⟨min xs.size ys.size - i - 1,by lia⟩;rw [ek,rZ] at hR;refine ae ((he i l1 l2).1 prog w _ _ ?_);cases q:e i with
   | true =>
    rw [q,if_pos rfl] at hR
    wp_walk
    exact⟨rfl,rfl,i+1,by lia,PO,by rw [show min xs.size ys.size - (i+1)=k by lia]; exact hR⟩
   | false =>
    rw [q,if_neg (by simp)] at hR;have Yi:=(he i l1 l2).2 prog w
    wp_walk using Yi
    exact⟨_,rfl,by simpa using hR⟩
  case fin =>
   rintro⟨c1,c2⟩ s' ⟨hc,rfl,i,hi,hz,hR⟩;simp only at hc;subst hc;have il:min xs.size ys.size - i=0:=by
    have:=congrArg cV hz;rw [ck,zl,aG] at this;lia
   rw [il,rZ] at hR
   wp_walk
   exact⟨_,rfl,by simpa [tW] using hR⟩
  case h =>
   exact⟨rfl,rfl,0,cb _,rfl,by simpa using h⟩
theorem L9{A:c8}{s:ar}{l b:Addr}{xs ys:Array Value}{e lt:Nat->Bool}(hl:s.heap.IsList l xs)(hb:s.heap.IsList b ys)(hu:A.units < cLine)
  (he:∀ j (h1:j < xs.size) (h2:j < ys.size),EqAt A.in1 s xs[j] ys[j] (e j)/\zW A.in1 s xs[j] ys[j] (lt j)):zW A s (.ref l) (.ref b) (rZ e lt xs.size ys.size (min xs.size ys.size) 0):=by
 intro prog w E Q hq;obtain⟨⟨cls,dd,data,sl⟩,ho,hc,n,hd⟩:=id hl;obtain⟨⟨QF,K7,data2,JV⟩,BI,C9,n2,hd2⟩:=id hb;simp only at hc hd C9 hd2;subst hc hd C9 hd2;exact xf (op:=.Lt) ⟨_,ho,rfl⟩ ⟨_,BI,rfl⟩ tR Lx (Jz _ _) (BB l b xs ys n n2 dd K7 sl JV e lt)
  ⟨ho,BI,he,(fun x=>nomatch x),hq⟩ hu
theorem Ik{A:c8}{s:ar}{l b:Addr}{xs ys:Array Value}{e lt:Nat->Bool}(hl:s.heap.IsTuple l xs)(hb:s.heap.IsTuple b ys)(hu:A.units < cLine)
  (he:∀ j (h1:j < xs.size) (h2:j < ys.size),EqAt A.in1 s xs[j] ys[j] (e j)/\zW A.in1 s xs[j] ys[j] (lt j)):zW A s (.ref l) (.ref b) (rZ e lt xs.size ys.size (min xs.size ys.size) 0):=by
 intro prog w E Q hq;obtain⟨⟨cls,dd,data,sl⟩,ho,hc,n,hd⟩:=id hl;obtain⟨⟨QF,K7,data2,JV⟩,BI,C9,n2,hd2⟩:=id hb;simp only at hc hd C9 hd2;subst hc hd C9 hd2;exact xf (op:=.Lt) ⟨_,ho,rfl⟩ ⟨_,BI,rfl⟩ lK rP (qk _ _) (yi l b xs ys n n2 dd K7 sl JV e lt)
  ⟨ho,BI,he,(fun x=>nomatch x),hq⟩ hu
theorem oB(xs ys:List D):∀ (k i:Nat),i<=min xs.length ys.length->min xs.length ys.length - i=k ->
  rZ (fun j=>ic (xs.getD j .cL) (ys.getD j .cL)) (fun j=>mY (xs.getD j .cL) (ys.getD j .cL)) xs.length ys.length k i=mX (xs.drop i) (ys.drop i)
 | 0,i,hi,hk=>by
  rw [rZ];by_cases c:xs.length<=ys.length
  ·have e1:xs.drop i=[]:=iM (by lia);rw [e1];cases q:ys.drop i with
   | nil =>
    have:=congrArg cV q;rw [ck,aG] at this;exact decide_eq_false (by lia)
   | cons y r =>
    have:=congrArg cV q;rw [ck,ak] at this;exact decide_eq_true (by lia)
  ·have e1:ys.drop i=[]:=iM (by lia);rw [e1];cases q:xs.drop i with
   | nil =>
    have:=congrArg cV q;rw [ck,aG] at this;exact decide_eq_false (by lia)
   | cons y r=>exact decide_eq_false (by lia)
 | k+1,i,hi,hk=>by
  have l1:i < xs.length:=by lia
  have l2:i < ys.length:=by lia
  rw [rZ,fj l1,fj l2,o8,oB xs ys k (i+1) (by lia) (by lia)];have g1:xs.getD i .cL=xs[i]:=by rw [az,ai l1]; rfl
  have g2:ys.getD i .cL=ys[i]:=by rw [az,ai l2]; rfl
  rw [g1,g2]
theorem jK{h:Heap}:∀ {ds:List D} {vs:List Value} {as:List Addr},gy h vs (lI ds) as->∀ j (hj:j < vs.length),∃ bs,Reads h vs[j] (pd (ds.getD j .cL)) bs
 | [],vs,as,r,j,hj=>by cases r; exact absurd hj (bV _)
 | d :: ds,_,_,.cons (v:=v) (vs:=vs) r1 r2,j,hj=>by
  cases j with
  | zero=>exact⟨_,r1⟩
  | succ j=>exact jK r2 j (by simpa using hj)
theorem readsAll_len{h:Heap}:∀ {ds:List D} {vs:List Value} {as:List Addr},gy h vs (lI ds) as->vs.length=ds.length
 | [],_,_,r=>by cases r; rfl
 | d :: ds,_,_,.cons r1 r2=>by rw [ak,ak,readsAll_len r2]
theorem o6:∀ {ds:List D},pO ds=true->∀ j,nr (ds.getD j .cL)=true
 | [],_,j=>by rw [List.getD_nil]; rfl
 | d :: ds,h,0=>by
  have h:(nr d&&pO ds)=true:=h;rw [aN] at h; simpa using h.1
 | d :: ds,h,j+1=>by
  have h:(nr d&&pO ds)=true:=h;rw [aN] at h; simpa using o6 h.2 j
theorem kX:∀ (ds:List D) (j:Nat),(pd (ds.getD j .cL)).depth<=cm (lI ds)
 | [],j=>by rw [List.getD_nil]; exact aC _
 | d :: ds,0=>by
  show (pd d).depth<=cm (pd d :: lI ds);simp only [cm]; lia
 | d :: ds,j+1=>by
  have:=kX ds j;show (pd (ds.getD j .cL)).depth<=cm (pd d :: lI ds);simp only [cm]; lia
theorem qR:∀ {l:List nc} {ds:List D},ff l ds=true->∀ j,j < ds.length->∃ s∈l,cM s (ds.getD j .cL)=true/\l[j]?=some s
 | [],[],_,j,hj=>absurd hj (bV _)
 | [],_ :: _,h,_,_=>by cases h
 | _ :: _,[],h,_,_=>by cases h
 | s :: l,d :: ds,h,0,_=>by
  have h:(cM s d&&ff l ds)=true:=h;rw [aN] at h;exact⟨s,by simp,by simpa using h.1,by simp⟩
 | s :: l,d :: ds,h,j+1,hj=>by
  have h:(cM s d&&ff l ds)=true:=h;rw [aN] at h;obtain⟨s',h1,h2,h3⟩:=qR h.2 j (by simpa using hj);exact⟨s',ao _ h1,by simpa using h2,by simpa using h3⟩
theorem qS:∀ {s:nc} {ds:List D},gv s ds=true->∀ j,j < ds.length->cM s (ds.getD j .cL)=true
 | s,[],_,j,hj=>absurd hj (bV _)
 | s,d :: ds,h,0,_=>by
  have h:(cM s d&&gv s ds)=true:=h;rw [aN] at h; simpa using h.1
 | s,d :: ds,h,j+1,hj=>by
  have h:(cM s d&&gv s ds)=true:=h;rw [aN] at h; simpa using qS h.2 j (by simpa using hj)
theorem Dq{A:c8}{s:ar}{xs ys:List D}{vs ws:Array Value}{as bs:List Addr}(r1:gy s.heap vs.toList (lI xs) as)(r2:gy s.heap ws.toList (lI ys) bs)(n1:pO xs=true)(n2:pO ys=true)
  (hu:A.units+cm (lI xs) < cLine) (j:Nat) (h1:j < vs.size) (h2:j < ws.size):EqAt A s vs[j] ws[j] (ic (xs.getD j .cL) (ys.getD j .cL)):=by
 obtain⟨Zb,q1⟩:=jK r1 j (by simpa using h1);obtain⟨Y8,q2⟩:=jK r2 j (by simpa using h2);have m1:=o6 n1 j;have m2:=o6 n2 j;have dp:=kX xs j;have:=eqAt_reads (pd (xs.getD j .cL)) (pd (ys.getD j .cL)) A s _ _ _ _ q1 q2 (jP _ m1) (jP _ m2) (by lia);rw [tm _ _ m1 m2] at this;simpa using this
theorem yS:∀ (n:Nat) (sh:nc) (a b:D) (A:c8) (s:ar) (u v:Value) (as bs:List Addr),(pd a).depth<=n->cM sh a=true->cM sh b=true->nr a=true->nr b=true->Reads s.heap u (pd a) as->Reads s.heap v (pd b) bs->A.units+n < cLine->zW A s u v (mY a b):=by
 intro n;induction n using Nat.strongRecOn with
 | _ n ih =>
 intro sh a b A s u v as bs hn h1 h2 n1 n2 r1 r2 hu;cases sh with
 | int =>
  first | obtain⟨_,rfl⟩:=dF h1 | obtain⟨_,rfl⟩:=dD h1 | obtain⟨_,rfl⟩:=dE h1
  first | obtain⟨_,rfl⟩:=dF h2 | obtain⟨_,rfl⟩:=dD h2 | obtain⟨_,rfl⟩:=dE h2
  cases r1; cases r2;intro prog w E Q hq;exact HT.yE A s _ _ _ _ prog w E Q hq
 | tup l =>
  first | obtain⟨_,rfl⟩:=dF h1 | obtain⟨_,rfl⟩:=dD h1 | obtain⟨_,rfl⟩:=dE h1
  first | obtain⟨_,rfl⟩:=dF h2 | obtain⟨_,rfl⟩:=dD h2 | obtain⟨_,rfl⟩:=dE h2
  rename_i xs ys;have n1:pO xs=true:=n1;have n2:pO ys=true:=n2;cases r1 with
  | tuple k1 k2 k3 k4 =>
   cases r2 with
   | tuple m1 m2 m3 m4 =>
    rename_i p o vs c p' o' ws c';have hd:(pd (.tup xs)).depth=cm (lI xs)+1:=rfl;obtain⟨n',rfl⟩:∃ n',n=n'+1:=⟨n - 1,by lia⟩;have z1:=readsAll_len k4;have z2:=readsAll_len m4;have e1:vs.size=xs.length:=by simpa using z1
    have e2:ws.size=ys.length:=by simpa using z2
    have base:=Ik (A:=A) (s:=s) (e:=fun j=>ic (xs.getD j .cL) (ys.getD j .cL)) (lt:=fun j=>mY (xs.getD j .cL) (ys.getD j .cL)) ⟨_,k1,k2,_,k3⟩ ⟨_,m1,m2,_,m3⟩ (by lia) (fun j j1 j2=>by
     refine⟨Dq k4 m4 n1 n2 (by show A.units+1+_ < _; lia) j j1 j2,?_⟩;obtain⟨Zb,q1⟩:=jK k4 j (by simpa using j1);obtain⟨Y8,q2⟩:=jK m4 j (by simpa using j2);obtain⟨sj,hsj,g1,g2⟩:=qR (l:=l) (ds:=xs) h1 j (by lia);obtain⟨sj',abO,g1',YS⟩:=qR (l:=l) (ds:=ys) h2 j (by lia);rw [g2] at YS; cases YS;have dp:=kX xs j;have:=ih n' (by lia) sj (xs.getD j .cL) (ys.getD j .cL) A.in1 s _ _ _ _ (by lia) g1 g1' (o6 n1 j) (o6 n2 j) q1 q2 (by show A.units+1+n' < cLine; lia);simpa using this)
    have fin:=oB xs ys (min xs.length ys.length) 0 (cb _) rfl;rw [e1,e2,fin] at base;exact base
 | lst l =>
  first | obtain⟨_,rfl⟩:=dF h1 | obtain⟨_,rfl⟩:=dD h1 | obtain⟨_,rfl⟩:=dE h1
  first | obtain⟨_,rfl⟩:=dF h2 | obtain⟨_,rfl⟩:=dD h2 | obtain⟨_,rfl⟩:=dE h2
  rename_i xs ys;have n1:pO xs=true:=n1;have n2:pO ys=true:=n2;cases r1 with
  | list k1 k2 k3 k4 =>
   cases r2 with
   | list m1 m2 m3 m4 =>
    rename_i p o vs c p' Zb o' ws c' Y8;have hd:(pd (.dJ xs)).depth=cm (lI xs)+1:=rfl;obtain⟨n',rfl⟩:∃ n',n=n'+1:=⟨n - 1,by lia⟩;have z1:=readsAll_len k4;have z2:=readsAll_len m4;have e1:vs.size=xs.length:=by simpa using z1
    have e2:ws.size=ys.length:=by simpa using z2
    have base:=L9 (A:=A) (s:=s) (e:=fun j=>ic (xs.getD j .cL) (ys.getD j .cL)) (lt:=fun j=>mY (xs.getD j .cL) (ys.getD j .cL)) ⟨_,k1,k2,_,k3⟩ ⟨_,m1,m2,_,m3⟩ (by lia) (fun j j1 j2=>by
     refine⟨Dq k4 m4 n1 n2 (by show A.units+1+_ < _; lia) j j1 j2,?_⟩;obtain⟨Zb,q1⟩:=jK k4 j (by simpa using j1);obtain⟨Y8,q2⟩:=jK m4 j (by simpa using j2);have dp:=kX xs j;have:=ih n' (by lia) l (xs.getD j .cL) (ys.getD j .cL) A.in1 s _ _ _ _ (by lia) (qS (s:=l) (ds:=xs) h1 j (by lia)) (qS (s:=l) (ds:=ys) h2 j (by lia)) (o6 n1 j) (o6 n2 j) q1 q2 (by show A.units+1+n' < cLine; lia);simpa using this)
    have fin:=oB xs ys (min xs.length ys.length) 0 (cb _) rfl;rw [e1,e2,fin] at base;exact base
end K2
end
section
namespace K2
open PySem PySem.Spec PyProof.Rows L2 PySem.W
section
variable {prog:bE} {w:World} {A:c8} {E:Value->ar->Prop} {s:ar}
theorem Es {at':Addr} {bw:List Value} {n:Nat} {P:PySem.Fin->ar->Prop} (WI:s.heap.get? at'=some (tP "list" bw.toArray n)) (nH:bw.length < 2)
  (done:P (.done (.ret .none)) { s with heap:=sortedHeap s.heap at' bw bw.toArray }):wpAny (model prog w) A (Builtin.«list.sort» ⟨[.ref at'],[]⟩) P E s:=by
 rw [list_sort_plain];have lt':at' < s.heap.objs.size:=aL WI;refine ae (listItems_at WI rfl (ae (listUpdate_at WI rfl ?_)));obtain⟨c,hc⟩:∃ c,(s.heap.update at' (iL fun _=>#[])).get? at'=some (tP "list" #[] c):=⟨_,get?_update_seq WI (fun _=>#[])⟩;refine ae (seqEpoch_at hc rfl (ae (wpAny_newTuple (ae (wpAny_newList (cX ?_))))));have h6:(((s.heap.update at' (iL fun _=>#[])).push (tP "tuple" bw.toArray 0)).push (tP "list" #[] 0)).get? at'=some (tP "list" #[] c):=by
  rw [Heap.get?_push_ne _ _ _ (by rw [size_push',D4]; exact bB (rS lt')),Heap.get?_push_ne _ _ _ (by rw [D4]; exact bB lt')];exact hc
 show wpAny (model prog w) A _ P E { s with heap:=((s.heap.update at' (iL fun _=>#[])).push (tP "tuple" bw.toArray 0)).push (tP "list" #[] 0) };dsimp only;have sz2:bw.toArray.size < 2:=by simpa using nH
 rw [if_pos sz2,if_pos sz2];refine ae (aj ?_);rw [StateT.run_pure];refine ae (aj ?_);dsimp only;have es:(bw.toArray.zip bw.toArray).map (·.2)=bw.toArray:=by
  apply Array.toList_inj.mp;simp [List.map_snd_zip]
 refine ae (seqEpoch_at h6 rfl (ae (listUpdate_at h6 rfl ?_ (hsz2:=by rw [show (arrOf (SortSt.mk' general' (bw.toArray.zip bw.toArray) #[] 7 none)).map (·.2)=bw.toArray from es,cx]; simp; lia))));simp only [bne_self_eq_false,aQ,if_false];refine aj ?_;rw [show (arrOf (SortSt.mk' general' (bw.toArray.zip bw.toArray) #[] 7 none)).map (·.2)=bw.toArray from es];exact done
theorem HF{l:Addr}{bw:List Value}{Q:Value->ar->Prop}(hl:s.heap.IsList l bw.toArray)(nH:bw.length < 2)
  (done:Q (.ref (s.heap.objs.size+1)) { s with heap:=sortedAll s.heap bw bw.toArray }):wpAny (model prog w) A (call (.builtin "sorted") [.ref l]) Q E s:=by
 refine Calls.call_function_entry kind_sorted plain_sorted entry_sorted (args_sorted1 _) ?_;unfold Builtin.«sorted»;refine ae (m:=checkCount "sorted" 1 1 _) (aj (ae (collect_list hl (ae (wpAny_newList ?_)))));have e1:((s.heap.push (tP "list" #[] 0)).update s.heap.objs.size (iL (·++bw.toArray))).objs.size=s.heap.objs.size+1:=by rw [D4,size_push']
 have e2:(((s.heap.push (tP "list" #[] 0)).update s.heap.objs.size (iL (·++bw.toArray))).push (tP "list" bw.toArray 0)).get? (s.heap.objs.size+1)=some (tP "list" bw.toArray 0):=by
  rw [<-e1]; exact aT _ rfl
 show wpAny _ _ _ _ _ { s with heap:=((s.heap.push (tP "list" #[] 0)).update s.heap.objs.size (iL (·++bw.toArray))).push (tP "list" bw.toArray 0) };rw [e1];refine ae (cX (cI slot_list_sort ⟨_,e2,rfl⟩ entry_list_sort (Es e2 nH ⟨_,rfl,?_⟩) (args_list_sort _)));exact aj ⟨_,rfl,done⟩
end
section
open PySem.SeqAt
noncomputable def QW(A:c8)(s:ar)(y x:Value)(b:Bool):Prop :=
 ∀ (prog:bE) (w:World) (E:Value->ar->Prop) (Q:Bool->ar->Prop),Q b s->wpAny (model prog w) A (oneLt' true y x) Q E s
theorem HY{A:c8}{s:ar}{l b:Addr}{xs ys:Array Value}{e lt:Nat->Bool}(hl:s.heap.IsList l xs)(hb:s.heap.IsList b ys)(hu:A.units < cLine)
  (he:∀ j (h1:j < xs.size) (h2:j < ys.size),EqAt A.in1 s xs[j] ys[j] (e j)/\zW A.in1 s xs[j] ys[j] (lt j)):QW A s (.ref l) (.ref b) (rZ e lt xs.size ys.size (min xs.size ys.size) 0):=by
 intro prog w E Q hq;obtain⟨⟨cls,dd,data,sl⟩,ho,hc,n,hd⟩:=id hl;obtain⟨⟨QF,K7,data2,JV⟩,BI,C9,n2,hd2⟩:=id hb;simp only at hc hd C9 hd2;subst hc hd C9 hd2;rw [oneLt'_eq];simp only [if_true];refine ae (wpAny_cRoomFor hu (ae (Jv (T:="list") ⟨_,ho,rfl⟩ tR ?_)));exact G0 tR ⟨_,ho,rfl⟩ Lx (Jz _ _) (BB l b xs ys n n2 dd K7 sl JV e lt) ⟨ho,BI,he,jX hq⟩
theorem EO{A:c8}{s:ar}{l b:Addr}{xs ys:Array Value}{e lt:Nat->Bool}(hl:s.heap.IsTuple l xs)(hb:s.heap.IsTuple b ys)(hu:A.units < cLine)
  (he:∀ j (h1:j < xs.size) (h2:j < ys.size),EqAt A.in1 s xs[j] ys[j] (e j)/\zW A.in1 s xs[j] ys[j] (lt j)):QW A s (.ref l) (.ref b) (rZ e lt xs.size ys.size (min xs.size ys.size) 0):=by
 intro prog w E Q hq;obtain⟨⟨cls,dd,data,sl⟩,ho,hc,n,hd⟩:=id hl;obtain⟨⟨QF,K7,data2,JV⟩,BI,C9,n2,hd2⟩:=id hb;simp only at hc hd C9 hd2;subst hc hd C9 hd2;rw [oneLt'_eq];simp only [if_true];refine ae (wpAny_cRoomFor hu (ae (Jv (T:="tuple") ⟨_,ho,rfl⟩ lK ?_)));exact G0 lK ⟨_,ho,rfl⟩ rP (qk _ _) (yi l b xs ys n n2 dd K7 sl JV e lt) ⟨ho,BI,he,jX hq⟩
theorem Fi{n:Nat}{A:c8}{s:ar}{xs ys:List D}{vs ws:Array Value}{as bs:List Addr}(r1:gy s.heap vs.toList (lI xs) as)(r2:gy s.heap ws.toList (lI ys) bs)(n1:pO xs=true)(n2:pO ys=true)(hd:cm (lI xs)<=n)
  (hu:A.units+n < cLine) (hs:∀ j,j < xs.length->j < ys.length->∃ sh,cM sh (xs.getD j .cL)=true/\cM sh (ys.getD j .cL)=true) (j:Nat) (h1:j < vs.size) (h2:j < ws.size) :
  EqAt A s vs[j] ws[j] (ic (xs.getD j .cL) (ys.getD j .cL))/\zW A s vs[j] ws[j] (mY (xs.getD j .cL) (ys.getD j .cL)):=by
 have z1:=readsAll_len r1;have z2:=readsAll_len r2;have e1:vs.size=xs.length:=by simpa using z1
 have e2:ws.size=ys.length:=by simpa using z2
 refine⟨Dq r1 r2 n1 n2 (by lia) j h1 h2,?_⟩;obtain⟨Zb,q1⟩:=jK r1 j (by simpa using h1);obtain⟨Y8,q2⟩:=jK r2 j (by simpa using h2);obtain⟨sh,g1,g2⟩:=hs j (by lia) (by lia);have dp:=kX xs j;have:=yS n sh (xs.getD j .cL) (ys.getD j .cL) A s _ _ _ _ (by lia) g1 g2 (o6 n1 j) (o6 n2 j) q1 q2 hu;simpa using this
theorem qM{n:Nat}{sh:nc}{a b:D}{A:c8}{s:ar}{u v:Value}{as bs:List Addr}(hn:(pd a).depth<=n)(h1:cM sh a=true)(h2:cM sh b=true)(n1:nr a=true)(n2:nr b=true)(r1:Reads s.heap u (pd a) as)(r2:Reads s.heap v (pd b) bs)
  (hu:A.units+n < cLine):QW A s u v (mY a b):=by
 cases sh with
 | int =>
  first | obtain⟨_,rfl⟩:=dF h1 | obtain⟨_,rfl⟩:=dD h1 | obtain⟨_,rfl⟩:=dE h1
  first | obtain⟨_,rfl⟩:=dF h2 | obtain⟨_,rfl⟩:=dD h2 | obtain⟨_,rfl⟩:=dE h2
  cases r1; cases r2;intro prog w E Q hq;exact oneLt_int hq
 | tup l =>
  first | obtain⟨_,rfl⟩:=dF h1 | obtain⟨_,rfl⟩:=dD h1 | obtain⟨_,rfl⟩:=dE h1
  first | obtain⟨_,rfl⟩:=dF h2 | obtain⟨_,rfl⟩:=dD h2 | obtain⟨_,rfl⟩:=dE h2
  rename_i xs ys;have n1:pO xs=true:=n1;have n2:pO ys=true:=n2;cases r1 with
  | tuple k1 k2 k3 k4 =>
   cases r2 with
   | tuple m1 m2 m3 m4 =>
    rename_i p o vs c p' o' ws c';have hd:(pd (.tup xs)).depth=cm (lI xs)+1:=rfl;obtain⟨n',rfl⟩:∃ n',n=n'+1:=⟨n - 1,by lia⟩;have z1:=readsAll_len k4;have z2:=readsAll_len m4;have e1:vs.size=xs.length:=by simpa using z1
    have e2:ws.size=ys.length:=by simpa using z2
    have base:=EO (A:=A) (s:=s) ⟨_,k1,k2,_,k3⟩ ⟨_,m1,m2,_,m3⟩ (by lia) (Fi (A:=A.in1) (n:=n') k4 m4 n1 n2 (by lia) (by show A.units+1+n' < cLine; lia) fun j j1 j2=>by
     obtain⟨sj,hsj,g1,g2⟩:=qR (l:=l) (ds:=xs) h1 j j1;obtain⟨sj',abO,g1',YS⟩:=qR (l:=l) (ds:=ys) h2 j j2;rw [g2] at YS; cases YS;exact⟨sj,g1,g1'⟩)
    have fin:=oB xs ys (min xs.length ys.length) 0 (cb _) rfl;rw [e1,e2,fin] at base;exact base
 | lst l =>
  first | obtain⟨_,rfl⟩:=dF h1 | obtain⟨_,rfl⟩:=dD h1 | obtain⟨_,rfl⟩:=dE h1
  first | obtain⟨_,rfl⟩:=dF h2 | obtain⟨_,rfl⟩:=dD h2 | obtain⟨_,rfl⟩:=dE h2
  rename_i xs ys;have n1:pO xs=true:=n1;have n2:pO ys=true:=n2;cases r1 with
  | list k1 k2 k3 k4 =>
   cases r2 with
   | list m1 m2 m3 m4 =>
    rename_i p o vs c p' Zb o' ws c' Y8;have hd:(pd (.dJ xs)).depth=cm (lI xs)+1:=rfl;obtain⟨n',rfl⟩:∃ n',n=n'+1:=⟨n - 1,by lia⟩;have z1:=readsAll_len k4;have z2:=readsAll_len m4;have e1:vs.size=xs.length:=by simpa using z1
    have e2:ws.size=ys.length:=by simpa using z2
    have base:=HY (A:=A) (s:=s) ⟨_,k1,k2,_,k3⟩ ⟨_,m1,m2,_,m3⟩ (by lia) (Fi (A:=A.in1) (n:=n') k4 m4 n1 n2 (by lia) (by show A.units+1+n' < cLine; lia) fun j j1 j2=>⟨l,qS (s:=l) (ds:=xs) h1 j j1,qS (s:=l) (ds:=ys) h2 j j2⟩);have fin:=oB xs ys (min xs.length ys.length) 0 (cb _) rfl;rw [e1,e2,fin] at base;exact base
theorem C5{prog:bE}{w:World}{A:c8}{s:ar}{b fin:Bool}{Q:Bool->ar->Prop}{n:Nat}(hu:A.units+n < cLine):∀ (l:List nc) (xs ys:List D) (vs ws:List Value) (as bs:List Addr) (i:Nat),ff l xs=true->ff l ys=true->pO xs=true->pO ys=true ->
  gy s.heap vs (lI xs) as->gy s.heap ws (lI ys) bs->cm (lI xs)<=n->fin=false->Q (mX xs ys) s->KatLex prog w A b fin Q (vs.zip ws) i s:=by
 intro l xs;induction xs generalizing l with
 | nil =>
  intro ys vs ws as bs i h1 h2 n1 n2 r1 r2 hd hf hq;cases r1;cases l with
  | nil =>
   cases ys with
   | nil=>cases r2; subst hf; exact hq
   | cons _ _=>cases h2
  | cons _ _=>cases h1
 | cons x xs ih =>
  intro ys vs ws as bs i h1 h2 n1 n2 r1 r2 hd hf hq;cases l with
  | nil=>cases h1
  | cons sh l =>
  cases ys with
  | nil=>cases h2
  | cons y ys =>
  cases r1 with
  | @cons v vs _ _ _ _ a1 a2 =>
  cases r2 with
  | @cons u ws _ _ _ _ b1 b2 =>
  have h1:(cM sh x&&ff l xs)=true:=h1;have h2:(cM sh y&&ff l ys)=true:=h2;have n1:(nr x&&pO xs)=true:=n1;have n2:(nr y&&pO ys)=true:=n2;rw [aN] at h1 h2 n1 n2;have YD:(pd x).depth<=n/\cm (lI xs)<=n:=by
   have hd:cm (pd x :: lI xs)<=n:=hd;simp only [cm] at hd;lia
  show KatLex prog w A b fin Q ((v,u) :: vs.zip ws) i s;have eq:=eqAt_reads (pd x) (pd y) A s _ _ _ _ a1 b1 (jP _ n1.1) (jP _ n2.1) (by lia);rw [tm _ _ n1.1 n2.1] at eq;refine kat_cons (eq prog w _ _ ?_);rw [o8] at hq;cases q:ic x y with
  | true =>
   rw [q,if_pos rfl] at hq;exact kat_yes (ih l ys vs ws _ _ (i+1) h1.2 h2.2 n1.2 n2.2 a2 b2 YD.2 hf hq)
  | false =>
   rw [q,if_neg (by simp)] at hq;refine kat_no ?_;cases c:(b&&i == 0) with
   | true=>exact qM YD.1 h1.1 h2.1 n1.1 n2.1 a1 b1 hu prog w _ Q hq
   | false=>exact kat_one v u (yS n sh x y A s _ _ _ _ YD.1 h1.1 h2.1 n1.1 n2.1 a1 b1 hu prog w _ _ hq)
end
noncomputable def k6{α:Type}(n:Nat)(P:α->Prop):KasT α->Prop
 | .ret a=>P a
 | .ask i j k=>i < n/\j < n/\∀ b,k6 n P (k b)
theorem k6.bind{α β:Type}{n:Nat}{P:α->Prop}{P':β->Prop}{f:α->KasT β}:∀ {t:KasT α},k6 n P t->(∀ a,P a->k6 n P' (f a))->k6 n P' (t.bind f)
 | .ret a,q,h=>h a q
 | .ask i j k,⟨q1,q2,q3⟩,h=>⟨q1,q2,fun b=>k6.bind (q3 b) h⟩
theorem y9{α:Type}{n:Nat}{lt:Nat->Nat->Bool}{cmp:Nat->Nat->(Bool->ar->Prop)->ar->Prop}{s:ar}{Q:α->ar->Prop}(hc:∀ i j,i < n->j < n->∀ C:Bool->ar->Prop,C (lt i j) s->cmp i j C s) :
  ∀ (t:KasT α),k6 n (fun _=>True) t->Q (gU lt t) s->t.kasWp cmp Q s
 | .ret a,_,q=>q
 | .ask i j k,⟨h1,h2,h3⟩,q=>hc i j h1 h2 _ (y9 hc (k (lt i j)) (h3 _) q)
noncomputable def Bd(n:Nat)(p:Array Nat):Prop:=0 < n/\∀ x∈p,x < n
theorem Bd.at{n:Nat}{p:Array Nat}(h:Bd n p)(k:Nat):p.getD k 0 < n:=by
 by_cases hk:k < p.size
 ·have:p.getD k 0=p[k]:=by simp [ql,hk]
  rw [this]; exact h.2 _ (Array.getElem_mem hk)
 ·have:p.getD k 0=0:=by simp [ql,hk]
  rw [this]; exact h.1
theorem Bd.perm{n:Nat}{p q:Array Nat}(h:Bd n p)(hp:q.Perm p):Bd n q:=⟨h.1,fun x hx=>h.2 x (hp.mem_iff.mp hx)⟩
theorem DJ{n:Nat}{p:Array Nat}(h:Bd n p):∀ (f k:Nat),k6 n (fun _=>True) (qg p f k)
 | 0,k=>trivial
 | f+1,k=>⟨h.at _,h.at _,fun b=>by
  show k6 n _ (if b=true then vT k else qg p f (k+1));split
  ·trivial
  ·exact DJ h f (k+1)⟩
theorem vt{n:Nat}:∀ (f:Nat) (p:Array Nat) (k q:Nat),Bd n p->k6 n (fun r=>Bd n r.1) (k7 f p k q)
 | 0,p,k,q,h=>h
 | f+1,p,k,q,h=>⟨h.at _,h.at _,fun b=>by
  show k6 n _ (if b=true then (if q > 0 then k7 f (gi p (k - (q+1)) k) (k+1) 0 else k7 f p (k+1) 0) else .ask (p.getD (k - 1) 0) (p.getD k 0) fun d=>if d=true then .ret (p,k,q) else k7 f p (k+1) (q+1));split
  ·split
   ·exact vt f _ _ _ (h.perm (jJ _ _ _))
   ·exact vt f _ _ _ h
  ·refine⟨h.at _,h.at _,fun d=>?_⟩;show k6 n _ (if d=true then vT (p,k,q) else k7 f p (k+1) (q+1));split
   ·exact h
   ·exact vt f _ _ _ h⟩
theorem Gm{n:Nat}{p:Array Nat}(h:Bd n p)(k m:Nat):k6 n (fun r=>Bd n r.2) (NM k m p) :=
 k6.bind (DJ (h.perm (jJ _ _ _)) _ _) fun _ _=>h.perm (jJ _ _ _)
theorem vr{n:Nat}{p:Array Nat}(h:Bd n p)(k m:Nat):k6 n (fun r=>Bd n r.2) (x8 k m p) :=
 k6.bind (vt _ _ _ _ h) fun r hr=>by
  split
  ·exact Gm (hr.perm (jJ _ _ _)) _ _
  ·exact Gm hr _ _
theorem MX{n:Nat}{p:Array Nat}(h:Bd n p)(m:Nat):k6 n (fun r=>Bd n r.2) (kas_count m p) :=
 k6.bind (DJ h _ _) fun k _=>by
  split
  ·exact h
  ·split
   ·refine⟨h.at _,h.at _,fun b=>?_⟩;show k6 n _ (if b=true then vT (k,p) else x8 k m (gi p 0 k));split
    ·exact h
    ·exact vr (h.perm (jJ _ _ _)) _ _
   ·exact vr h _ _
theorem wF{n:Nat}{p:Array Nat}(h:Bd n p)(k:Nat):∀ (f l r:Nat),k6 n (fun _=>True) (jD p k f l r)
 | 0,l,r=>trivial
 | f+1,l,r=>by
  show k6 n _ (if l>=r then vT l else .ask (p.getD k 0) (p.getD ((l+r) / 2) 0) fun c=>if c=true then jD p k f l ((l+r) / 2) else jD p k f ((l+r) / 2+1) r);split
  ·trivial
  ·refine⟨h.at _,h.at _,fun b=>?_⟩;show k6 n _ (if b=true then jD p k f l ((l+r) / 2) else jD p k f ((l+r) / 2+1) r);split
   ·exact wF h k f _ _
   ·exact wF h k f _ _
theorem Li{n:Nat}:∀ (f:Nat) (p:Array Nat) (k:Nat),Bd n p->k6 n (fun _=>True) (kas_bin f p k)
 | 0,p,k,h=>trivial
 | f+1,p,k,h=>k6.bind (wF h k _ _ _) fun l _=>Li f _ _ (h.perm (bubble_perm _ _ _))
theorem Gn{n:Nat}(h:0 < n):k6 n (fun _=>True) (kas_sort n) :=
 k6.bind (MX ⟨h,fun x hx=>by simpa using hx⟩ n) fun r hr=>by
  split
  ·exact Li _ _ _ hr
  ·trivial
end K2
end
section
namespace K2
open PySem PySem.Spec PyProof.Rows L2 PySem.W
mutual
theorem qD{h h':Heap}(hk:∀ b o vs n,o.data=.seq vs n->h.get? b=some o->h'.get? b=some o):∀ (d:D) {v:Value} {as:List Addr},nr d=true->Reads h v (pd d) as->Reads h' v (pd d) as
 | .cL,_,_,_,r=>by cases r; exact .none
 | .bl b,_,_,_,r=>by cases r; exact .bool b
 | .int i,_,_,_,r=>by cases r; exact .int i _
 | .str x,_,_,_,r=>by cases r; exact .str x _
 | .tup ds,_,_,n,r=>by
  cases r with
  | tuple h1 h2 h3 h4=>exact .tuple (hk _ _ _ _ h3 h1) h2 h3 (mr hk ds n h4)
 | .dJ ds,_,_,n,r=>by
  cases r with
  | list h1 h2 h3 h4=>exact .list (hk _ _ _ _ h3 h1) h2 h3 (mr hk ds n h4)
 | .kh _,_,_,n,_=>by cases n
 | .ref _,_,_,n,_=>by cases n
 | .exc _,_,_,n,_=>by cases n
theorem mr{h h':Heap}(hk:∀ b o vs n,o.data=.seq vs n->h.get? b=some o->h'.get? b=some o):∀ (ds:List D) {vs:List Value} {as:List Addr},pO ds=true->gy h vs (lI ds) as->gy h' vs (lI ds) as
 | [],_,_,_,r=>by cases r; exact .nil
 | d :: ds,_,_,n,r=>by
  have n:(nr d&&pO ds)=true:=n;rw [aN] at n;cases r with
  | cons r1 r2=>exact .cons (qD hk d n.1 r1) (mr hk ds n.2 r2)
end
mutual
theorem Cy(G:Gp):∀ (sh:nc) (d:D) (n:Nat),cM sh d=true->S5 sh<=n->Sn G n d d
 | .int,.int i,n,_,_=>.int i
 | .tup l,.tup ds,n,h,hn=>by
  have hn:Qs l+1<=n:=hn;obtain⟨m,rfl⟩:∃ m,n=m+1:=⟨n - 1,by lia⟩;exact JS G l ds m h (by lia)
 | .lst s,.dJ ds,n,h,hn=>by
  have hn:S5 s+1<=n:=hn;obtain⟨m,rfl⟩:∃ m,n=m+1:=⟨n - 1,by lia⟩;exact JT G s ds m h (by lia)
theorem JS(G:Gp):∀ (l:List nc) (ds:List D) (m:Nat),ff l ds=true->Qs l<=m->Sn G (m+1) (.tup ds) (.tup ds)
 | [],[],m,_,_=>.Hu
 | s :: l,d :: ds,m,h,hm=>by
  have h:(cM s d&&ff l ds)=true:=h;have hm:max (S5 s) (Qs l)<=m:=hm;rw [aN] at h;exact .qu (Cy G s d m h.1 (by lia)) (JS G l ds m h.2 (by lia))
theorem JT(G:Gp):∀ (s:nc) (ds:List D) (m:Nat),gv s ds=true->S5 s<=m->Sn G (m+1) (.dJ ds) (.dJ ds)
 | s,[],m,_,_=>.OD
 | s,d :: ds,m,h,hm=>by
  have h:(cM s d&&gv s ds)=true:=h;rw [aN] at h;exact .EE (Cy G s d m h.1 hm) (JT G s ds m h.2 hm)
end
theorem getD_at{α:Type}(xs:List α)(d:α){i:Nat}(h:i < xs.length):xs.getD i d=xs[i]:=by
 rw [az,ai h]; rfl
theorem mE{α:Type}(xs:List α)(d:α):(aU xs.length).map (fun i=>xs.getD i d)=xs:=by
 refine DZ (by simp) fun i h1 h2=>?_;rw [j4,List.getElem_range];exact getD_at _ _ h2
theorem wM{h:Heap}{s1:nc}{l:List nc}:∀ (zs:List D) (vs:List Value),(∀ z∈zs,cM (.tup (s1 :: l)) z=true)->(∀ i,i < vs.length->∃ as,Reads h (vs.getD i .none) (pd (zs.getD i .cL)) as)->vs.length=zs.length ->
  ∃ fs,KatTups h vs fs/\fs.length=vs.length/\∀ f∈fs,∃ d as,cM s1 d=true/\Reads h f (pd d) as:=by
 intro zs;induction zs with
 | nil =>
  intro vs _ _ h;have:vs=[]:=List.length_eq_zero_iff.mp h;subst this;exact⟨[],trivial,rfl,fun _ h=>by cases h⟩
 | cons z zs ih =>
 intro vs hs hr hl;cases vs with
 | nil=>cases hl
 | cons v vs =>
  obtain⟨fs,h1,h2,h3⟩:=ih vs (fun z hz=>hs z (ao _ hz)) (fun i hi=>by
   obtain⟨as,r⟩:=hr (i+1) (by simpa using hi);exact⟨as,by simpa using r⟩) (by simpa using hl)
  obtain⟨as,r⟩:=hr 0 (by simp);have hz:=hs z (by simp);simp only [oO] at r;cases z <;> first | (cases hz; done) | skip
  rename_i ds;cases ds with
  | nil=>cases hz
  | cons d ds =>
   have hz:(cM s1 d&&ff l ds)=true:=hz;rw [aN] at hz;cases r with
   | tuple k1 k2 k3 k4 =>
    rename_i p o ws c;have k5:gy h ws.toList (pd d :: lI ds) as:=k4;cases q:ws.toList with
    | nil=>rw [q] at k5; cases k5
    | cons f rest =>
     rw [q] at k5;cases k5 with
     | cons r1 r2 =>
      have hf:ws[0]?=some f:=by
       have:ws.toList[0]?=some f:=by rw [q]; rfl
       simpa using this
      refine⟨f :: fs,.cons k1 k2 k3 hf h1,by simp [h2],fun g hg=>?_⟩;rcases List.mem_cons.mp hg with rfl | hg
      ·exact⟨d,_,hz.1,r1⟩
      ·exact h3 g hg
noncomputable def Eo:nc->Value
 | .int=>.type "int"
 | .tup _=>.type "tuple"
 | .lst _=>.type "list"
theorem rG{M:Model}{h:Heap}{sh:nc}{d:D}{v:Value}{as:List Addr}(hs:cM sh d=true)(r:Reads h v (pd d) as):Looks M h (typeOf v) (Eo sh):=by
 cases sh with
 | int =>
  cases d <;> first | (cases hs; done) | skip
  cases r;exact .now
 | tup l =>
  cases d <;> first | (cases hs; done) | skip
  cases r with
  | tuple k1 k2 k3 k4 =>
   rename_i p o ws c;have:Looks M h (typeOf (.ref p)) o.cls:=(Looks.ld k1).andThen .now;rw [k2] at this; exact this
 | lst l =>
  cases d <;> first | (cases hs; done) | skip
  cases r with
  | list k1 k2 k3 k4 =>
   rename_i p o ws c as;have:Looks M h (typeOf (.ref p)) o.cls:=(Looks.ld k1).andThen .now;rw [k2] at this; exact this
theorem BD{prog:bE}{w:World}{A:c8}{s:ar}{E:Value->ar->Prop}{Q:Bool->ar->Prop}{n:Nat}{b:Bool}{l:List nc}{a c:D}{u v:Value}{as bs:List Addr}(hn:(pd a).depth<=n+1)(h1:cM (.tup l) a=true)(h2:cM (.tup l) c=true)(n1:nr a=true)(n2:nr c=true)
  (r1:Reads s.heap u (pd a) as) (r2:Reads s.heap v (pd c) bs) (hu:A.units+n < cLine) (hq:Q (mY a c) s):wpAny (model prog w) A (keyLt' (tuples' b) u v) Q E s:=by
 first | obtain⟨_,rfl⟩:=dF h1 | obtain⟨_,rfl⟩:=dD h1 | obtain⟨_,rfl⟩:=dE h1
 first | obtain⟨_,rfl⟩:=dF h2 | obtain⟨_,rfl⟩:=dD h2 | obtain⟨_,rfl⟩:=dE h2
 rename_i xs ys;cases r1 with
 | tuple k1 k2 k3 k4 =>
  cases r2 with
  | tuple m1 m2 m3 m4 =>
   rename_i p o vs c p' o' ws c';have z1:=readsAll_len k4;have z2:=readsAll_len m4;have e1:vs.size=xs.length:=by simpa using z1
   have e2:ws.size=ys.length:=by simpa using z2
   have el:∀ (l:List nc) (xs ys:List D),ff l xs=true->ff l ys=true->xs.length=ys.length:=by
    intro l;induction l with
    | nil =>
     intro xs ys h1 h2;cases xs with
     | nil=>cases ys with
      | nil=>rfl
      | cons _ _=>cases h2
     | cons _ _=>cases h1
    | cons s l ih =>
     intro xs ys h1 h2;cases xs with
     | nil=>cases h1
     | cons x xs =>
      cases ys with
      | nil=>cases h2
      | cons y ys =>
       have h1:(cM s x&&ff l xs)=true:=h1;have h2:(cM s y&&ff l ys)=true:=h2;rw [aN] at h1 h2;rw [ak,ak,ih xs ys h1.2 h2.2]
   have hd:(pd (.tup xs)).depth=cm (lI xs)+1:=rfl;refine kat_lt k1 k3 m1 m3 (C5 (n:=n) hu l xs ys _ _ _ _ 0 h1 h2 n1 n2 k4 m4 (by lia) (decide_eq_false (by rw [e1,e2,el l xs ys h1 h2]; lia)) hq)
section
variable {X:Cx}
theorem Ma{x:D}{G:Gp}{zs:List D}(ty:vN x G)(hi:itemsOf x G=some zs):oA x G=some zs:=by
 cases x <;> first | exact ty.elim | exact hi
theorem DC (hc:X.calm=true) (hu:X.A.units+64 < cLine):qY X (.builtin "sorted") xZ:=by
 intro pins s σ H G xs ds us Q I ab rx rd q;unfold xZ at q;split at q
 ·rename_i x;obtain⟨sh,zs,ty,hi,sW,cz,h64,q⟩:=q;obtain⟨w1,rfl,CC⟩:=rd.one;obtain⟨u,rfl,ru⟩:=rx.one;obtain⟨l,vs,bw,rfl,rv,rs,hl,_⟩:=mJ I ab ru CC (Ma ty hi);have T8:=rv.length;have Rm:=rs.length;have hsz:bo=16777216:=cx;have hz:∀ z∈zs,cM sh z=true:=fun z h=>List.all_eq_true.mp sW z h;by_cases nH:bw.length < 2
  ·refine HF hl nH ?_;obtain⟨e,he⟩:=sortedAll_at s.heap bw bw.toArray;have hp:H (s.heap.objs.size+1)=none:=I.cz.fresh (He _);have es:nA zs=zs:=lN sh hz (.refl _) (by
    match zs,Rm,nH with
    | [],_,_=>exact .nil
    | [z],_,_=>exact Ng _ _
    | _ :: _ :: _,h,f=>exact absurd f (by rw [<-T8,h]; simp))
   rw [es] at q;refine⟨.ref (s.heap.objs.size+1),upd H (s.heap.objs.size+1) (.lst vs),.ref _,_,I.laid (t':=s.toks) (fun b o e=>sortedAll_old e) (He _) ?_,.Ar ab hp rs,rfl,.ref _,q _ (ab.free hp)⟩;exact⟨by lia,bw,e,rv,he⟩
  ·obtain⟨m,F0⟩:=I.fr;have nz:0 < zs.length:=by lia
   have nL:∀ b o vs n,o.data=.seq vs n->s.heap.get? b=some o->b≠X.env.locals:=fun b o vs n e1 e2 z=>by
    obtain⟨o',es,ep,Mo,xS,_⟩:=F0.ns;rw [z,Mo] at e2; cases e2; rw [xS] at e1; cases e1
   unfold O3 at cz;rw [aN] at cz;have hdp:S5 sh<=7:=of_decide_eq_true cz.1;have sn:∀ z∈zs,Sn G 7 z z:=fun z h=>Cy G sh z 7 (hz z h) hdp;refine kat_sorted F0 yN hl (by lia) (by lia) fun Dd e1 h' F N oj=>?_;obtain⟨kk,ns⟩:=l6 I F0 F fun p hp=>N p (ao _ hp);have Aq:∀ i,i < bw.length->∃ as,Reads h' (bw.getD i .none) (pd (zs.getD i .cL)) as:=fun i hi=>by
    have i1:i < zs.length:=by lia
    have i2:i < vs.length:=by lia
    have g1:zs.getD i .cL=zs[i]:=getD_at _ _ i1;have g2:bw.getD i .none=bw[i]:=getD_at _ _ hi;obtain⟨v,hv,Xp⟩:=rs.get (ai i1);obtain⟨u,uP,US⟩:=rv.get hv;rw [ai hi] at uP;cases uP;obtain⟨as,r⟩:=(gQ I ab (sn _ (bP i1))).1 v _ Xp US;rw [g1,g2];exact⟨as,qD (fun b o vs n e1 e2=>kk b o (nL b o vs n e1 e2) e2) _ (sn _ (bP i1)).nr r⟩
   have wN:∀ i,i < zs.length->cM sh (zs.getD i .cL)=true:=fun i hi=>by rw [getD_at _ _ hi]; exact hz _ (bP hi)
   have Sv:∀ i,i < zs.length->nr (zs.getD i .cL)=true:=fun i hi=>by rw [getD_at _ _ hi]; exact(sn _ (bP hi)).nr
   have YZ:∀ i,i < zs.length->(pd (zs.getD i .cL)).depth<=7:=fun i hi=>by rw [getD_at _ _ hi]; exact zC (sn _ (bP hi))
   let zz:Nat->D:=fun i=>if i < zs.length then zs.getD i .cL else zs.getD 0 .cL
   have N5:∀ i,cM sh (zz i)=true:=fun i=>by
    show cM sh (if i < zs.length then zs.getD i .cL else zs.getD 0 .cL)=true;split
    ·exact wN i (by assumption)
    ·exact wN 0 nz
   let lt:Nat->Nat->Bool:=fun i j=>mY (zz i) (zz j)
   have swo:Lo lt:=⟨fun i j h=>wg sh (N5 i) (N5 j) h,fun i j k h1 h2=>sR sh (N5 i) (N5 j) (N5 k) h1 h2⟩;have XY:∀ i j,i < zs.length->j < zs.length->lt i j=mY (zs.getD i .cL) (zs.getD j .cL):=fun i j hi hj=>by
    show mY (if i < zs.length then _ else _) (if j < zs.length then _ else _)=_;rw [if_pos hi,if_pos hj]
   obtain⟨p,ep,qQ,Xw,hup⟩:=EB swo (n:=bw.length) (by lia);have YM:X.A.in1.in1.units=X.A.units+2:=rfl;have ask:∀ κ:SortKind,(∀ i j,i < bw.length->j < bw.length->∀ C:Bool->ar->Prop,C (mY (zs.getD i .cL) (zs.getD j .cL)) { s with heap:=h' }->kas_ask X.prog X.w X.A.in1.in1 κ bw i j C { s with heap:=h' }) ->
     (kas_sort bw.length).kasWp (kas_ask X.prog X.w X.A.in1.in1 κ bw) (fun p UP=>KasFin X.base X.env.locals m Dd e1 (p.toList.map fun i=>bw.getD i dG) (fun s3=>rO X pins σ H G Q (.ref Dd) s3) UP) { s with heap:=h' }:=by
    intro κ hk;refine y9 (lt:=lt) (n:=bw.length) (fun i j i1 i2 C hC=>hk i j i1 i2 C (by rw [<-XY i j (by lia) (by lia)]; exact hC)) _ (Gn (by lia)) ?_;rw [ep];refine KasFin.intro (g:=fun o=>(Dd,o) :: pK X.base s.heap X.env.locals) F N (.head (fun q hq z=>absurd (oj q hq) (by rw [z]; exact eU _))) fun h2 c F2 N2=>?_;obtain⟨k2,ns2⟩:=l6 I F0 F2 fun p hp=>N2 p (ao _ hp);have hD:s.heap.get? Dd=none:=by
     have nD:=N _ aB;cases qd:s.heap.get? Dd with
     | none=>rfl
     | some o=>exact absurd (oj _ (nF nD.2.1 nD.2.2 qd)) (eU _)
    have hp:H Dd=none:=xT I.cz hD;have rvp:Vals (p.toList.map fun i=>vs.getD i .cL) (p.toList.map fun i=>bw.getD i dG):=by
     have:∀ (ps:List Nat),(∀ i∈ps,i < bw.length)->Vals (ps.map fun i=>vs.getD i .cL) (ps.map fun i=>bw.getD i dG):=by
      intro ps;induction ps with
      | nil=>intro _; exact .nil
      | cons i ps ih =>
       intro hh;have hi:=hh i (by simp);refine .cons ?_ (ih fun j hj=>hh j (ao _ hj));have i2:i < vs.length:=by lia
       obtain⟨u,uP,US⟩:=rv.get (ai i2);rw [ai hi] at uP;cases uP;show RelV (vs.getD i .cL) (bw.getD i .none);rw [getD_at _ _ i2,getD_at _ _ hi]; exact US
     exact this _ fun i hi=>by simpa using qQ.mem_iff.mp hi
    have rsp:bh X.K H (p.toList.map fun i=>vs.getD i .cL) (p.toList.map fun i=>zs.getD i .cL):=by
     have:∀ (ps:List Nat),(∀ i∈ps,i < bw.length)->bh X.K H (ps.map fun i=>vs.getD i .cL) (ps.map fun i=>zs.getD i .cL):=by
      intro ps;induction ps with
      | nil=>intro _; exact .nil
      | cons i ps ih =>
       intro hh;have hi:=hh i (by simp);refine .cons ?_ (ih fun j hj=>hh j (ao _ hj));have i2:i < vs.length:=by lia
       have i1:i < zs.length:=by lia
       obtain⟨v,hv,r⟩:=rs.get (ai i1);rw [ai i2] at hv;cases hv;show cB X.K H (vs.getD i .cL) (zs.getD i .cL);rw [getD_at _ _ i2,getD_at _ _ i1]; exact r
     exact this _ fun i hi=>by simpa using qQ.mem_iff.mp hi
    have es:nA zs=p.toList.map fun i=>zs.getD i .cL:=by
     refine lN sh hz ?_ ?_
     ·have h1:(p.toList.map fun i=>zs.getD i .cL).Perm ((aU zs.length).map fun i=>zs.getD i .cL):=by
       have:bw.length=zs.length:=by lia
       rw [<-this];exact qQ.map _
      rw [mE] at h1;exact h1
     ·rw [eI,JA];intro i j hi hj IC;have g1:gA p i=p.toList[i]:=by
       have:i < p.size:=by simpa using hi
       simp [gA,ql,this]
      have g2:gA p j=p.toList[j]:=by
       have:j < p.size:=by simpa using hj
       simp [gA,ql,this]
      have bi:p.toList[i] < bw.length:=by simpa using qQ.mem_iff.mp (bP hi)
      have bj:p.toList[j] < bw.length:=by simpa using qQ.mem_iff.mp (bP hj)
      have:=hup i j (by lia) (by have:j < p.toList.length:=hj; rw [bp,Xw] at this; exact this);rw [g1,g2,XY _ _ (by lia) (by lia)] at this;exact this
    rw [es] at q;have ln:(p.toList.map fun i=>vs.getD i .cL).length<=bo:=by rw [ag,bp,Xw]; lia
    refine⟨.ref Dd,upd H Dd (.lst (p.toList.map fun i=>vs.getD i .cL)),.ref _,_,Inv.Ky (t':=s.toks) I k2 ns2 hD ?_,.Ar ab hp rsp,rfl,.ref _,q _ (ab.free hp)⟩;exact⟨ln,_,c,rvp,(N2 _ aB).1⟩
   have gen:∀ i j,i < bw.length->j < bw.length->∀ C:Bool->ar->Prop,C (mY (zs.getD i .cL) (zs.getD j .cL)) { s with heap:=h' }->wpAny (model X.prog X.w) X.A.in1.in1 (keyLt' Nd (bw.getD i dG) (bw.getD j dG)) C (fun _ _=>False) { s with heap:=h' }:=by
    intro i j hi hj C hC;obtain⟨as,r1⟩:=Aq i hi;obtain⟨bs,r2⟩:=Aq j hj;rw [keyLt'_oneType];exact qM (s:={ s with heap:=h' }) (n:=7) (YZ i (by lia)) (wN i (by lia)) (wN j (by lia)) (Sv i (by lia)) (Sv j (by lia)) r1 r2 (by rw [YM]; lia) X.prog X.w _ C hC
   have lk:∀ v∈bw,Looks (model X.prog X.w) h' (typeOf v) (Eo sh):=fun v hv=>by
    obtain⟨i,hi,rfl⟩:=e8 hv;obtain⟨as,r⟩:=Aq i hi;rw [getD_at _ _ hi] at r;exact rG (wN i (by lia)) r
   cases sh with
   | int=>exact kas_kind (s:={ s with heap:=h' }) (T:=.type "int") (by lia) lk rfl rfl (ask Nd gen)
   | lst ss=>exact kas_kind (s:={ s with heap:=h' }) (T:=.type "list") (by lia) lk rfl rfl (ask Nd gen)
   | tup ss =>
    cases ss with
    | nil=>exact absurd cz.2 (by simp)
    | cons s1 ss =>
     obtain⟨fs,t1,t2,t3⟩:=wM (h:=h') zs bw hz Aq (by lia);refine kat_kind (s:={ s with heap:=h' }) (T:=Eo s1) t1 (by lia) (fun f hf=>?_) (by cases s1 <;> rfl) (ask _ fun i j hi hj C hC=>?_)
     ·obtain⟨d,as,h1,h2⟩:=t3 f hf;exact rG h1 h2
     ·obtain⟨as,r1⟩:=Aq i hi;obtain⟨bs,r2⟩:=Aq j hj;exact BD (s:={ s with heap:=h' }) (n:=7) (by have:=YZ i (by lia); lia) (wN i (by lia)) (wN j (by lia)) (Sv i (by lia)) (Sv j (by lia)) r1 r2 (by rw [YM]; lia) hC
 ·exact q.elim
end
end K2
end
section
namespace L2
open PySem PySem.Spec PyProof.Rows
section
variable {prog:bE} {w:World} {A:c8} {E:Value->ar->Prop} {s:ar}
theorem y8{d:Addr}{od:Obj}{es:Array gK}{c:Nat}{Q:Value->ar->Prop}(ns:(d == eu)=false)(w6:s.heap.get? d=some od)(ex:od.ExactDict)(dd:od.data=.dict es c)
  (hQ:Q (.ref s.heap.objs.size) { s with heap:=s.heap.push { cls:=.type "dict_keyiterator",data:=.fields #[.ref d,.int 0 0,.int es.size 0,.int c 0] } }):wpAny (model prog w) A (wH (.ref d)) Q E s:=by
 have ty:s.TypeIs (.ref d) "dict":=⟨od,w6,ex.1⟩;refine ie ty F.slot_dict_iter (cI F.slot_dict_iter ty F.entry_dict_iter ?_ (F.args_dict_iter_1 _));unfold Builtin.«dict.__iter__» Builtin.Dict.dictSlotNone;refine ae (ae (x5 ty (show wpAny _ _ (pure (eE d)) _ _ s from aj ?_)));show wpAny _ _ (ib d >>= _) _ _ s;unfold ib;rw [if_neg (fun z=>by rw [ns] at z; cases z)];refine ae (aj (ae (dZ w6 dd (ae (ig w6 dd ?_)))));refine ae (cD (aj ⟨_,rfl,"dict_keyiterator",_,⟨_,aT _ rfl,rfl⟩,F.slot_dict_keyiterator_next.lookup,?_⟩));simpa [ma] using hQ
theorem BC{it d:Addr}{od:Obj}{es:Array gK}{i c:Nat}{Q:Option Value->ar->Prop}(ki:s.heap.IsKeyIter it d i es.size c)(w6:s.heap.get? d=some od)(dd:od.data=.dict es c)(hi:i < es.size)
  (hQ:∀ h',h'.IsKeyIter it d (i+1) es.size c->fM it s.heap h'->Q (some es[i].key) { s with heap:=h' }):wpAny (model prog w) A (nh (.ref it)) Q E s:=by
 obtain⟨o,ho,hc,hf⟩:=id ki;unfold nh;refine ae (pS (eY (name:=mR "__next__") ki.typeIs jg (cI jg ki.typeIs Hi ?_ (GJ _))));refine ae (aj (ae (ae ?_)))
 first | refine ae (iV ki.typeIs (aj ?_)) | refine ae (lE ki.typeIs (aj ?_))
 refine ae (jd ho hf ?_);have Vb:e6 "dict_keyiterator" = false:=by decide
 rw [Vb];show wpAny _ _ (if (eE d == dG)=true then _ else _) _ _ s;rw [if_neg (fun z=>by cases z)];refine ae (aj (ae (dZ w6 dd ?_)));rw [if_neg (by simp)];refine ae (aj (ae (ig w6 dd ?_)));rw [if_neg (by simp)];refine aj ?_;dsimp only;rw [if_neg (show ¬ ((i:Int) < 0) from Int.not_lt.mpr (lh i)),aS,a8 hi];dsimp only;refine ae ?_
 first | refine ae (iV ki.typeIs (aj ?_)) | refine ae (lE ki.typeIs (aj ?_))
 refine ae (wpAny_isOneOf_keyiter ki.typeIs ?_);show wpAny _ _ (Nc (.ref it) 1 (ma ((i:Int)+1)) >>= _) _ _ s;refine ae (kN ho hf (by simp) ?_);have ki2:(s.heap.update it (lg (·.setIfInBounds 1 (ma ((i:Int)+1))))).IsKeyIter it d (i+1) es.size c :=
  ⟨_,df _ ho (mT (eA hf _)),(rR ..).trans hc,by rw [eA hf]; simp [ma]⟩
 refine ae (cX (ae (wpAny_isOneOf_keyiter (s:={ s with heap:=s.heap.update it (lg (·.setIfInBounds 1 (ma ((i:Int)+1)))) }) ki2.typeIs ?_)));show wpAny _ _ (pure es[i].key) _ _ _;exact aj (aj ⟨_,rfl,aj (hQ _ ki2 (cu ..))⟩)
theorem Fc{it d:Addr}{od:Obj}{es:Array gK}{i c:Nat}{Q:Option Value->ar->Prop}(calm:A.handled=none)(ki:s.heap.IsKeyIter it d i es.size c)(w6:s.heap.get? d=some od)(dd:od.data=.dict es c)(hi:es.size<=i)
  (hQ:∀ h',Heap.ExtBut it s.heap h'->Q none { s with heap:=h' }):wpAny (model prog w) A (nh (.ref it)) Q E s:=by
 obtain⟨o,ho,hc,hf⟩:=id ki;unfold nh;refine ae (pS (eY (name:=mR "__next__") ki.typeIs jg (cI jg ki.typeIs Hi ?_ (GJ _))));refine ae (aj (ae (ae ?_)))
 first | refine ae (iV ki.typeIs (aj ?_)) | refine ae (lE ki.typeIs (aj ?_))
 refine ae (jd ho hf ?_);have Vb:e6 "dict_keyiterator" = false:=by decide
 rw [Vb];show wpAny _ _ (if (eE d == dG)=true then _ else _) _ _ s;rw [if_neg (fun z=>by cases z)];refine ae (aj (ae (dZ w6 dd ?_)));rw [if_neg (by simp)];refine ae (aj (ae (ig w6 dd ?_)));rw [if_neg (by simp)];refine aj ?_;dsimp only;rw [if_neg (show ¬ ((i:Int) < 0) from Int.not_lt.mpr (lh i)),aS,fX hi];dsimp only;refine ae ?_
 first | refine ae (iV ki.typeIs (aj ?_)) | refine ae (lE ki.typeIs (aj ?_))
 show wpAny _ _ (Nc (.ref it) 0 .none >>= _) _ _ s;refine ae (kN ho hf (by simp) ?_);show wpAny _ _ (newExc (.type "StopIteration") [] >>= _) _ _ _;refine ae ?_;simp only [newExc,newTuple];refine ae (cD (ae (m:=og _ _) (qc (a:=dG) (by first | rfl | (simp only [og]; rfl)) (cD ?_ (by size_fits)))) (by size_fits));simp only [raiseNew];refine ae (wpAny_handled ?_);rw [show A.in1.handled=none from calm];refine ae (aj (wpAny_throw ?_));refine ae (oT (T:="StopIteration") (b:=true) ⟨_,aT _ rfl,rfl⟩ Rt (?_));exact aj (hQ _ (((cu ..).extBut.push _).push _))
end
noncomputable def Itk(a:Addr)(o:Obj)(es:Array gK)(ks:List V):It :=
 ⟨fun i H=>(∃ u,H a=some (.mP o u))/\i < es.size,fun i H v H'=>H'=H/\ks[i]?=some v,fun i H=>(∃ u,H a=some (.mP o u))/\es.size<=i⟩
theorem LB{P:bE}{w:World}{K:ah}{tg:Expr}(a it:Addr)(o:Obj)(es:Array gK)(c:Nat)(ks:List V)(dd:o.data=.dict es c)(hk:∀ i (h:i < es.size),∃ v,ks[i]?=some v/\RelV v es[i].key) :
  Turn P w K tg (Itk a o es ks) [it] it (fun i h=>h.IsKeyIter it a i es.size c) where
 mem:=by simp
 obj:=fun i h st b hb=>by
  have e:b=it:=by simpa using hb
  subst e;obtain⟨o',q,_,d⟩:=st;exact⟨o',q,fun v z=>by rw [d] at z; cases z⟩
 keep:=(by rintro i h h' ⟨o',q,r⟩ k; exact⟨o',k it (by simp) o' q,r⟩)
 item:=by
  intro X hP hw hK hc i pins s σ H E I hf st hg;subst hP hw hK;obtain⟨⟨u,hu⟩,hi⟩:=hg;obtain⟨f0,f1,f2,f3,f4,f5⟩:=hf it (by simp);obtain⟨v,hv,rv⟩:=hk i hi;refine BC st (I.cz a _ hu).1 dd hi fun h' xj sb=>?_;have I1:Inv X pins σ H { s with heap:=h' }:=I.turned (t':=s.toks) (fun b o hb e=>(sb.2 b hb).trans e) f0 f1 f3 f4 f5;obtain⟨o',e,cl,d'⟩:=id xj;exact⟨_,rfl,KP (s:={ s with heap:=h' }) e cl d' (by decide) ⟨v,H,I1,rv,⟨rfl,hv⟩,xj,fun b hb=>(hf b hb).1⟩⟩
 done:=by
  intro X hP hw hK hc i pins s σ H E I hf st hg;subst hP hw hK;obtain⟨⟨u,hu⟩,hi⟩:=hg;obtain⟨f0,f1,f2,f3,f4,f5⟩:=hf it (by simp);exact Fc (I.ok.hd hc) st (I.cz a _ hu).1 dd hi fun h' eb=>⟨rfl,I.turned (t':=s.toks) (fun b o hb e=>eb b o hb e) f0 f1 f3 f4 f5⟩
 self:=fun A i s Q E st h=>by
  refine ie st.typeIs JD (cI JD st.typeIs F.entry_dict_keyiterator_iter ?_ (F.args_dict_keyiterator_iter_1 _));show wpAny _ _ (ret (.ref it)) _ _ s;exact aj ⟨_,rfl,"dict_keyiterator",_,st.typeIs,F.slot_dict_keyiterator_next.lookup,h⟩
end L2
namespace K2
open PySem PySem.Spec PyProof.Rows L2
section
variable {X:Cx} {tg a:Expr} {ta:fC} {pos p:Pos}
theorem wb{α β:Type}{F:α->β->Prop}:∀ {l:List α} {m:List β},NR F l m->∀ i (h1:i < l.length) (h2:i < m.length),F l[i] m[i]:=by
 intro l m h;induction h with
 | nil=>intro i h1; exact absurd h1 (bV i)
 | cons h t ih =>
  intro i h1 h2;cases i with
  | zero=>exact h
  | succ i=>exact ih i (tT h1) (tT h2)
theorem Ff{P:bE}{w:World}{k:Key}{u:Value}(h:(bX P w).is k u=true):RelV (kV k) u:=by
 rcases eB h with ⟨i,t,rfl,rfl⟩ | ⟨x,t,rfl,rfl⟩
 ·exact⟨t,rfl⟩
 ·exact⟨t,rfl⟩
theorem oe.keys{K:ah}{H:Hp}:∀ {kv:List (Key×V)} {kvs:List (D×D)},oe K H kv kvs->kvs.map (·.1)=kv.map fun p=>dI p.1:=fun h =>
 oe.ind (motive:=fun kv kvs _=>kvs.map (·.1)=kv.map fun p=>dI p.1) rfl (fun _ _ ih=>congrArg (_ :: ·) ih) h
theorem lB.keys{K:ah}{H:Hp}:∀ {kv:List (List Key×V)} {kvs:List (D×D)},lB K H kv kvs->kvs.map (·.1)=kv.map fun p=>D.tup (p.1.map dI):=fun h =>
 lB.ind (motive:=fun kv kvs _=>kvs.map (·.1)=kv.map fun p=>D.tup (p.1.map dI)) rfl (fun _ _ ih=>congrArg (_ :: ·) ih) h
theorem yA{K:ah}{H:Hp}(k:Key):cB K H (kV k) (dI k):=by
 cases k with
 | inl i=>exact .int i
 | inr x=>exact .str x
theorem rz{K:ah}{H:Hp}:∀ (ks:List Key),bh K H (ks.map kV) (ks.map dI)
 | []=>.nil
 | k :: ks=>.cons (yA k) (rz ks)
theorem EL(ha:gf X a ta):M0 X tg a (PH ta):=by
 intro E pins s σ H τ G R hE I h;refine j5 ha hE I h fun x H1 d G1 v s1 I1 m1 r1 iT q1=>?_;unfold C6 at q1;have go:∀ (l:Addr) (o:Obj) (u:HO) (kvs:List (D×D)) (es:Array gK) (c:Nat) (ks:List V),(l == eu)=false->H1 l=some (.mP o u)->o.ExactDict->o.data=.dict es c->(∀ i (h:i < es.size),∃ v,ks[i]?=some v/\RelV v es[i].key)->ks.length=es.size ->
   bh X.K H1 ks (kvs.map (·.1))->R (kvs.map (·.1)) (fun _=>True) G1->wpAny (model X.prog X.w) X.A (wH (.ref l)) (DN X pins σ tg H G R) X.xe s1:=by
  intro l o u kvs es c ks ns hl ex dd hk hlen rs q;refine y8 ns (I1.inv.cz l _ hl).1 ex dd ?_;refine⟨s1.heap.objs.size,[s1.heap.objs.size],_,_,H1,G1,kvs.map (·.1),_,rfl,I1.inv.kept (t':=s1.toks) fun b o e=>aE _ e,m1,LB l _ o es c ks dd hk,⟨_,aT _ rfl,rfl,rfl⟩,fun b hb=>?_,fun i H2 G2 k ab _=>?_,q⟩
  ·have e:b=s1.heap.objs.size:=by simpa using hb
   subst e;exact I1.inv.Fy (aC _) (I1.inv.cz.fresh (aC _))
  ·have Rm:=k.mP _ _ _ hl;have Nq:=rs.mono k;refine⟨fun d hd=>?_,fun hle=>⟨⟨u,Rm⟩,by rw [<-hlen,rs.length]; exact hle⟩⟩;obtain⟨v,hv,r⟩:=Nq.get hd;have hi:i < es.size:=by rw [<-hlen]; exact(List.getElem?_eq_some_iff.mp hv).1
   refine⟨⟨⟨u,Rm⟩,hi⟩,?_⟩;rintro x H3 ⟨e,y⟩;subst e;rw [hv] at y;cases y;exact⟨r,.refl ab⟩
 cases iT with
 | nV hq rs =>
  rename_i l o kv kvs;cases r1;obtain⟨z,ns,vs,rel,ob,es,ep,ho,ex,dd,ZI,hp,nd⟩:=(I1.inv.cz l _ hq).2;have eo:ob=o:=by have:=(I1.inv.cz l _ hq).1; rw [ho] at this; exact bu this
  subst eo;have l1:es.size=vs.length:=by simpa using hp.length
  have l2:kv.length=vs.length:=fG rel;refine go l ob _ kvs es ep (kv.map fun p=>kV p.1) ns hq ex dd (fun i hi=>?_) (by rw [ag]; lia) ?_ q1
  ·have i2:i < vs.length:=by lia
   have i3:i < kv.length:=by lia
   have g1:=(hp.get? (e:=es[i]) (k:=vs[i].1) (v:=vs[i].2) (by rw [ai (by simpa using hi)]; simp) (by rw [ai i2])).1;refine⟨kV kv[i].1,by simp [i3],?_⟩;have ek:kv[i].1=vs[i].1:=(wb rel i i3 i2).1;rw [ek];exact Ff g1
  ·rw [rs.keys];have:∀ (l:List (Key×V)),bh X.K H1 (l.map fun p=>kV p.1) (l.map fun p=>dI p.1):=by
    intro l;induction l with
    | nil=>exact .nil
    | cons p l ih=>exact .cons (yA p.1) ih
   exact this kv
 | nU hq rs =>
  rename_i l o kv kvs;cases r1;obtain⟨z,ns,xs,rel,ob,es,ep,ho,ex,dd,hl,nd⟩:=(I1.inv.cz l _ hq).2;have eo:ob=o:=by have:=(I1.inv.cz l _ hq).1; rw [ho] at this; exact bu this
  subst eo;have l1:=congrArg cV hl;rw [ag,bp] at l1;refine go l ob _ kvs es ep (xs.map fun q=>V.ref q.2.1) ns hq ex dd (fun i hi=>?_) (by rw [ag]; lia) ?_ q1
  ·have i2:i < xs.length:=by lia
   refine⟨.ref xs[i].2.1,by simp [i2],?_⟩;have:es[i]=zZ (dv (bX X.prog X.w)) xs[i]:=by
    have:=congrArg (fun l=>l[i]?) hl;simp only [aX,ai i2] at this;simpa [hi] using this
   rw [this];rfl
  ·rw [rs.keys];have:∀ (kv:List (List Key×V)) (xs:List (List Key×Addr×Value)),NR (fun (p:List Key×V) (q:List Key×Addr×Value)=>p.1=q.1/\H1 q.2.1=some (.tup (p.1.map kV))/\RelV p.2 q.2.2) kv xs->bh X.K H1 (xs.map fun q=>V.ref q.2.1) (kv.map fun p=>D.tup (p.1.map dI)):=by
    intro kv xs r;induction r with
    | nil=>exact .nil
    | cons h _ ih=>exact .cons (.tup h.2.1 (rz _)) ih
   exact this kv xs rel
 | _=>exact q1.elim
end
end K2
end
section
namespace L2
open PySem PySem.Spec PyProof.Rows PySem.W
section
variable {prog:bE} {w:World}
theorem Hm{A:c8}{it d:Addr}{od:Obj}{es:Array gK}{c:Nat}(hh:A.handled=none)(j8:d≠it)(dd:od.data=.dict es c) :
  Rv prog w A it [it,d] [it] es.size (fun i v=>∃ h:i < es.size,v=es[i].key) (fun i h=>h.IsKeyIter it d i es.size c/\h.get? d=some od) where
 sub:=fun b hb=>by simp at hb; simp [hb]
 frame:=fun i h h' st hk=>⟨st.1.at fun o e=>hk it (by simp) o e,hk d (by simp) od st.2⟩
 item:=fun i s Q E hi st hQ=>BC st.1 st.2 dd hi fun h' xj sb=>hQ _ h' s.toks ⟨hi,rfl⟩ ⟨xj,(sb.2 d j8).trans st.2⟩ fun b o hb e=>(sb.2 b (by simpa using hb)).trans e
 done:=fun s Q E st hQ=>Fc hh st.1 st.2 dd (aC _) fun h' eb=>hQ h' s.toks fun b o hb e=>eb b o (by simpa using hb) e
 self:=fun i s Q E st hQ=>wpAny_pyIter_keyiter st.1 hQ
theorem Ep{d:Addr}{od:Obj}{es:Array gK}{c:Nat}(ns:(d == eu)=false)(ex:od.ExactDict)(dd:od.data=.dict es c) :
  KdlSrc prog w "dict" d d es.size (fun i v=>∃ h:i < es.size,v=es[i].key) (fun h=>h.get? d=some od) where
 type:=fun s cz=>⟨od,cz,ex.1⟩
 there:=fun h cz=>⟨aL cz,aL cz⟩
 keep:=fun h h' cz hk=>hk d (.inl rfl) od cz
 notList:=by decide
 notTuple:=by decide
 hint:=fun A E s Q cz hq=>kdl_hint_dict ⟨od,cz,ex.1⟩ hq
 iter:=fun A s hh cz=>⟨_,_,(fun E Q hq=>y8 ns cz ex dd hq),Hm hh (bB (aL cz)) dd,⟨⟨_,aT _ rfl,rfl,rfl⟩,aE _ cz⟩⟩
end
end L2
namespace K2
open PySem PySem.Spec PyProof.Rows L2 PySem.W
section
variable {X:Cx}
theorem Cj:∀ (ks:List V) (us:List Value),ks.length=us.length->(∀ i (h1:i < ks.length) (h2:i < us.length),RelV ks[i] us[i])->Vals ks us
 | [],[],_,_=>.nil
 | [],_ :: _,h,_=>by cases h
 | _ :: _,[],h,_=>by cases h
 | k :: ks,u :: us,h,hr=>.cons (hr 0 (by simp) (by simp)) (Cj ks us (by simpa using h) fun i h1 h2=>hr (i+1) (by simpa using h1) (by simpa using h2))
end
end K2
end
section
namespace L2
open PySem PySem.Spec PyProof.Rows
noncomputable def Iti(a:Addr)(o:Obj)(kv:List (Key×V)):It :=
 ⟨fun i H=>(∃ u,H a=some (.mP o u))/\i < kv.length,fun i H v H'=>∃ T p,v=.ref T/\H T=none/\H'=upd H T (.tup [kV p.1,p.2])/\kv[i]?=some p,fun i H=>(∃ u,H a=some (.mP o u))/\kv.length<=i⟩
theorem yK{α β:Type}{F:α->β->Prop}:∀ {l:List α} {m:List β},NR F l m->∀ i (h1:i < l.length) (h2:i < m.length),F l[i] m[i]
 | _,_,.cons h _,0,_,_=>h
 | _,_,.cons _ t,i+1,h1,h2=>yK t i (by simpa using h1) (by simpa using h2)
theorem Mj{P:bE}{w:World}{k:Key}{u:Value}(h:(bX P w).is k u=true):RelV (kV k) u:=by
 rcases eB h with ⟨i,t,rfl,rfl⟩ | ⟨x,t,rfl,rfl⟩
 ·exact⟨t,rfl⟩
 ·exact⟨t,rfl⟩
theorem se:entryFor table "dict_itemiterator.__iter__" = some Builtin.«dict_keyiterator.__iter__» :=
 AX (id':="dict_keyiterator.__iter__") (by rw [fastTable_eq_tree]; kernel_rfl) (by decide +kernel) (by decide +kernel) (by rw [fastTable_eq_tree]; kernel_rfl)
theorem Hs{P:bE}{w:World}{K:ah}{elts:List Expr}{kk:Nat}{pos:Pos}(a it:Addr)(o:Obj)(kv:List (Key×V))(vs:List (Key×Value))(ep:Nat)(rel:KV kv vs)(hD:∀ h:Heap,h.get? a=some o->h.DictAt (bX P w) a vs ep) :
  Turn P w K (.Tuple elts kk pos) (Iti a o kv) [it] it (fun i h=>∃ ok ov,IsItemIter h it a i vs.length ep ok ov) where
 mem:=by simp
 obj:=fun i h ⟨ok,ov,st⟩ b hb=>by
  have e:b=it:=by simpa using hb
  subst e;exact⟨_,st,fun v z=>by cases z⟩
 keep:=fun i h h' ⟨ok,ov,st⟩ k=>⟨ok,ov,k it (by simp) _ st⟩
 item:=by
  intro X hP hw hK hc i pins s σ H E I hf st hg;obtain⟨ok,ov,st⟩:=st;subst hP hw hK;obtain⟨⟨u,hu⟩,hi⟩:=hg;have hl:=rel.length;have Mr:i < vs.length:=by lia
  have hx:vs[i]?=some (vs[i].1,vs[i].2):=ai Mr;have rp:=yK rel i hi Mr;have YJ:H s.heap.objs.size=none:=I.cz.fresh (aC _);have hiT:it≠s.heap.objs.size:=bB (aL st);refine wpAny_pyNext_items_item st (hD _ (I.cz a _ hu).1) hx fun key h' hk ho hT hsz kk=>?_;refine⟨_,rfl,?_⟩;have rk:RelV (kV kv[i].1) key:=by rw [rp.1]; exact Mj hk
  have I1:Inv X pins σ (upd H s.heap.objs.size (.tup [kV kv[i].1,kv[i].2])) { s with heap:=h',toks:=s.toks } :=
   I.Cp (fp:=[it]) hf (fun b o hb q=>kk b o (fun z=>hb (by simp [z])) q) (aC _)
    ⟨by show 2<=bo; decide,[key,vs[i].2],.cons rk (.cons rp.2 .nil),⟨_,hT,rfl,_,rfl⟩⟩
  refine wpAny_letOwnedTupleGo_items (s:={ s with heap:=h' }) ho fun h2 YA zc=>?_;have f1:∀ b∈[it],ng X pins (upd H s.heap.objs.size (.tup [kV kv[i].1,kv[i].2])) b:=fun b hb=>(hf b hb).upd (by rw [List.mem_singleton.mp hb]; exact hiT);have I2:Inv X pins σ (upd H s.heap.objs.size (.tup [kV kv[i].1,kv[i].2])) { s with heap:=h2,toks:=s.toks } :=
   Inv.tX (s:={ s with heap:=h',toks:=s.toks }) (t':=s.toks) (fp:=[it]) I1 f1 fun b o hb q=>(zc.2 b (fun z=>hb (by simp [z]))).trans q
  exact⟨.ref s.heap.objs.size,_,I2,rfl,⟨_,kv[i],rfl,YJ,rfl,ai hi⟩,⟨_,_,YA⟩,fun b hb=>(f1 b hb).1⟩
 done:=by
  intro X hP hw hK hc i pins s σ H E I hf st hg;obtain⟨ok,ov,st⟩:=st;subst hP hw hK;obtain⟨⟨u,hu⟩,hi⟩:=hg;have hl:=rel.length;obtain⟨f0,f1,f2,f3,f4,f5⟩:=hf it (by simp);exact wpAny_pyNext_items_end (I.ok.hd hc) st (hD _ (I.cz a _ hu).1) (eK (by lia)) fun h' eb=>⟨rfl,I.turned (t':=s.toks) (fun b o hb e=>eb b o hb e) f0 f1 f3 f4 f5⟩
 self:=fun A i s Q E ⟨ok,ov,st⟩ h=>by
  have ty:s.TypeIs (.ref it) "dict_itemiterator":=⟨_,st,rfl⟩;refine ie ty Hg (cI Hg ty se ?_ (F.args_dict_itemiterator_iter_1 _));show wpAny _ _ (ret (.ref it)) _ _ s;exact aj ⟨_,rfl,"dict_itemiterator",_,ty,F.slot_dict_itemiterator_next.lookup,h⟩
end L2
namespace K2
open PySem PySem.Spec PyProof.Rows L2
section
variable {X:Cx}
theorem UW{pins:List (Addr×Obj)}{σ:L2.St}{H:Hp}{s:ar}{x:V}{kvs:List (D×D)}(I:Inv X pins σ H s)(rd:cB X.K H x (.kh kvs))(h1:Fe kvs=true) :
  ∃ a ob u kv vs ep,x=.ref a/\H a=some (.mP ob u)/\oe X.K H kv kvs/\(a == eu)=false/\KV kv vs/\∀ h:Heap,h.get? a=some ob->h.DictAt (bX X.prog X.w) a vs ep:=by
 cases rd with
 | nV hq rs =>
  rename_i a o kv;obtain⟨z,hm,vs,rel,ob,es,ep,ho,r⟩:=(I.cz a _ hq).2;have eo:ob=o:=by have:=(I.cz a _ hq).1; rw [ho] at this; exact bu this
  subst eo;exact⟨a,ob,_,kv,vs,ep,rfl,hq,rs,hm,rel,fun h e=>⟨ob,es,e,r⟩⟩
 | nU hq rs =>
  rename_i a o kv;cases rs with
  | nil =>
   obtain⟨z,hm,xs,rel,ob,es,ep,ho,hx,xS,hl,nd⟩:=(I.cz a _ hq).2;have eo:ob=o:=by have:=(I.cz a _ hq).1; rw [ho] at this; exact bu this
   subst eo;have hv:xs=[]:=by cases rel; rfl
   subst hv;have he:es=#[]:=by simpa using hl
   subst he;exact⟨a,ob,_,[],[],ep,rfl,hq,.nil,hm,.nil,fun h e=>⟨ob,#[],e,hx,xS,(fun _ h=>by simp at h),.nil,cY⟩⟩
  | cons _ _=>simp [Fe,fh] at h1
theorem oe.item{K:ah}{H:Hp}:∀ {kv:List (Key×V)} {kvs:List (D×D)} {i:Nat} {q:D×D},oe K H kv kvs->kvs[i]?=some q->∃ p,kv[i]?=some p/\q.1=dI p.1/\cB K H p.2 q.2
 | _,_,_,_,.nil,e=>by simp at e
 | _,_,0,_,.cons r _,e=>by simp at e; subst e; exact⟨_,rfl,rfl,r⟩
 | _,_,i+1,q,.cons _ t,e=>by
  obtain⟨p,h1,h2⟩:=oe.item (i:=i) (q:=q) t (by simpa using e);exact⟨p,by simpa using h1,h2⟩
variable {elts:List Expr} {kk:Nat} {yk apos jq:Pos} {o:Expr} {to:fC}
theorem LR{K:ah}{H:Hp}(k:Key):cB K H (kV k) (dI k):=by
 cases k with
 | inl i=>exact .int i
 | inr x=>exact .str x
theorem L1 (ho:gf X o to) (Ft:vS o "items" X.env (eval o X.env)=eval o X.env:=by rfl) (Fq:(apos.endLine == jq.line)=true:=by rfl) :
  M0 X (.Tuple elts kk yk) (.Call (.Attribute o "items" apos) [] [] jq) (Iw to):=by
 intro E pins s σ H τ G R hE I h;refine wpAny_Call_method0_late Ft Fq (j5 ho hE I h fun x H1 d G1 v s1 I1 m1 r1 iT q1=>?_);cases d with
 | kh kvs =>
  obtain⟨h1,q1⟩:=q1;obtain⟨t1,t2⟩:=yh pins s1 σ H1 G1 x _ v I1.inv I1.ab r1 iT trivial;obtain⟨a,ob,u,kv,vs,ep,rfl,hu,rs,hm,rel,hD⟩:=UW I1.inv iT h1;cases r1;refine⟨"dict","dict.items",qj,Hb,PySem.F.type_dict_items,t1,t2,sL rfl (Ru ?_)⟩;have dA:=hD _ (I1.inv.cz a _ hu).1;refine call_meetsIn Hb t1 PySem.F.entry_dict_items (PySem.F.args_dict_items_1 _) (meets_dict_items (bX X.prog X.w) a hm) ⟨⟨vs,dA.dictOf⟩,?_⟩;have I2:Inv X pins σ H1 { s1 with heap:=s1.heap.push { cls:=.type "dict_items",data:=.fields #[.ref a] } }:=I1.inv.kept (t':=s1.toks) fun b o e=>aE _ e;refine wpAny_pyIter_items (s:={ s1 with heap:=s1.heap.push { cls:=.type "dict_items",data:=.fields #[.ref a] } }) (kvs:=vs) (ep:=ep) ⟨_,aT _ rfl,rfl,rfl⟩ (dA.push _) ?_;refine⟨_,[_],_,_,H1,G1,kvs.map (fun p=>.tup [p.1,p.2]),_,rfl,I2.kept (t':=s1.toks) fun b o e=>aE _ e,m1,Hs a _ ob kv vs ep rel hD,⟨.none,.none,aT _ rfl⟩,fun b hb=>?_,fun i H2 G2 k ab _=>?_,q1⟩
  ·have e:=List.mem_singleton.mp hb;subst e;exact I2.Fy (aC _) (I2.cz.fresh (aC _))
  ·have Rm:=k.mP _ _ _ hu;have Nq:=rs.mono k;have hlen:kv.length=kvs.length:=rs.length;refine⟨fun d hd=>?_,fun hle=>⟨⟨u,Rm⟩,by rw [hlen]; simpa using hle⟩⟩;rw [aX] at hd;cases SW:kvs[i]? with
   | none=>rw [SW] at hd; cases hd
   | some q =>
    rw [SW] at hd;obtain⟨p,hp,ek,rp⟩:=Nq.item SW;have hi:i < kv.length:=(List.getElem?_eq_some_iff.mp hp).1;refine⟨⟨⟨u,Rm⟩,hi⟩,fun x H3 ⟨T,p',ex,hT,e3,hy⟩=>?_⟩;subst ex e3;rw [hp] at hy;cases hy;have ed:D.tup [q.1,q.2]=d:=by simpa using hd
    subst ed;rw [ek];exact⟨.tup cJ (.cons (LR _) (.cons (rp.mono (.new hT)) .nil)),.Nt ab hT⟩
 | _=>exact q1.elim
end
end K2
end
section
namespace K2
open PySem PySem.Spec PyProof.Rows L2 PySem.W
section
variable {X:Cx}
variable {es:List Expr} {t:TF2} {e v1 v2:Expr} {te:fC} {pos:Pos} {c:Str} {k:Nat}
variable {a:Expr} {ta:fC} {p p2 CN:Pos}
theorem HE{pins:List (Addr×Obj)}{σ:L2.St}{H:Hp}{G:Gp}{s:ar}{Q:DK}{T:String}{r d:Addr}{n:Nat}{P:Nat->Value->Prop}{OK:Heap->Prop}(hc:X.calm=true)(hu:X.A.units+64 < cLine)(I:Inv X pins σ H s)(ab:lC X.K H G)
  (K:vC X.prog X.w T r d n P OK) (VO:OK s.heap) {vs:List V} {zs:List D} (hlen:vs.length=n) (hP:∀ i u (h:i < vs.length),P i u->RelV vs[i] u) (rs:bh X.K H vs zs) (sh:nc) (hz:∀ z∈zs,cM sh z=true) (cz:O3 sh=true) (h64:zs.length < 64)
  (q:jb G (.lst (nA zs)) Q):wpAny (model X.prog X.w) X.A (call (.builtin "sorted") [.ref r]) (rO X pins σ H G Q) X.xe s:=by
 have Rm:=rs.length;have hsz:bo=16777216:=cx;obtain⟨m,F0⟩:=I.fr;have nL:∀ b o vs n,o.data=.seq vs n->s.heap.get? b=some o->b≠X.env.locals:=fun b o vs n e1 e2 z=>by
  obtain⟨o',es,ep,Mo,xS,_⟩:=F0.ns;rw [z,Mo] at e2; cases e2; rw [xS] at e1; cases e1
 unfold O3 at cz;rw [aN] at cz;have hdp:S5 sh<=7:=of_decide_eq_true cz.1;have sn:∀ z∈zs,Sn G 7 z z:=fun z h=>Cy G sh z 7 (hz z h) hdp;refine kdu_sorted K (I.ok.hd hc) F0 yN VO (by lia) fun Dd h0 tk bw F1 N1 oj hl0 hP'=>?_;have T8:vs.length=bw.length:=by lia
 have rv:Vals vs bw:=Cj vs bw T8 fun i h1 h2=>hP i bw[i] h1 (hP' i bw[i] (ai h2));by_cases nH:bw.length < 2
 ·have e2:h0.get? Dd=some (tP "list" bw.toArray 0):=(N1 _ aB).1;refine cI slot_list_sort ⟨_,e2,rfl⟩ entry_list_sort (Es (s:={ s with heap:=h0,toks:=tk }) e2 nH ⟨_,rfl,?_⟩) (args_list_sort _);obtain⟨kk,ns⟩:=l6 I F0 F1 fun p hp=>N1 p (ao _ hp);have hD:s.heap.get? Dd=none:=by
   have nD:=N1 _ aB;cases qd:s.heap.get? Dd with
   | none=>rfl
   | some o=>exact absurd (oj _ (nF nD.2.1 nD.2.2 qd)) (eU _)
  have hp:H Dd=none:=xT I.cz hD;have hDL:Dd≠X.env.locals:=(N1 _ aB).2.1;obtain⟨e3,h3⟩:=sortedHeap_at (out:=bw.toArray) e2;have es:nA zs=zs:=lN sh hz (.refl _) (by
   match zs,Rm,nH with
   | [],_,_=>exact .nil
   | [z],_,_=>exact Ng _ _
   | _ :: _ :: _,h,f=>exact absurd f (by rw [<-T8,h]; simp))
  rw [es] at q;refine⟨.ref Dd,upd H Dd (.lst vs),.ref _,_,Inv.Ky (t':=tk) I (fun b o hb e=>?_) (fun m' hm=>?_) hD ⟨by lia,bw,e3,rv,h3⟩,.Ar ab hp rs,rfl,.ref _,q _ (ab.free hp)⟩
  ·have ZO:b≠Dd:=fun z=>by rw [z,hD] at e; cases e
   have e4:=kk b o hb e;rw [sortedHeap_old ZO (aL e4)]; exact e4
  ·obtain⟨o,es,ep,ho,r⟩:=ns m' hm;exact⟨o,es,ep,by rw [sortedHeap_old (cW hDL) (aL ho)]; exact ho,r⟩
 have nz:0 < zs.length:=by lia
 refine kat_lsort (vs:=bw) F1 N1 (.head fun q hq z=>absurd (oj q hq) (by rw [z]; exact eU _)) (by simp) (by lia) (by lia) fun e1 h' F N=>?_;obtain⟨kk,ns⟩:=l6 I F0 F fun p hp=>N p (ao _ hp);have Aq:∀ i,i < bw.length->∃ as,Reads h' (bw.getD i .none) (pd (zs.getD i .cL)) as:=fun i hi=>by
  have i1:i < zs.length:=by lia
  have i2:i < vs.length:=by lia
  have g1:zs.getD i .cL=zs[i]:=getD_at _ _ i1;have g2:bw.getD i .none=bw[i]:=getD_at _ _ hi;obtain⟨v,hv,Xp⟩:=rs.get (ai i1);obtain⟨u,uP,US⟩:=rv.get hv;rw [ai hi] at uP;cases uP;obtain⟨as,r⟩:=(gQ I ab (sn _ (bP i1))).1 v _ Xp US;rw [g1,g2];exact⟨as,qD (fun b o vs n e1 e2=>kk b o (nL b o vs n e1 e2) e2) _ (sn _ (bP i1)).nr r⟩
 have wN:∀ i,i < zs.length->cM sh (zs.getD i .cL)=true:=fun i hi=>by rw [getD_at _ _ hi]; exact hz _ (bP hi)
 have Sv:∀ i,i < zs.length->nr (zs.getD i .cL)=true:=fun i hi=>by rw [getD_at _ _ hi]; exact(sn _ (bP hi)).nr
 have YZ:∀ i,i < zs.length->(pd (zs.getD i .cL)).depth<=7:=fun i hi=>by rw [getD_at _ _ hi]; exact zC (sn _ (bP hi))
 let zz:Nat->D:=fun i=>if i < zs.length then zs.getD i .cL else zs.getD 0 .cL
 have N5:∀ i,cM sh (zz i)=true:=fun i=>by
  show cM sh (if i < zs.length then zs.getD i .cL else zs.getD 0 .cL)=true;split
  ·exact wN i (by assumption)
  ·exact wN 0 nz
 let lt:Nat->Nat->Bool:=fun i j=>mY (zz i) (zz j)
 have swo:Lo lt:=⟨fun i j h=>wg sh (N5 i) (N5 j) h,fun i j k h1 h2=>sR sh (N5 i) (N5 j) (N5 k) h1 h2⟩;have XY:∀ i j,i < zs.length->j < zs.length->lt i j=mY (zs.getD i .cL) (zs.getD j .cL):=fun i j hi hj=>by
  show mY (if i < zs.length then _ else _) (if j < zs.length then _ else _)=_;rw [if_pos hi,if_pos hj]
 obtain⟨p,ep,qQ,Xw,hup⟩:=EB swo (n:=bw.length) (by lia);have YM:X.A.in1.in1.units=X.A.units+2:=rfl;have ask:∀ κ:SortKind,(∀ i j,i < bw.length->j < bw.length->∀ C:Bool->ar->Prop,C (mY (zs.getD i .cL) (zs.getD j .cL)) { s with heap:=h',toks:=tk }->kas_ask X.prog X.w X.A.in1.in1 κ bw i j C { s with heap:=h',toks:=tk }) ->
   (kas_sort bw.length).kasWp (kas_ask X.prog X.w X.A.in1.in1 κ bw) (fun p UP=>KasFin X.base X.env.locals m Dd e1 (p.toList.map fun i=>bw.getD i dG) (fun s3=>rO X pins σ H G Q (.ref Dd) s3) UP) { s with heap:=h',toks:=tk }:=by
  intro κ hk;refine y9 (lt:=lt) (n:=bw.length) (fun i j i1 i2 C hC=>hk i j i1 i2 C (by rw [<-XY i j (by lia) (by lia)]; exact hC)) _ (Gn (by lia)) ?_;rw [ep];refine KasFin.intro (g:=fun o=>(Dd,o) :: pK X.base s.heap X.env.locals) F N (.head (fun q hq z=>absurd (oj q hq) (by rw [z]; exact eU _))) fun h2 c F2 N2=>?_;obtain⟨k2,ns2⟩:=l6 I F0 F2 fun p hp=>N2 p (ao _ hp);have hD:s.heap.get? Dd=none:=by
   have nD:=N _ aB;cases qd:s.heap.get? Dd with
   | none=>rfl
   | some o=>exact absurd (oj _ (nF nD.2.1 nD.2.2 qd)) (eU _)
  have hp:H Dd=none:=xT I.cz hD;have rvp:Vals (p.toList.map fun i=>vs.getD i .cL) (p.toList.map fun i=>bw.getD i dG):=by
   have:∀ (ps:List Nat),(∀ i∈ps,i < bw.length)->Vals (ps.map fun i=>vs.getD i .cL) (ps.map fun i=>bw.getD i dG):=by
    intro ps;induction ps with
    | nil=>intro _; exact .nil
    | cons i ps ih =>
     intro hh;have hi:=hh i (by simp);refine .cons ?_ (ih fun j hj=>hh j (ao _ hj));have i2:i < vs.length:=by lia
     obtain⟨u,uP,US⟩:=rv.get (ai i2);rw [ai hi] at uP;cases uP;show RelV (vs.getD i .cL) (bw.getD i .none);rw [getD_at _ _ i2,getD_at _ _ hi]; exact US
   exact this _ fun i hi=>by simpa using qQ.mem_iff.mp hi
  have rsp:bh X.K H (p.toList.map fun i=>vs.getD i .cL) (p.toList.map fun i=>zs.getD i .cL):=by
   have:∀ (ps:List Nat),(∀ i∈ps,i < bw.length)->bh X.K H (ps.map fun i=>vs.getD i .cL) (ps.map fun i=>zs.getD i .cL):=by
    intro ps;induction ps with
    | nil=>intro _; exact .nil
    | cons i ps ih =>
     intro hh;have hi:=hh i (by simp);refine .cons ?_ (ih fun j hj=>hh j (ao _ hj));have i2:i < vs.length:=by lia
     have i1:i < zs.length:=by lia
     obtain⟨v,hv,r⟩:=rs.get (ai i1);rw [ai i2] at hv;cases hv;show cB X.K H (vs.getD i .cL) (zs.getD i .cL);rw [getD_at _ _ i2,getD_at _ _ i1]; exact r
   exact this _ fun i hi=>by simpa using qQ.mem_iff.mp hi
  have es:nA zs=p.toList.map fun i=>zs.getD i .cL:=by
   refine lN sh hz ?_ ?_
   ·have h1:(p.toList.map fun i=>zs.getD i .cL).Perm ((aU zs.length).map fun i=>zs.getD i .cL):=by
     have:bw.length=zs.length:=by lia
     rw [<-this];exact qQ.map _
    rw [mE] at h1;exact h1
   ·rw [eI,JA];intro i j hi hj IC;have g1:gA p i=p.toList[i]:=by
     have:i < p.size:=by simpa using hi
     simp [gA,ql,this]
    have g2:gA p j=p.toList[j]:=by
     have:j < p.size:=by simpa using hj
     simp [gA,ql,this]
    have bi:p.toList[i] < bw.length:=by simpa using qQ.mem_iff.mp (bP hi)
    have bj:p.toList[j] < bw.length:=by simpa using qQ.mem_iff.mp (bP hj)
    have:=hup i j (by lia) (by have:j < p.toList.length:=hj; rw [bp,Xw] at this; exact this);rw [g1,g2,XY _ _ (by lia) (by lia)] at this;exact this
  rw [es] at q;have ln:(p.toList.map fun i=>vs.getD i .cL).length<=bo:=by rw [ag,bp,Xw]; lia
  refine⟨.ref Dd,upd H Dd (.lst (p.toList.map fun i=>vs.getD i .cL)),.ref _,_,Inv.Ky (t':=tk) I k2 ns2 hD ?_,.Ar ab hp rsp,rfl,.ref _,q _ (ab.free hp)⟩;exact⟨ln,_,c,rvp,(N2 _ aB).1⟩
 have gen:∀ i j,i < bw.length->j < bw.length->∀ C:Bool->ar->Prop,C (mY (zs.getD i .cL) (zs.getD j .cL)) { s with heap:=h',toks:=tk }->wpAny (model X.prog X.w) X.A.in1.in1 (keyLt' Nd (bw.getD i dG) (bw.getD j dG)) C (fun _ _=>False) { s with heap:=h',toks:=tk }:=by
  intro i j hi hj C hC;obtain⟨as,r1⟩:=Aq i hi;obtain⟨bs,r2⟩:=Aq j hj;rw [keyLt'_oneType];exact qM (s:={ s with heap:=h',toks:=tk }) (n:=7) (YZ i (by lia)) (wN i (by lia)) (wN j (by lia)) (Sv i (by lia)) (Sv j (by lia)) r1 r2 (by rw [YM]; lia) X.prog X.w _ C hC
 have lk:∀ v∈bw,Looks (model X.prog X.w) h' (typeOf v) (Eo sh):=fun v hv=>by
  obtain⟨i,hi,rfl⟩:=e8 hv;obtain⟨as,r⟩:=Aq i hi;rw [getD_at _ _ hi] at r;exact rG (wN i (by lia)) r
 cases sh with
 | int=>exact kas_kind (s:={ s with heap:=h',toks:=tk }) (T:=.type "int") (by lia) lk rfl rfl (ask Nd gen)
 | lst ss=>exact kas_kind (s:={ s with heap:=h',toks:=tk }) (T:=.type "list") (by lia) lk rfl rfl (ask Nd gen)
 | tup ss =>
  cases ss with
  | nil=>exact absurd cz.2 (by simp)
  | cons s1 ss =>
   obtain⟨fs,t1,t2,t3⟩:=wM (h:=h') zs bw hz Aq (by lia);refine kat_kind (s:={ s with heap:=h',toks:=tk }) (T:=Eo s1) t1 (by lia) (fun f hf=>?_) (by cases s1 <;> rfl) (ask _ fun i j hi hj C hC=>?_)
   ·obtain⟨d,as,h1,h2⟩:=t3 f hf;exact rG h1 h2
   ·obtain⟨as,r1⟩:=Aq i hi;obtain⟨bs,r2⟩:=Aq j hj;exact BD (s:={ s with heap:=h',toks:=tk }) (n:=7) (by have:=YZ i (by lia); lia) (wN i (by lia)) (wN j (by lia)) (Sv i (by lia)) (Sv j (by lia)) r1 r2 (by rw [YM]; lia) hC
end
end K2
end
section
namespace K2
open PySem PySem.Spec PyProof.Rows L2 PySem.W
section
variable {X:Cx}
theorem yT{pins:List (Addr×Obj)}{σ:L2.St}{H:Hp}{G:Gp}{s:ar}{Q:DK}{T:String}{r d:Addr}{n:Nat}{P:Nat->Value->Prop}{OK:Heap->Prop}(hc:X.calm=true)(I:Inv X pins σ H s)(ab:lC X.K H G)
  (K:vC X.prog X.w T r d n P OK) (VO:OK s.heap) {vs:List V} {zs:List D} (hlen:vs.length=n) (hP:∀ i u (h:i < vs.length),P i u->RelV vs[i] u) (rs:bh X.K H vs zs) (hn:n<=1000)
  (q:jb G (.lst zs) Q):wpAny (model X.prog X.w) X.A (call (.type "list") [.ref r]) (rO X pins σ H G Q) X.xe s:=by
 have hsz:bo=16777216:=cx;refine kdl_call K (I.ok.hd hc) VO (by lia) fun h' tk acc c' hk hD YG=>?_;have hp:H s.heap.objs.size=none:=I.cz.fresh (aC _);have rv:Vals vs acc.toList:=Cj vs acc.toList (by have:=YG.1; have e:=bp (xs:=acc); lia) fun i h1 h2=>hP i acc.toList[i] h1 (YG.2 i _ (by rw [a8 (by simpa using h2)]; simp));exact⟨.ref _,upd H s.heap.objs.size (.lst vs),.ref _,_,I.laid (a:=s.heap.objs.size) (t':=tk) (fun b o e=>hk b o e) (aC _) ⟨by lia,acc.toList,c',rv,by simpa [tP,W.listOf] using hD⟩,.Ar ab hp rs,rfl,.ref _,q _ (ab.free hp)⟩
theorem Gh (hc:X.calm=true):qY X (.type "list") DD:=by
 intro pins s σ H G xs ds us Q I ab rx rd q;unfold DD at q;split at q
 ·rename_i a;split at q
  ·rename_i kvs hg;obtain⟨hn,q⟩:=q;obtain⟨w1,rfl,CC⟩:=rd.one;obtain⟨u,rfl,ru⟩:=rx.one;cases CC;cases ru;rcases ab a _ hg with ⟨kv,hq,rs⟩ | ⟨kv,hq,rs⟩
   ·obtain⟨z,hm,vs,rel,ob,es,ep,ho,ex,dd,ZI,hp,nd⟩:=I.cz a _ hq;have l1:es.size=vs.length:=by simpa using hp.length
    have l2:kv.length=vs.length:=fG rel;have l3:=rs.length;refine yT hc I ab (Ep hm ex dd) ho (vs:=kv.map fun p=>kV p.1) (zs:=kvs.map (·.1)) (by rw [ag]; lia) (fun i u hi hP=>?_) ?_ (by lia) q
    ·obtain⟨Mr,rfl⟩:=hP;have i2:i < vs.length:=by lia
     have i3:i < kv.length:=by lia
     have g1:=(hp.get? (e:=es[i]) (k:=vs[i].1) (v:=vs[i].2) (by rw [ai (by simpa using Mr)]; simp) (by rw [ai i2])).1;have e2:kv[i].1=vs[i].1:=(wb rel i i3 i2).1;rw [j4,e2];exact Ff g1
    ·rw [rs.keys];have:∀ (l:List (Key×V)),bh X.K H (l.map fun p=>kV p.1) (l.map fun p=>dI p.1):=by
      intro l;induction l with
      | nil=>exact .nil
      | cons p l ih=>exact .cons (yA p.1) ih
     exact this kv
   ·obtain⟨z,hm,ys,rel,ob,es,ep,ho,ex,dd,hl,nd⟩:=I.cz a _ hq;have l1:=congrArg cV hl;rw [ag,bp] at l1;have l2:=fG rel;have l3:=rs.length;refine yT hc I ab (Ep hm ex dd) ho (vs:=ys.map fun q=>V.ref q.2.1) (zs:=kvs.map (·.1)) (by rw [ag]; lia) (fun i u hi hP=>?_) ?_ (by lia) q
    ·obtain⟨Mr,rfl⟩:=hP;have i2:i < ys.length:=by lia
     have:es[i]=zZ (dv (bX X.prog X.w)) ys[i]:=by
      have:=congrArg (fun l=>l[i]?) hl;simp only [aX,ai i2] at this;simpa [Mr] using this
     rw [this,j4];rfl
    ·rw [rs.keys];have:∀ (kv:List (List Key×V)) (xs:List (List Key×Addr×Value)),KT H kv xs->bh X.K H (xs.map fun q=>V.ref q.2.1) (kv.map fun p=>D.tup (p.1.map dI)):=by
      intro kv xs r;induction r with
      | nil=>exact .nil
      | cons h _ ih=>exact .cons (.tup h.2.1 (rz _)) ih
     exact this kv ys rel
  ·exact q.elim
 ·exact q.elim
variable {a:Expr} {ta:fC} {pos p CN p2:Pos}
end
end K2
end
section
namespace K2
open PySem PySem.Spec PyProof.Rows L2
section
variable {X:Cx}
noncomputable def U0(neg:Bool):AS:=fun x y G Q=>match y with
 | .cL=>LS neg x G Q
 | _=>False
theorem XQ{H:Hp}{x:V}{dx:D}{v:Value}(r:RelV x v)(rd:cB X.K H x dx)(h:dx≠.cL):v≠.none:=by
 intro z;subst z;cases rd with
 | cL=>exact h rfl
 | bl b=>cases r
 | int i=>obtain⟨t,e⟩:=r; cases e
 | str x=>obtain⟨t,e⟩:=r; cases e
 | _=>cases r
theorem R9{neg:Bool}{x:D}{G:Gp}{Q:DK}(h:x≠.cL)(q:LS neg x G Q):Q (.bl neg) G:=by
 cases x with
 | cL=>exact absurd rfl h
 | _=>exact q
theorem L6:oa X (dB .IsNot) (U0 true):=by
 intro pins s σ H G x y dx dy v u Q I ab rx ry dX dY q;unfold U0 at q;split at q
 ·cases dY;cases ry;by_cases h:dx=.cL
  ·subst h;cases dX;cases rx;exact isnot_none_none ⟨.bl false,H,.bl false,G,I,.refl ab,rfl,.bl _,q⟩
  ·exact isnot_none_ne (XQ rx dX h) ⟨.bl true,H,.bl true,G,I,.refl ab,rfl,.bl _,R9 h q⟩
 ·exact q.elim
variable {a:Expr} {ta:fC} {pos p:Pos}
end
end K2
end
section
namespace K2
open PySem PySem.Spec PyProof.Rows L2
section
variable {K:ah} {h:Heap} {C:Addr} {Y9:List Value} {newId:String}
inductive Wt (h:Heap) (C:Addr) (Y9:List Value) (newId:String):Prop
 | mk (bm N nm qn bs aci sn sub ab col dd k0 k1 k2 k3 k5 mN) (o:h.get? C=some (excClassObj nm qn C N bs bm aci sn sub ab col dd k0 k1 k2 k3 k5 newId)) (n:h.Ns N mN) (i:mN "__init__" = none) (t:OwnTail h Y9 bm):Wt h C Y9 newId
end
end K2
end
section
namespace K2
open PySem PySem.Spec PyProof.Rows L2
noncomputable def subIn(K:ah)(C:Addr)(v:Value):Bool:=match K.lookup C with
 | some ⟨_,_,.cls cd,_⟩=>cd.mro.contains v
 | _=>false
section
variable {X:Cx} {x cn n:Str} {D f:Addr} {fd:aJ} {ps:List Str} {k i:Nat} {sp:om} {bmD:List Value} {newD:String} {cat:List Str} {e:Expr} {es:List Expr} {p np pos ep SU tp:Pos} {st0:Stmt} {acV:List Stmt} {t:Gu} {th:iO}
structure aeb(X:Cx):Prop where
 st:X.stack=X.env :: X.outer
 fr:X.env.frame=some X.env.locals
 ex:X.ex=[]
structure Clause(X:Cx)(i:Nat)(n cn:Str)(D:Addr)(cat:List Str):Prop where
 nd:X.N.Nodup
 Uk:X.N[i]?=some n
 loc:X.env.scope.names.lookup n=some .local
 gl:Gl X cn
 mg:X.mg cn=some (.ref D)
 cls:∃ bmD newD,PySem.W.excIn X.K D bmD newD=true/\bmD.contains (.type "BaseException")=true
 cat:∀ c,cat.contains c=true->∃ C Y9 newId,dH X.K bQ c=some (some (.ref C))/\PySem.W.excIn X.K C Y9 newId=true/\subIn X.K C (.ref D)=true
end
end K2
end
section
namespace K2
open PySem PySem.Spec PyProof.Rows L2 PySem.W PySem.Calls PySem.Builtin PySem.Builtin.Getset_descriptor
section
variable {prog:bE} {w:World} {A:c8} {E:Value->ar->Prop} {s:ar} {K:ah} {a C:Addr} {ox:Obj}
structure ad8(K:ah)(C:Addr):Prop where
 ga:findIn K (.ref C) "__getattribute__" = some (some (.builtin "BaseException.__getattribute__"))
 gn:findIn K (.ref C) "__getattr__" = some none
 Uk:findIn K (.ref C) "__class__" = some (some (.builtin "object.__class__"))
 sp:specialIn K (.builtin "object.__class__") "__get__" = some (some (.builtin "getset_descriptor.__get__"))
 tk:takesIn K (.builtin "object.__class__")=some true
 mo:mroIn K C (.type "object")=some true
 mb:mroIn K C (.type "BaseException")=some true
 is:(clsIn K C).isSome=true
end
end K2
end
section
namespace K2
open PySem PySem.Spec PyProof.Rows L2
section
variable {X:Cx} {e:Expr} {te:fC} {pos:Pos}
theorem kj{i:Nat}{x:Str}{pos':Pos}(hN:X.N.Nodup)(hi:X.N[i]?=some x)(he:gf X e te)(hx:autoParam (Loc X.env.scope x) Ao._auto_1)(hs:D8 e (some (.Name x pos')) pos.line X.env=pure false:=by rfl)(hf:autoParam (X.fn x=true\/X.env.scope.names.lookup x=some .local) Ao._auto_1) :
  Lq X (.Assign [.Name x pos'] e pos) (bK te (aM i)):=Sf hN hi hx he hs hf
theorem o4{i:Nat}{x:Str}(hN:X.N.Nodup)(hi:X.N[i]?=some x)(hx:autoParam (Loc X.env.scope x) Ao._auto_1)(hf:autoParam (X.fn x=true\/X.env.scope.names.lookup x=some .local) Ao._auto_1):NA X (.Name x pos) (aM i):=OW hN hi hx hf
theorem sF{P:bE}{w:World}{K:ah}{mg:Str->Option Value}{base:Heap}{x qual:Str}{st:Stmt}{f:Addr}{fd:aJ}{Nn ps:List Str}{k:Nat}{sp:om}{rd:iO}(F:oS K x qual st f fd)(S:cG Nn ps (a9 st))
  (hr:∀ ds G Q,sp ds G Q (fun _ _=>False)->rd (fun _ _=>False) (ends Q) (bG Nn.length ds) G)
  (hb:∀ (oR:Value) (A:c8) (outer:List Env) (s:ar) (H:Hp) (E:XK),mK k (A.deeper (D9 qual (a9 st) s.heap.objs.size f oR))->zP (FZ gP P w K mg base Nn qual (a9 st) f oR A outer s H E).WA (jQ st) rd)
  (len:autoParam (∀ ds G Q E,sp ds G Q E->ds.length=ps.length) Al._auto_1):fV P w K mg base gP (k+1) f fd ps (dj K sp):=S1 F S len hr hb
theorem su{N ps:List Str}{sc:Scope}(h1:sc.kind=.function:=by rfl)(h2:sc.isCoroutine=false:=by rfl)(h3:sc.isGenerator=false:=by rfl)(h4:N.Nodup:=by decide +kernel)(h5:N.take ps.length=ps:=by rfl)
  (h6:∀ x∈ps,sc.names.lookup x=some .local\/sc.names.lookup x=some .cell:=by decide +kernel) (h7:∀ y∈sc.names,y.2≠.free:=by decide +kernel):cG N ps sc:=⟨h1,h2,h3,h4,h5,h6,h7⟩
end
end K2
end
section
namespace K2
open PySem PySem.Spec PyProof.Rows L2
section
variable {X:Cx} {a b c:Expr} {ta tb tc:fC} {pos:Pos}
theorem Kl {x:Str} {i:Int} {t:Tok} {p:Pos} (hg:Gl X x) (hm:X.mg x=some (.int i t)) (hd:(x == ("__debug__" : Str))=false:=by decide):gf X (.Name x p) (dC (.int i)):=wa (Sg (v:=.int i) hg hm ⟨t,rfl⟩ hd) fun _ _=>.int i
theorem rL:qY X (.builtin "abs") cAbs:=by
 intro pins s σ H G xs ds us Q I ab rx rd q;unfold cAbs at q;split at q
 ·rename_i i;obtain⟨w1,rfl,CC⟩:=rd.one;obtain⟨u,rfl,ru⟩:=rx.one;cases CC;obtain⟨t,rfl⟩:=ru;exact call_abs_int fun u tk=>⟨.int _,H,.int _,G,I.tok _,.refl ab,⟨_,rfl⟩,.int _,q⟩
 ·exact q.elim
theorem Bs{op op':CmpOp}{r r':AS}(ho:oa X (dB op) r)(Mo:oa X (dB op') r')(ha:gf X a ta)(hb:gf X b tb)(hc:gf X c tc)
  (hm:autoParam (lastMarks [op,op'] [b,c]=false) Aw._auto_1):Lp X (.Compare a [op,op'] [b,c] pos) (pz r r' ta tb tc):=by
 intro E pins s σ H τ G Q hE I h;refine isTrue_chain (j5 ha hE I h fun x H1 dx G1 v s1 I1 m1 r1 iT q1=>test_link (j5 hb hE I1 q1 fun y H2 dy G2 u s2 mQ m2 r2 xH q2=>?_)) hm;refine fZ (ho pins s2 σ H2 G2 x y dx dy v u _ mQ.inv mQ.ab r1 r2 (iT.mono (m2.kp I1.ab)) xH q2) fun d s3 z=>?_;obtain⟨z,H3,dz,G3,I3,m3,r3,UY,k,e,q3⟩:=z;subst e;cases UY;cases r3;have XW:=(m1.trans m2).trans m3;refine jX ?_;cases k with
 | false=>exact ite_ff ⟨H3,G3,I3,XW,q3⟩
 | true =>
  have J3:I2 X pins σ H3 τ G3 s3:=mQ.mv I3 m3;refine ite_tt (test_last (j5 hc hE J3 q3 fun w' H4 dw G4 u4 s4 I4 m4 r4 rd4 q4=>?_));refine fZ (Mo pins s4 σ H4 G4 y w' dy dw u u4 _ I4.inv I4.ab r2 r4 ((xH.mono (m3.kp mQ.ab)).mono (m4.kp J3.ab)) rd4 q4) fun d' s5 z=>?_;obtain⟨z2,H5,dz2,G5,I5,m5,r5,Xq,k2,e2,q5⟩:=z;subst e2;cases Xq;cases r5;exact jX ⟨H5,G5,I5,(XW.trans m4).trans m5,q5⟩
end
end K2
end
section
namespace L2
open PySem PySem.Spec PyProof.Rows
noncomputable def acM(K:ah)(a:Addr)(n:Nat):It :=
  ⟨fun i H=>∃ xs x,oK K H a xs/\xs[i]?=some x,
   fun i H v H'=>∃ T y,v=.ref T/\H T=none/\H'=upd H T (.tup [.int ((n+i:Nat):Int),y])/\∀ xs,oK K H a xs->xs[i]?=some y,
   fun i H=>∃ xs,oK K H a xs/\xs.length<=i⟩
theorem Qr{prog:bE}{w:World}{A:c8}{it l:Addr}{items:Array Value}(n:Nat)(hh:A.handled=none)(hil:l≠it) :
  Draws prog w A it [it,l] (n+items.size) (fun j x=>∃ i,j=n+i/\items[i]?=some x) (fun j h=>∃ i,j=n+i/\h.IsListIter it l i/\h.IsList l items) where
 live:=(by rintro j h ⟨i,_,⟨o,ho,_⟩,_⟩; exact⟨o,ho⟩)
 frame:=(by rintro j h h' ⟨i,e,hit,hl⟩ k; exact⟨i,e,hit.at fun o q=>k it (by simp) o q,let ⟨o,ho,r⟩:=hl; ⟨o,k l (by simp) o ho,r⟩⟩)
 item:=fun j s Q E hj VM hQ=>by
  obtain⟨i,e,hit,hl⟩:=VM;have hi:i < items.size:=by lia
  refine wpAny_nextOf_list_item hit hl (x:=items[i]) (by simp [hi]) fun h' VR hs=>hQ _ h' s.toks ⟨i,e,by simp [hi]⟩ ⟨i+1,by lia,VR,?_⟩ hs;obtain⟨o,ho,r⟩:=hl;exact⟨o,(hs.2 l hil).trans ho,r⟩
 done:=fun s Q E Yk hE=>by
  obtain⟨i,e,hit,hl⟩:=Yk;have hi:i=items.size:=by lia
  exact wpAny_nextOf_list_end hh hit hl (by simp [hi]) hE
theorem MO{prog:bE}{w:World}{A:c8}{it l:Addr}{items:Array Value}{n:Nat}(hh:A.handled=none)(hx:items[n]?=none) :
  Draws prog w A it [it,l] n (fun _ _=>True) (fun j h=>j=n/\h.IsListIter it l n/\h.IsList l items) where
 live:=(by rintro j h ⟨_,⟨o,ho,_⟩,_⟩; exact⟨o,ho⟩)
 frame:=(by rintro j h h' ⟨e,hit,hl⟩ k; exact⟨e,hit.at fun o q=>k it (by simp) o q,let ⟨o,ho,r⟩:=hl; ⟨o,k l (by simp) o ho,r⟩⟩)
 item:=(by rintro j s Q E hj ⟨e,_,_⟩ hQ; exact absurd hj (by lia))
 done:=(by rintro s Q E ⟨_,hit,hl⟩ hE; exact wpAny_nextOf_list_end hh hit hl hx hE)
theorem Ht{P:bE}{w:World}{K:ah}{elts:List Expr}{kk:Nat}{pos:Pos}(n:Nat)(a e it:Addr)(j8:e≠it) :
  Turn P w K (.Tuple elts kk pos) (acM K a n) [e,it] e (fun i h=>(∃ old,IsEnum h e it ((n+i:Nat):Int) old)/\h.IsListIter it a i) where
 mem:=by simp
 obj:=fun i h Rk b hb=>by
  obtain⟨⟨old,he⟩,hit⟩:=Rk;rcases List.mem_cons.mp hb with rfl | hb
  ·exact⟨_,he,fun v z=>by cases z⟩
  ·have e:b=it:=by simpa using hb
   subst e;obtain⟨o,e,c,d⟩:=hit;exact⟨o,e,fun v z=>by rw [d] at z; cases z⟩
 keep:=(by rintro i h h' ⟨⟨old,he⟩,hit⟩ k; exact⟨⟨old,k e (by simp) _ he⟩,hit.at fun o q=>k it (by simp) o q⟩)
 item:=by
  intro X hP hw hK hc i pins s σ H E I hf st hg;obtain⟨⟨old,he⟩,hit⟩:=st;subst hP hw hK;obtain⟨xs,x,hq,hx⟩:=hg;obtain⟨bw,rv,p,hz⟩:=I.list hq;obtain⟨u,hu,ru⟩:=rv.get hx;have YJ:H s.heap.objs.size=none:=I.cz.fresh (aC _);have heT:e≠s.heap.objs.size:=bB (aL he);have hiT:it≠s.heap.objs.size:=by obtain⟨o,q,_⟩:=hit; exact bB (aL q)
  obtain⟨ol,VN,C8,hdl⟩:=p.isList;have ab4:=hit;obtain⟨oi,T5,ZM,ZL⟩:=ab4;have hil:a≠it:=fun z=>by
   rw [z,T5] at VN; cases VN; rw [ZM] at C8; exact absurd C8 (by decide)
  have hea:e∉[it,a]:=fun z=>by
   rcases List.mem_cons.mp z with z | z
   ·exact j8 z
   ·have z:=List.mem_singleton.mp z;rw [<-z,he] at VN; cases VN; exact absurd (show vB "enumerate" = vB "list" from C8) (by decide)
  have oj:n+i < n+bw.toArray.size:=by
   have:=(List.getElem?_eq_some_iff.mp hu).1;simpa using this
  refine wpAny_pyNext_enum_itemD (Qr (items:=bw.toArray) n (show X.A.in1.handled=none from I.ok.hd hc) hil) he ⟨i,rfl,hit,p.isList⟩ oj j8 hea fun u' h' tk ⟨i',ei,uP⟩ ho ⟨i2,e2,VR,_⟩ hT hsz kk=>?_;have ei':i'=i:=by lia
  have ei2:i2=i+1:=by lia
  subst ei' ei2;have:u'=u:=by
   rw [vI,hu] at uP;exact(bu uP).symm
  subst this;refine⟨_,rfl,?_⟩;have I1:Inv X pins σ (upd H s.heap.objs.size (.tup [.int ((n+i':Nat):Int),x])) { s with heap:=h',toks:=tk+1 } :=
   I.Cp (fp:=[e,it]) hf (fun b o hb q=>kk b o (fun z=>hb (by simp [z])) (fun z=>hb (by simp [z])) q) (aC _)
    ⟨by show 2<=bo; decide,[.int ((n+i':Nat):Int) tk,u'],.cons ⟨_,rfl⟩ (.cons ru .nil),⟨_,hT,rfl,_,rfl⟩⟩
  refine wpAny_letOwnedTupleGo_enum (s:={ s with heap:=h',toks:=tk+1 }) ho fun h2 YA zc=>?_;have f1:∀ b∈[e,it],ng X pins (upd H s.heap.objs.size (.tup [.int ((n+i':Nat):Int),x])) b:=fun b hb=>(hf b hb).upd (by
   rcases List.mem_cons.mp hb with rfl | hb
   ·exact heT
   ·rw [List.mem_singleton.mp hb]; exact hiT)
  have I2:Inv X pins σ (upd H s.heap.objs.size (.tup [.int ((n+i':Nat):Int),x])) { s with heap:=h2,toks:=tk+1 } :=
   Inv.tX (s:={ s with heap:=h',toks:=tk+1 }) (t':=tk+1) (fp:=[e,it]) I1 f1 fun b o hb q=>(zc.2 b (fun z=>hb (by simp [z]))).trans q
  refine⟨.ref s.heap.objs.size,_,I2,rfl,⟨_,x,rfl,YJ,rfl,fun ys hy=>by rw [I.uD hy hq]; exact hx⟩,⟨⟨u',?_⟩,?_⟩,fun b hb=>(f1 b hb).1⟩
  ·have:((n+(i'+1):Nat):Int)=((n+i':Nat):Int)+1:=by lia
   rw [this]; exact YA
  ·exact VR.at fun o q=>(zc.2 it (cW j8)).trans q
 done:=by
  intro X hP hw hK hc i pins s σ H E I hf st hg;obtain⟨⟨old,he⟩,hit⟩:=st;subst hP hw hK;obtain⟨xs,hq,hx⟩:=hg;obtain⟨bw,rv,p,hz⟩:=I.list hq;have hl:=rv.length;refine wpAny_pyNext_enum_endD (MO (items:=bw.toArray) (n:=i) (show X.A.in1.handled=none from I.ok.hd hc) (by simp; lia)) he ⟨rfl,hit,p.isList⟩ fun h' eb=>⟨rfl,?_⟩;exact I.tX (t':=s.toks) (fp:=[e,it]) hf fun b o hb q=>eb b o (fun z=>hb (by simp [z])) q
 self:=(by rintro A i s Q E ⟨⟨old,he⟩,_⟩ h; exact GU he h)
end L2
end
section
namespace L2
open PySem PySem.Spec PyProof.Rows
open AutoSeq1 (wpAny_loadPart')
theorem EV(l:Addr)(items:Array Value)(n:Nat)(dct:Option Addr)(sl:Array (Option Value))(t:Tok) :
  Meets (Builtin.«enumerate.__new__» ⟨[.type "enumerate",.ref l],[("start",.int 1 t)]⟩) (fun _ R s=>s.heap.get? l=some { cls:=.type "list",dict:=dct,data:=.seq items n,slots:=sl } /\
   R (.ok (.ret (.ref (s.heap.push { cls:=.type "list_iterator",data:=.fields #[.ref l,.int 0 0] }).objs.size)))
    { s with heap:=(s.heap.push { cls:=.type "list_iterator",data:=.fields #[.ref l,.int 0 0] }).push { cls:=.type "enumerate",data:=.fields #[.none,.bool false,.ref s.heap.objs.size,ma 1,.none,.none] } }) :=
 .of_wp fun prog w A R s h=>by
  obtain⟨hp,g,d,tk,os⟩:=s; obtain⟨hl,h⟩:=h;have Fp:=sub_enumerate;have hL:Heap.IsList (Shared.heap ⟨hp,g,d,tk,os⟩) l items:=⟨_,hl,rfl,n,rfl⟩
  wp_walk using bI hl
  refine wpAny_stack_any fun st=>aj ?_;split
  ·rename_i c _ _ _ _ _;cases (c == vB "enumerate")
   ·wp_walk using bI hl,jY hL
    exact⟨_,rfl,h⟩
   ·wp_walk using bI hl,jY hL
    exact⟨_,rfl,h⟩
  ·wp_walk using bI hl,jY hL
   exact⟨_,rfl,h⟩
theorem yf (a:Value) (k:Int) (t:Tok):checkTypeCall "enumerate" ⟨[a],[("start",.int k t)]⟩=pure ():=by kernel_rfl
theorem As (a:Value) (k:Int) (t:Tok):checkBuiltinCall "enumerate.__new__" ⟨[.type "enumerate",a],[("start",.int k t)]⟩=pure ():=by kernel_rfl
theorem Ir (o a:Value) (k:Int) (t:Tok):argsOk "object.__init__" ⟨[o,a],[("start",.int k t)]⟩:=by unfold argsOk; rw [signature?_of (id:="object.__init__") (n:=['_','_','t','i','n','i','_','_']) (o:=['t','c','e','j','b','o']) (by kernel_rfl) F.owner_object]; kernel_rfl
theorem Fm (self a:Value) (k:Int) (t:Tok):Meets (Builtin.«object.__init__» ⟨[self,a],[("start",.int k t)]⟩) (fun _ R s=>s.TypeIs self "enumerate"/\R (.ok (.ret .none)) s):=by
 refine Meets.of_wp fun prog w A R s hs=>?_;obtain⟨hT,hq⟩:=hs;have hl:=F.called_enumerate.init.lookup;have hm:=F.called_enumerate.made;have j8:(some "enumerate.__new__" != some "object.__new__")=true:=by decide
 repeat (any_goals (first | assumption | wp_step))
 exact⟨_,rfl,hq⟩
section
variable {prog:bE} {w:World} {A:c8} {E:Value->ar->Prop} {s:ar}
set_option maxRecDepth 100000 in
theorem Jj{l:Addr}{items:Array Value}{t:Tok}{Q:Value->ar->Prop}(hL:s.heap.IsList l items)
  (h:∀ h',IsEnum h' (s.heap.objs.size+1) s.heap.objs.size 1 .none->h'.IsListIter s.heap.objs.size l 0 ->
   (∀ b o,s.heap.get? b=some o->h'.get? b=some o)->Q (.ref (s.heap.objs.size+1)) { s with heap:=h' }) :
  wpAny (model prog w) A (call (.type "enumerate") [.ref l] [("start",.int 1 t)]) Q E s:=by
 obtain⟨⟨c,dct,dt,sl⟩,hl,hc,n,hd⟩:=hL;replace hc:c=.type "list":=hc;replace hd:dt=.seq items n:=hd;subst hc hd;obtain⟨c,tl,abZ⟩:=F.called_enumerate.mro;have Yq:=F.called_enumerate.made;have Fp:=F.called_enumerate.sub;refine wpAny_call (NP (show wpAny _ _ (callAny (.type "enumerate") _) _ _ _ from ?_));refine aj ⟨Code.quiet_builtin _ (by decide +kernel),fE F.entry_type_call ?_⟩;rw [RK (weight_type_call_type "enumerate" [.ref l] [("start",.int 1 t)]) (units_type_call_type "enumerate" [.ref l] [("start",.int 1 t)])];have h1:=F.called_enumerate.notType;have h2:=F.called_enumerate.canCreate;have hct:=yf (.ref l) 1 t;have hcn:=As (.ref l) 1 t
 repeat (any_goals (first | assumption | wp_step))
 have hz:(s.heap.push { cls:=.type "list_iterator",data:=.fields #[.ref l,.int 0 0] }).objs.size=s.heap.objs.size+1:=iE ..;refine ot (Ah F.called_enumerate.plain F.entry_enumerate_new (qc hcn (EV l items n dct sl t prog w A.in1 (wants (fun obj eR=>eR.TypeIs obj "enumerate"/\Q obj eR) E) s ⟨hl,?_⟩))) fun r eR hr=>?_
 ·show _/\_;rw [hz]
  have he:IsEnum ((s.heap.push { cls:=.type "list_iterator",data:=.fields #[.ref l,.int 0 0] }).push
    { cls:=.type "enumerate",data:=.fields #[.none,.bool false,.ref s.heap.objs.size,ma 1,.none,.none] }) (s.heap.objs.size+1) s.heap.objs.size 1 .none:=by
   have:=aT (s.heap.push { cls:=.type "list_iterator",data:=.fields #[.ref l,.int 0 0] })
    (o:={ cls:=.type "enumerate",data:=.fields #[.none,.bool false,.ref s.heap.objs.size,ma 1,.none,.none] }) rfl
   rw [hz] at this; exact this
  exact⟨⟨_,he,rfl⟩,h _ he ⟨_,aE _ (aT _ rfl),rfl,rfl⟩ fun b o x=>aE _ (aE _ x)⟩
 ·cases r with
  | error e=>exact hr
  | ok fl =>
   cases fl with
   | ret obj =>
    obtain⟨hT,hq⟩:=hr;have hli:=F.called_enumerate.init.lookup;have hbi:=F.called_enumerate.init.bind obj
    repeat (any_goals (first | assumption | wp_step))
    refine ot (Ah F.called_enumerate.init.plain F.entry_object_init (F.called_enumerate.init.check _ _ _ _ _ _ _ _ hT (Ir obj (.ref l) 1 t) (Fm obj (.ref l) 1 t prog w A.in1 (wants (fun r iX=>r=.none/\Q obj iX) E) eR ⟨hT,rfl,hq⟩))) fun UQ iX zf=>?_;cases UQ with
    | error e=>exact zf
    | ok Qb =>
     cases Qb with
     | ret r =>
      obtain⟨rfl,hq⟩:=zf
      repeat (any_goals (first | assumption | wp_step))
     | _=>exact zf.elim
   | _=>exact hr.elim
end
end L2
end
section
namespace K2
open PySem PySem.Spec PyProof.Rows L2
section
theorem wB{M:Model}{A:c8}{E:Value->ar->Prop}{s:ar}{pos:Pos}{T:String}{args:List (Bool×Sem Value)}{keywords:List (Option Str×Sem Value)}{Q:Value->ar->Prop}
  (IB:args.any (·.1)=false) (hkw:keywords.any (·.1.isNone)=false)
  (h:wpAny M A (evalArgs (.type T) true args keywords) (fun a eR=>wpAny M A (call (.type T) a.pos a.kw) Q E eR) E s) :
  wpAny M A (callWith pos (.type T) [] args keywords) Q E s:=by
 unfold callWith;refine ae (cX (jc h (fun a eR pY=>ae (D7 ?_)) fun _ _ x=>x));rw [IB,hkw];refine ae (aj ?_);exact ae (jc pY (fun r iX hr=>ae (cX (wpAny_point (aj hr)))) fun _ _ x=>x)
variable {X:Cx} {elts:List Expr} {kk:Nat} {yk:Pos} {a:Expr} {ta:fC} {pos p kp p1:Pos} {c1:Nat}
theorem KZ{pins:List (Addr×Obj)}{σ:L2.St}{H H1:Hp}{G G1:Gp}{s1:ar}{l:Addr}{ds:List D}{ok:Gp->Prop}{R:List D->(Gp->Prop)->Gp->Prop}(I1:Inv X pins σ H1 s1)(m:Mv X.K H G H1 G1){n:Nat}{h':Heap}(hk:∀ H2 G2,Kp H1 H2->lC X.K H2 G2->ok G2->∃ ws,oK X.K H2 l ws/\bh X.K H2 ws ds)(q:R (iw n ds) ok G1)(he:IsEnum h' (s1.heap.objs.size+1) s1.heap.objs.size (n:Int) .none)(hit:h'.IsListIter s1.heap.objs.size l 0)(kp:∀ b o,s1.heap.get? b=some o->h'.get? b=some o) :
  DN X pins σ (.Tuple elts kk yk) H G R (.ref (s1.heap.objs.size+1)) { s1 with heap:=h' }:=by
 refine⟨_,[s1.heap.objs.size+1,s1.heap.objs.size],_,_,H1,G1,iw n ds,ok,rfl,I1.kept (t':=s1.toks) kp,m,Ht n l _ _ (Nat.succ_ne_self _),⟨⟨_,he⟩,hit⟩,fun b hb=>?_,fun i H2 G2 k ab o=>?_,q⟩
 ·have uS:s1.heap.objs.size<=b:=by
   rcases List.mem_cons.mp hb with rfl | hb
   ·lia
   ·rw [List.mem_singleton.mp hb]; exact aC _
  exact I1.Fy uS (I1.cz.fresh uS)
 ·obtain⟨ws,hw,rd⟩:=hk H2 G2 k ab o;refine⟨fun d hd=>?_,fun hl=>⟨ws,hw,by rw [rd.length,<-BQ ds n]; exact hl⟩⟩;rw [BS] at hd;cases ZL:ds[i]? with
  | none=>rw [ZL] at hd; cases hd
  | some d' =>
   rw [ZL] at hd;obtain⟨v,hv,r⟩:=rd.get ZL;refine⟨⟨ws,v,hw,hv⟩,?_⟩;rintro x H3 ⟨T,y,ex,hT,e3,hy⟩;subst ex e3;have:=hy ws hw;rw [hv] at this;cases this;have ed:D.tup [.int ((n+i:Nat):Int),d']=d:=by simpa using hd
   subst ed;exact⟨.tup cJ (.cons (.int _) (.cons (r.mono (.new hT)) .nil)),.Nt ab hT⟩
theorem KY{pins:List (Addr×Obj)}{σ:L2.St}{H H1:Hp}{G G1:Gp}{s1:ar}{l:Addr}{vs:List V}{ds:List D}{ok:Gp->Prop}{R:List D->(Gp->Prop)->Gp->Prop}(I1:Inv X pins σ H1 s1)(m:Mv X.K H G H1 G1)(hq:oK X.K H1 l vs)
  (hk:∀ H2 G2,Kp H1 H2->lC X.K H2 G2->ok G2->∃ ws,oK X.K H2 l ws/\bh X.K H2 ws ds) (q:R (iw 0 ds) ok G1) :
  wpAny (model X.prog X.w) X.A (call (.type "enumerate") [.ref l]) (fun v s2=>wpAny (model X.prog X.w) X.A (wH v) (DN X pins σ (.Tuple elts kk yk) H G R) X.xe s2) X.xe s1:=by
 obtain⟨bw,rv,pl,hz⟩:=I1.list hq;exact call_enumerate_list pl.isList fun h' he hit hsz kp=>GU he (KZ I1 m hk q he hit kp)
theorem FN{pins:List (Addr×Obj)}{σ:L2.St}{H H1:Hp}{G G1:Gp}{s1:ar}{l:Addr}{vs:List V}{ds:List D}{ok:Gp->Prop}{R:List D->(Gp->Prop)->Gp->Prop}(I1:Inv X pins σ H1 s1)(m:Mv X.K H G H1 G1){t:Tok}(hq:oK X.K H1 l vs)
  (hk:∀ H2 G2,Kp H1 H2->lC X.K H2 G2->ok G2->∃ ws,oK X.K H2 l ws/\bh X.K H2 ws ds) (q:R (iw 1 ds) ok G1) :
  wpAny (model X.prog X.w) X.A (call (.type "enumerate") [.ref l] [("start",.int 1 t)]) (fun v s2=>wpAny (model X.prog X.w) X.A (wH v) (DN X pins σ (.Tuple elts kk yk) H G R) X.xe s2) X.xe s1:=by
 obtain⟨bw,rv,pl,hz⟩:=I1.list hq;exact Jj pl.isList fun h' he hit kp=>GU he (KZ I1 m hk q he hit kp)
theorem EK (hg:Gl X "enumerate") (hm:X.mg "enumerate" = none) (ha:gf X a ta) (hs:bL [a] X.env=[(false,eval a X.env)]:=by rfl):M0 X (.Tuple elts kk yk) (.Call (.Name "enumerate" p) [a] [] pos) (Fo ta):=by
 intro E pins s σ H τ G R hE I h;have hA:Gv X [a] (aI ta bx):=ax ha aO hs;refine Call_ (lq I.inv hg hm vo (du (ym hA pos hE I (R:=XD fun x G1=>uN x G1 R) h fun vs H1 ds G1 us s1 I1 m1 r1 iT q1=>?_) hs rfl))
 match ds,q1 with
 | [x],q1 =>
  change uN x G1 R at q1;obtain⟨w,rfl,CC⟩:=iT.one;obtain⟨u,rfl,ru⟩:=r1.one;cases CC with
  | dJ hq rs=>cases ru; exact KY I1.inv m1 hq.sq (fun H2 G2 k ab _=>⟨_,(k.TF hq).sq,rs.mono k⟩) q1
  | ref p =>
   cases ru;unfold uN at q1;dsimp only at q1;split at q1
   ·rename_i ds e;obtain⟨vs,hv,rs⟩:=I1.ab.lst e;refine KY I1.inv m1 (.of hv) (fun H2 G2 k ab o=>?_) q1;obtain⟨ws,hw,rY⟩:=ab.lst o;exact⟨ws,.of hw,rY⟩
   ·exact q1.elim
  | tup _ _=>exact q1.elim
  | nV _ _=>exact q1.elim
  | nU _ _=>exact q1.elim
  | cL=>exact q1.elim
  | bl _=>exact q1.elim
  | int _=>exact q1.elim
  | str _=>exact q1.elim
  | exc _=>exact q1.elim
 | [],q1=>exact q1.elim
 | _ :: _ :: _,q1=>exact q1.elim
theorem L3 (hg:Gl X "enumerate") (hm:X.mg "enumerate" = none) (ha:gf X a ta) (hs:bL [a] X.env=[(false,eval a X.env)]:=by rfl) :
  M0 X (.Tuple elts kk yk) (.Call (.Name "enumerate" p) [a] [⟨some "start",.Constant (.int 1) c1 p1,kp⟩] pos) (Iy ta 1):=by
 intro E pins s σ H τ G R hE I h;have hA:Gv X [a] (aI ta bx):=ax ha aO hs;refine fK (lq I.inv hg hm vo (wB ?_ rfl ?_))
 ·rw [hs]; rfl
 rw [show jr pos (bL [a] X.env)=(false,eval a X.env) :: [] from by rw [hs]; rfl];refine evalArgs_kwB rfl ?_;rw [show ((false,eval a X.env) :: []:List (Bool×Sem Value))=jr pos (bL [a] X.env) from by rw [hs]; rfl];refine ym hA pos hE I (R:=XD fun x G1=>qP x 1 G1 R) h fun vs H1 ds G1 us s1 I1 m1 r1 iT q1=>?_;refine kws_cons (wpAny_Constant_int (kws_nil ?_));have Zk:I2 X pins σ H1 τ G1 { s1 with toks:=s1.toks+1 }:=I1.mv (I1.inv.tok _) (.refl I1.ab)
 match ds,q1 with
 | [x],q1 =>
  change qP x 1 G1 R at q1;obtain⟨w,rfl,CC⟩:=iT.one;obtain⟨u,rfl,ru⟩:=r1.one;show wpAny (model X.prog X.w) X.A (call (.type "enumerate") [u] [("start",.int 1 s1.toks)]) _ _ _;cases CC with
  | dJ hq rs=>cases ru; exact FN Zk.inv m1 hq.sq (fun H2 G2 k ab _=>⟨_,(k.TF hq).sq,rs.mono k⟩) q1
  | ref p =>
   cases ru;unfold qP at q1;dsimp only at q1;split at q1
   ·rename_i ds e;obtain⟨vs,hv,rs⟩:=I1.ab.lst e;refine FN Zk.inv m1 (.of hv) (fun H2 G2 k ab o=>?_) q1;obtain⟨ws,hw,rY⟩:=ab.lst o;exact⟨ws,.of hw,rY⟩
   ·exact q1.elim
  | tup _ _=>exact q1.elim
  | nV _ _=>exact q1.elim
  | nU _ _=>exact q1.elim
  | cL=>exact q1.elim
  | bl _=>exact q1.elim
  | int _=>exact q1.elim
  | str _=>exact q1.elim
  | exc _=>exact q1.elim
 | [],q1=>exact q1.elim
 | _ :: _ :: _,q1=>exact q1.elim
end
end K2
end
section
namespace K2
open PySem PySem.Spec PyProof.Rows L2
theorem wh{α:Type}{us:List α}(h:us.length=1):∃ a,us=[a]:=List.length_eq_one_iff.mp h
theorem Vy{α:Type}{us:List α}{n:Nat}(h:us.length=n+1):∃ a t,us=a :: t/\t.length=n:=by
 cases us with
 | nil=>cases h
 | cons a t=>exact⟨a,t,rfl,Nat.succ.inj h⟩
theorem uH{α:Type}{us:List α}(h:us.length=2):∃ a b,us=[a,b]:=by
 obtain⟨a,t,rfl,h2⟩:=Vy h; obtain⟨b,rfl⟩:=wh h2; exact⟨a,b,rfl⟩
theorem Pk{α:Type}{us:List α}(h:us.length=3):∃ a b c,us=[a,b,c]:=by
 obtain⟨a,t,rfl,h2⟩:=Vy h; obtain⟨b,c,rfl⟩:=uH h2; exact⟨a,b,c,rfl⟩
theorem X1{α:Type}{us:List α}(h:us.length=4):∃ a b c d,us=[a,b,c,d]:=by
 obtain⟨a,t,rfl,h2⟩:=Vy h; obtain⟨b,c,d,rfl⟩:=Pk h2; exact⟨a,b,c,d,rfl⟩
theorem DH:dR "abs" = some (.builtin "abs"):=by decide +kernel
section
variable {X:Cx} {a b tg:Expr} {ta tb:fC} {p pos:Pos}
theorem HQ (hg:Gl X "range") (hm:X.mg "range" = none) (ha:gf X a ta) (hb:gf X b tb) (hs:bL [a,b] X.env=(false,eval a X.env) :: bL [b] X.env:=by rfl) (zc:bL [b] X.env=[(false,eval b X.env)]:=by rfl) (BH:(jr pos (bL [b] X.env)).any (·.1)=false:=by rfl):M0 X tg (.Call (.Name "range" p) [a,b] [] pos) (KJ ta tb):=by
 intro E pins s σ H τ G R hE I h;have hA:Gv X [a,b] (aI ta (aI tb bx)):=ax ha (ax hb aO zc) hs;refine Call_ (lq I.inv hg hm boot_range (du (ym hA pos hE I (R:=fun ds G1=>match ds with | [.int i,.int j]=>(-(2 ^ 62)<=i/\i < 2 ^ 62/\-(2 ^ 62)<=j/\j < 2 ^ 62)/\R (dQ i (j - i).toNat) (fun _=>True) G1 | _=>False) ?_ fun vs H1 ds G1 us s1 I1 m1 r1 iT q1=>?_) hs BH))
 ·show ta E τ G fun x G1=>tb E τ G1 fun y G2=>_;have e:(fun (x:D) (G1:Gp)=>tb E τ G1 fun y G2=>match [x,y] with | [.int i,.int j]=>(-(2 ^ 62)<=i/\i < 2 ^ 62/\-(2 ^ 62)<=j/\j < 2 ^ 62)/\R (dQ i (j - i).toNat) (fun _=>True) G2 | _=>False)=fun x G1=>tb E τ G1 fun y G2=>match x,y with | .int i,.int j=>(-(2 ^ 62)<=i/\i < 2 ^ 62/\-(2 ^ 62)<=j/\j < 2 ^ 62)/\R (dQ i (j - i).toNat) (fun _=>True) G2 | _,_=>False:=by
   funext x G1;congr 1;funext y G2;cases x <;> cases y <;> rfl
  exact e ▸ h
 ·split at q1
  ·rename_i i j;obtain⟨w1,w2,rfl,CC,rw2⟩:=iT.two;cases CC; cases rw2;obtain⟨u1,u2,rfl,Xl,Xk⟩:=r1.two;obtain⟨t1,rfl⟩:=Xl;obtain⟨t2,rfl⟩:=Xk;obtain⟨⟨q1,q2,q3,q4⟩,q⟩:=q1;exact call_range_2 (OE I1.inv m1 q1 q2 q3 q4 q)
  ·exact q1.elim
end
end K2
end
section
namespace K2.S
open PySem PySem.Spec PyProof.Rows L2 PySem.SetTable
section
variable {prog:bE} {w:World} {A:c8} {E:Value->ar->Prop} {s:ar}
noncomputable abbrev TK(prog:bE)(w:World):HeapKind prog w (List Key):=dv (bX prog w)
theorem KH{h h':Heap}{k:List Key}{b:Addr}(x:(TK prog w).is h k b)(e:∀ o,h.get? b=some o->h'.get? b=some o):(TK prog w).is h' k b:=by
 obtain⟨o,items,n,ho,r⟩:=x;exact⟨o,items,n,e o ho,r⟩
theorem Ip{h:Heap}{k k':List Key}{b:Addr}(x:(TK prog w).is h k b)(y:(TK prog w).is h k' b):k=k':=(TK prog w).inj x y
noncomputable def Q3(B:Addr->Prop)(prog:bE)(w:World)(h:Heap)(es:En)(ks:List (List Key)):Prop :=
 ks.length=es.size/\∀ (i:Nat) (e:Int×Value),es[i]?=some e->∃ (k:List Key) (b:Addr),ks[i]?=some k/\e.2=.ref b/\(TK prog w).is h k b/\e.1=(TK prog w).hash k/\B b
theorem qm{a:Addr}{o:Obj}{es:En}{ep:Nat}{t:gJ}{Q:(En×Nat×gJ)->ar->Prop}(ho:s.heap.get? a=some o)(hd:o.data=.set es ep t)(O:Tw t es)(h:Q (es,ep,t) s) :
  wpAny (model prog w) A (setState a) Q E s :=
 nQ ho hd (by unfold SetTable.fits GB; rw [O.sz,O.dm]; have:=O.nH; have:=O.sz; simp; lia) h
theorem Gf(n:Nat){v:Value}(h:AY v=true):tQ n v=pure false:=by
 cases v <;> first | (unfold tQ; rfl) | (exact bH (show false=true from h))
theorem N7{k:List Key}{b:Addr}(hx:(TK prog w).is s.heap k b){Q:Bool->ar->Prop}(h:Q false s):wpAny (model prog w) A (tQ 8 (.ref b)) Q E s:=by
 have hT:s.TypeIs (.ref b) "tuple":=wJ hx;obtain⟨o,items,n,ho,_,hd,hi⟩:=hx;unfold tQ;refine ae (Ju hT ?_);dsimp only;rw [if_pos (beq_self_eq_true _)];refine ae (aj ?_);rw [if_neg (by intro z; cases z)];refine ae (sH ho hd ?_);dsimp only;refine ae ?_;show wpAny _ _ (forIn items _ _) _ _ s;rw [<-yc];refine iW _ (fun rest r s'=>r.1=none/\s'=s/\∀ v∈rest,AY v=true) _ ?_ ?_ _ _ ⟨rfl,rfl,hi.byValue⟩
 ·rintro v rest r s' ⟨hr,rfl,sW⟩;rw [Gf _ (sW v aB)];refine ae (aj ?_);rw [if_neg (by intro z; cases z)];exact aj ⟨rfl,rfl,fun u uP=>sW u (ao _ uP)⟩
 ·rintro⟨r1,r2⟩ s' ⟨hr,rfl,_⟩;simp only at hr;subst hr;exact aj h
theorem Ly{x:Value}{k:List Key}{b:Addr}(ex:x=.ref b)(hx:(TK prog w).is s.heap k b){l:List Value}(hl:∀ y∈l,∃ k' b',y=.ref b'/\(TK prog w).is s.heap k' b'){Q:Bool->ar->Prop}(h:Q false s) :
  wpAny (model prog w) A (GW x l) Q E s:=by
 subst ex;unfold GW;refine ae ?_;refine iW _ (fun rest r s'=>r.1=none/\s'=s/\∀ y∈rest,∃ k' b',y=.ref b'/\(TK prog w).is s.heap k' b') _ ?_ ?_ _ _ ⟨rfl,rfl,hl⟩
 ·rintro v rest r s' ⟨hr,rfl,sW⟩;obtain⟨k',b',rfl,hv⟩:=sW v aB;have go:∀ y∈rest,∃ k' b',y=.ref b'/\(TK prog w).is s'.heap k' b':=fun u uP=>sW u (ao _ uP);dsimp only;by_cases c:(b == b'||AY (.ref b)&&AY (.ref b'))=true
  ·rw [if_pos c]; exact aj ⟨rfl,rfl,go⟩
  ·rw [if_neg c];refine ae (wpAny_eqIsQuiet_tuple hx ?_);rw [if_neg (by intro z; cases z)];refine ae (wpAny_eqIsQuiet_tuple hv ?_);rw [if_neg (by intro z; cases z)];refine ae (N7 hx ?_);rw [if_neg (by intro z; cases z)];refine ae (N7 hv ?_);rw [if_neg (by intro z; cases z)];exact aj ⟨rfl,rfl,go⟩
 ·rintro⟨r1,r2⟩ s' ⟨hr,rfl,_⟩;simp only at hr;subst hr;exact aj h
theorem A4{a:Addr}{o:Obj}{es:En}{ep:Nat}{t:gJ}{ks:List (List Key)}{k:List Key}{b:Addr}(hu:(TK prog w).room A)(ho:s.heap.get? a=some o)(hd:o.data=.set es ep t)(O:Tw t es){B:Addr->Prop}(M:Q3 B prog w s.heap es ks)(hx:(TK prog w).is s.heap k b)
  {N:Nat} (h1:¬ Full t.place (dW t.mask N (probeStart t ((TK prog w).hash k))).j) (h2:∀ n,n < N->Full t.place (dW t.mask n (probeStart t ((TK prog w).hash k))).j) {Q:SetFound->ar->Prop}
  (yes:k∈ks->Q (.there none) s) (no:k∉ks->Q (.free (dW t.mask N (probeStart t ((TK prog w).hash k))).j false) s) :
  ∀ (fuel n:Nat) (st:Option Probe),N - n < fuel->n<=N->st.getD (probeStart t ((TK prog w).hash k))=dW t.mask n (probeStart t ((TK prog w).hash k)) ->
   (∀ n',n' < n->∀ i,i < t.place.size->t.place.getD i 0=(dW t.mask n' (probeStart t ((TK prog w).hash k))).j->ks[i]?≠some k) ->
   wpAny (model prog w) A (setSearchFrom a (.ref b) ((TK prog w).hash k) true fuel st) Q E s
 | 0,n,st,hf,_,_,_=>absurd hf (bV _)
 | fuel+1,n,st,hf,hn,IA,past=>by
  generalize hh:(TK prog w).hash k=h at *;show wpAny _ _ (setState a >>= _) _ _ s;refine ae (qm ho hd O ?_);dsimp only;have gw:t.gaveWay=false:=by
   unfold SetTable.gaveWay;rcases O.ms with e | e | e <;> rw [e] <;> rfl
  rw [gw,if_neg (by intro z; cases z),IA];have pb:Pb t.mask (dW t.mask n (probeStart t h)):=Pb.dW n (Pb.start t h);obtain⟨N',hN',hf',_⟩:=zx O _ pb;obtain⟨n1,met,g,ba,fin⟩:=EJ O.up O.dm (S.hk es) h (10 * turns t.mask) _ pb ⟨N',hN',hf'⟩;rw [show dW t.mask n1 (dW t.mask n (probeStart t h))=dW t.mask (n+n1) (probeStart t h) from(iY _ _ _ _).symm,show dW t.mask (n1+1) (dW t.mask n (probeStart t h))=dW t.mask (n+n1+1) (probeStart t h) from(iY _ n (n1+1) _).symm] at fin;generalize hP:t.probe _ h (dW t.mask n (probeStart t h))=P;have eP:P=some met:=hP.symm.trans g;subst eP;dsimp only;have le:n+n1<=N:=by
   apply cg;intro z;obtain⟨i,hi,e,_⟩:=ba (N - n) (by lia);rw [<-iY,show n+(N - n)=N by lia] at e;exact h1 ⟨i,hi,e⟩
  have SW:∀ i,i < t.place.size->ks[i]?=some k->S.hk es i=h:=by
   intro i hi e;have xn:i < es.size:=by rw [<-O.sz]; exact hi
   obtain⟨k',b',q1,_,_,q4⟩:=M.2 i _ (a8 xn);rw [e] at q1; cases q1;unfold S.hk;rw [a8 xn,<-hh]; exact q4.1
  have TR:∀ n',n' < n+n1->∀ i,i < t.place.size->t.place.getD i 0=(dW t.mask n' (probeStart t h)).j->ks[i]?≠some k:=by
   intro n' Mp i hi e ek;by_cases c:n' < n
   ·exact past n' c i hi e ek
   ·obtain⟨i',xn,e',ne⟩:=ba (n' - n) (by lia);rw [<-iY,show n+(n' - n)=n' by lia] at e';have:=O.up.inj hi xn (e.trans e'.symm);subst this;exact ne (SW i hi ek)
  rcases fin with ⟨nf,rfl⟩ | ⟨i,hi,pi,adG,rfl⟩
  ·have eN:n+n1=N:=by
    by_cases c:n+n1 < N
    ·exact absurd (h2 _ c) nf
    ·lia
   rw [eN];dsimp only;refine aj (no fun hk=>?_);obtain⟨i,hi,e⟩:=e8 hk;have ek:ks[i]?=some k:=by rw [ai hi,e]
   have xn:i < t.place.size:=by rw [O.sz,<-M.1]; exact hi
   obtain⟨n0,w1,w2⟩:=O.way i xn;rw [SW i xn ek] at w1 w2;have lt:n0 < N:=by
    apply cg;intro z;by_cases c:n0=N
    ·subst c; exact h1 ⟨i,xn,w1.symm⟩
    ·exact h1 (w2 N (by lia))
   exact TR n0 (by lia) i xn w1.symm ek
  ·have xn:i < es.size:=by rw [<-O.sz]; exact hi
   obtain⟨k',b',q1,q2,q3,q4⟩:=M.2 i _ (a8 xn);have nN:n+n1≠N:=fun z=>h1 ⟨i,hi,by rw [<-z]; exact pi⟩;have red:∀ (l:List Value) (m:Sem SetFound),(∀ y∈l,∃ k' b',y=.ref b'/\(TK prog w).is s.heap k' b')->wpAny (model prog w) A m Q E s ->
     wpAny (model prog w) A (if (!t.led)=true then (GW (.ref b) l >>= fun r=>if r=true then ((NJ "set:the-search-would-show-the-table" : Sem PUnit) >>= fun _=>m) else m) else m) Q E s:=by
    intro l m hl hm;cases t.led with
    | true=>rw [if_neg (by intro z; cases z)]; exact hm
    | false =>
     rw [if_pos (show (!false)=true from rfl)];refine ae (Ly rfl hx hl ?_);rw [if_neg (by intro z; cases z)]; exact hm
   refine red _ _ (fun y hy=>?_) ?_
   ·obtain⟨e,he,rfl⟩:=List.mem_map.mp hy;rw [RJ] at he;have he:=(List.mem_filter.mp he).1;obtain⟨m,hm,em⟩:=e8 he;obtain⟨k2,b2,_,z2,z3,_⟩:=M.2 m e (by rw [<-cq,ai hm,em]);exact⟨k2,b2,z2,z3⟩
   ·rw [a8 xn];generalize he0:es[i]=e0 at q2 q4 ⊢;obtain⟨h0,y⟩:=e0;have q2:y=.ref b':=q2;subst q2;dsimp only;refine ae (cX ((TK prog w).eqBool hu q3 hx ?_));refine ae (qm ho hd O ?_);dsimp only;by_cases c:k'=k
    ·rw [decide_eq_true c,if_pos (show (true&&true)=true from rfl)];subst c;exact aj (yes (eV q1))
    ·rw [decide_eq_false c,if_neg (by intro z; cases z)];have sm:t.sameMemory t.moves t.mask=some true:=by unfold SetTable.sameMemory; rw [if_pos (beq_self_eq_true _)]
     rw [sm];dsimp only;rw [if_pos (show true=true from rfl),show t.slot (dW t.mask (n+n1) (probeStart t h)).j=.live i from pi ▸ Be O.up hi];dsimp only;rw [a8 xn,he0];dsimp only;refine ae ?_;unfold isSame;dsimp only;rw [if_pos (beq_self_eq_true b')];refine aj (ae (aj ?_));rw [if_pos (show true=true from rfl)];dsimp only;rw [if_neg (by intro z; cases z)];have Xo:=A4 hu ho hd O M hx (N:=N) (Q:=Q) (by rw [hh]; exact h1) (by rw [hh]; exact h2) yes (by rw [hh]; exact no) fuel (n+n1+1) (some (dW t.mask (n+n1+1) (probeStart t h)));rw [hh] at Xo;refine Xo (by lia) (by lia) rfl fun n' Mp i2 Mr e2 ek=>?_;by_cases c2:n' < n+n1
     ·exact TR n' c2 i2 Mr e2 ek
     ·have:n'=n+n1:=by lia
      subst this;have:=O.up.inj Mr hi (e2.trans pi.symm);subst this;rw [q1] at ek; cases ek; exact c rfl
end
end K2.S
end
section
namespace K2.S
open PySem PySem.Spec PyProof.Rows L2 PySem.SetTable
section
variable {B:Addr->Prop} {prog:bE} {w:World} {A:c8} {E:Value->ar->Prop} {s:ar}
theorem Q3.keep{h h':Heap}{es:En}{ks:List (List Key)}(M:Q3 B prog w h es ks)(e:∀ b o,B b->h.get? b=some o->(∃ items n,o.data=.seq items n)->h'.get? b=some o):Q3 B prog w h' es ks:=by
 refine⟨M.1,fun i x hx=>?_⟩;obtain⟨k,b,q1,q2,q3,q4⟩:=M.2 i x hx;refine⟨k,b,q1,q2,?_,q4⟩;obtain⟨o,items,n,ho,hc,hd,r⟩:=q3;exact⟨o,items,n,e b o q4.2 ho ⟨items,n,hd⟩,hc,hd,r⟩
theorem Q3.perm{h:Heap}{es es':En}{ks:List (List Key)}(M:Q3 B prog w h es ks)(p:List.Perm es'.toList es.toList):∃ Nr,Q3 B prog w h es' Nr/\Nr.Perm ks:=by
 classical
 let Kf:Int×Value->List Key:=fun e=>if z:∃ k,∃ b,e.2=.ref b/\(TK prog w).is h k b then Q7 z else []
 have at_:∀ e∈es.toList,∃ b,e.2=.ref b/\(TK prog w).is h (Kf e) b/\e.1=(TK prog w).hash (Kf e)/\B b:=by
  intro e he;obtain⟨i,hi,ei⟩:=e8 he;obtain⟨k,b,q1,q2,q3,q4⟩:=M.2 i e (by rw [<-cq,ai hi,ei]);have z:∃ k,∃ b,e.2=.ref b/\(TK prog w).is h k b:=⟨k,b,q2,q3⟩;have ek:Kf e=Q7 z:=dif_pos z;obtain⟨b2,e2,i2⟩:=Classical.choose_spec z;rw [q2] at e2;cases e2;have:=Ip q3 i2;rw [ek,<-this];exact⟨b,q2,q3,q4⟩
 have eks:ks=es.toList.map Kf:=by
  refine List.ext_getElem? fun i=>?_;rw [aX];by_cases hi:i < es.size
  ·obtain⟨k,b,q1,q2,q3,q4⟩:=M.2 i _ (a8 hi);rw [q1,cq,a8 hi];obtain⟨b2,z1,z2,_⟩:=at_ es[i] (Array.getElem_mem_toList hi);rw [q2] at z1; cases z1;rw [Ip q3 z2]; rfl
  ·rw [eK (by rw [M.1]; lia),cq,fX (by lia)]; rfl
 refine⟨es'.toList.map Kf,⟨by rw [ag,bp],fun i e he=>?_⟩,by rw [eks]; exact p.map _⟩;have hm:e∈es'.toList:=eV (by rw [cq]; exact he);obtain⟨b,z1,z2,z3⟩:=at_ e (p.mem_iff.mp hm);exact⟨Kf e,b,by rw [aX,cq,he]; rfl,z1,z2,z3⟩
theorem Q3.ins{h:Heap}{es:En}{ks:List (List Key)}(M:Q3 B prog w h es ks){k:List Key}{b:Addr}(hx:(TK prog w).is h k b)(hB:B b){p:Nat}(hp:p<=es.size) :
  Q3 B prog w h (insertAt es p ((TK prog w).hash k,.ref b)) (ks.take p++k :: ks.drop p):=by
 have lk:(ks.take p).length=p:=by rw [di,M.1]; lia
 refine⟨by rw [aw,ak,lk,ck,gN _ _ _ hp,M.1]; lia,fun i e he=>?_⟩;rw [uL _ _ _ hp] at he;by_cases c:i < p
 ·rw [if_pos c] at he;obtain⟨k',b',q⟩:=M.2 i e he;exact⟨k',b',by rw [dq (by lia),rh c]; exact q.1,q.2⟩
 ·rw [if_neg c] at he;by_cases d:i=p
  ·rw [if_pos d] at he;cases he;exact⟨k,b,by rw [cA (by lia),lk,d,Ry]; rfl,rfl,hx,rfl,hB⟩
  ·rw [if_neg d] at he;obtain⟨k',b',q⟩:=M.2 (i - 1) e he;exact⟨k',b',by rw [cA (by lia),lk,show i - p=(i - p - 1)+1 by lia,af,List.getElem?_drop,show p+(i - p - 1)=i - 1 by lia]; exact q.1,q.2⟩
noncomputable def Js(k:List Key):Prop:=∀ x∈k,∃ i,x=B8 i
noncomputable def QV(B:Addr->Prop)(prog:bE)(w:World)(h:Heap)(a:Addr)(led:Bool)(ks:List (List Key)):Prop :=
 ∃ o es ep t,h.get? a=some o/\o.ExactSet/\o.data=.set es ep t/\Tw t es/\t.tooFull=false/\t.led=led/\((∀ k∈ks,Js k)->t.plain=true)/\Q3 B prog w h es ks
theorem int_at{k:List Key}{vs:List Value}(hi:ItemsAre (bX prog w) k vs)(c:Js k){v:Value}(hv:v∈vs):∃ t:Int×Tok,v=.int t.1 t.2:=by
 induction hi with
 | nil=>cases hv
 | cons h _ ih =>
  rcases List.mem_cons.mp hv with e | hv
  ·subst e;obtain⟨i,rfl⟩:=c _ aB;rcases eB (k:=.inl i) h with ⟨j,t,e,rfl⟩ | ⟨_,_,e,_⟩
   ·exact⟨(j,t),rfl⟩
   ·cases e
  ·exact ih (fun x hx=>c x (ao _ hx)) hv
theorem Ur{k:List Key}{b:Addr}(hx:(TK prog w).is s.heap k b){Q:Bool->ar->Prop}(h:∀ r,(Js k->r=true)->Q r s):wpAny (model prog w) A (NO 8 (.ref b)) Q E s:=by
 have hT:s.TypeIs (.ref b) "tuple":=wJ hx;obtain⟨o,items,n,ho,_,hd,hi⟩:=hx;unfold NO;refine ae (x4 hT F.slot_tuple_hash.lookup ?_);show wpAny _ _ (seqItems? (.ref b) >>= _) _ _ s;refine ae (sH ho hd ?_);refine ae ?_;show wpAny _ _ (forIn items _ _) _ _ s;rw [<-yc];have hb:∀ v∈items.toList,∃ r,NO 7 v=pure r/\(Js k->r=true):=by
  intro v hv0;by_cases c:Js k
  ·obtain⟨t,e⟩:=int_at hi c hv0;subst e;exact⟨true,rfl,fun _=>rfl⟩
  ·have hv:=hi.byValue v hv0;cases v <;> first | exact⟨_,rfl,fun z=>absurd z c⟩ | (exact bH (show false=true from hv))
 refine iW _ (fun rest r s'=>r.1=none/\s'=s/\∀ v∈rest,∃ r,NO 7 v=pure r/\(Js k->r=true)) _ ?_ ?_ _ _ ⟨rfl,rfl,hb⟩
 ·rintro v rest r s' ⟨hr,rfl,sW⟩;obtain⟨x,hv,hx1⟩:=sW v aB;rw [hv];refine ae (aj ?_);cases x with
  | true =>
   rw [if_neg (by intro z; cases z)];exact aj ⟨rfl,rfl,fun u uP=>sW u (ao _ uP)⟩
  | false =>
   rw [if_pos (show (!false)=true from rfl)];exact aj (aj (h _ hx1))
 ·rintro⟨r1,r2⟩ s' ⟨hr,rfl,_⟩;simp only at hr;subst hr;exact aj (h _ fun _=>rfl)
theorem Og{m n:Nat}(hm:Mk m)(h1:¬ n * 5>=m * 3)(h2:(n+1) * 5>=m * 3)(h3:n < 76):Mk (sizeAbove (grown (n+1)) - 1)/\n+1<=sizeAbove (grown (n+1)) - 1/\¬ (n+1) * 5>=(sizeAbove (grown (n+1)) - 1) * 3/\sizeAbove (grown (n+1))<=128:=by
 rcases hm with rfl | rfl | rfl
 ·have:n=4:=by lia
  subst this;exact⟨.inr (.inl (by decide)),by decide,by decide,by decide⟩
 ·have:n=18:=by lia
  subst this;exact⟨.inr (.inr (by decide)),by decide,by decide,by decide⟩
 ·lia
end
end K2.S
end
section
namespace K2.S
open PySem PySem.Spec PyProof.Rows L2 PySem.SetTable
section
variable {B:Addr->Prop} {prog:bE} {w:World} {A:c8} {E:Value->ar->Prop} {s:ar}
theorem OB{m i:Nat}(h:i < m+1):i+(runEnd m i - i)<=m:=by
 unfold runEnd; split <;> lia
theorem Xd{m:Nat}{p:Probe}(h:p.j+p.more<=m):(eO m p).j+(eO m p).more<=m:=by
 unfold eO;by_cases c:p.more > 0
 ·rw [if_pos c]; dsimp only; lia
 ·rw [if_neg c]; exact OB (oM _ (kz m))
theorem Oi{m:Nat}:∀ (n:Nat) {p:Probe},p.j+p.more<=m->(dW m n p).j+(dW m n p).more<=m
 | 0,_,h=>h
 | n+1,_,h=>Oi n (Xd h)
theorem J9{h:Heap}{a:Addr}{o:Obj}{es:En}{ep:Nat}{t:gJ}(ho:h.get? a=some o)(hd:o.data=.set es ep t)(es':En)(t':gJ) :
  (h.update a (rQ es' t')).get? a=some { o with data:=.set es' (ep+1) t' }:=by
 have:=df (rQ es' t') ho (by rw [putSet_of es' t' hd]; rfl);rw [putSet_of es' t' hd] at this; exact this
theorem EG{h:Heap}{a:Addr}{o:Obj}{es:En}{ep:Nat}{t:gJ}(ho:h.get? a=some o)(hd:o.data=.set es ep t)(f:Obj->Obj):∀ b o',h.get? b=some o'->(∃ items n,o'.data=.seq items n)->(h.update a f).get? b=some o':=by
 rintro b o' e ⟨items,n,q⟩;have nb:a≠b:=fun z=>by subst z; rw [ho] at e; cases e; rw [hd] at q; cases q
 exact(cR _ _ nb).trans e
theorem Dg(t:gJ)(dm:t.dummies=#[]):t.tooFull=decide (t.place.size * 5>=t.mask * 3):=by
 unfold SetTable.tooFull GB; rw [dm]; rfl
theorem Us{a:Addr}{led:Bool}{ks:List (List Key)}{k:List Key}{b:Addr}(hu:(TK prog w).room A)(hS:QV B prog w s.heap a led ks)(hx:(TK prog w).is s.heap k b)(hB:B b)(nH:ks.length < 76){Q:Bool->ar->Prop}
  (h:∀ h' Nr r,(k∈ks->Nr=ks)->(k∉ks->Nr.Perm (k :: ks))->fM a s.heap h'->QV B prog w h' a led Nr->Q r { s with heap:=h' }) :
  wpAny (model prog w) A (setAddHashed a (.ref b) ((TK prog w).hash k)) Q E s:=by
 obtain⟨o,es,ep,t,ho,hex,hd,O,nf,hl,ZG,M⟩:=hS;have hsz:es.size < 76:=by rw [<-M.1]; exact nH
 obtain⟨N,hN,h1,h2⟩:=zx O _ (Pb.start t ((TK prog w).hash k));have hN':N < 100000:=by
  have:t.mask<=127:=by rcases O.ms with e | e | e <;> lia
  unfold turns at hN; lia
 unfold setAddHashed setAddHashedIn;refine cX (ae (qm ho hd O ?_));dsimp only;rw [show byScan (.ref b) es=false from rfl,if_neg (by intro z; cases z)];unfold setSearch;refine ae (A4 hu ho hd O M hx h1 h2 (fun hk=>?_) (fun hk=>?_) 100000 0 none (by lia) (cb _) rfl (fun n' z=>absurd z (bV _)))
 ·dsimp only;refine aj ?_;have e:s={ s with heap:=s.heap }:=by cases s; rfl
  rw [e];exact h s.heap ks false (fun _=>rfl) (fun z=>absurd hk z) (vK a s.heap) ⟨o,es,ep,t,ho,hex,hd,O,nf,hl,ZG,M⟩
 ·dsimp only;refine ae (qm ho hd O ?_);dsimp only;rw [LW t O.dm];dsimp only;obtain⟨j,ej⟩:∃ j,(dW t.mask N (probeStart t ((TK prog w).hash k))).j=j:=⟨_,rfl⟩;rw [ej];have hj:j<=t.mask:=by
   rw [<-ej];exact cC (eX _ _) (Oi N (OB (oM _ (kz t.mask))))
  have nf':¬ t.place.size * 5>=t.mask * 3:=by rw [Dg t O.dm] at nf; exact of_decide_eq_false nf
  have room:t.place.size+1<=t.mask:=by rcases O.ms with e | e | e <;> lia
  have QQ:below t.place j<=es.size:=by rw [<-O.sz]; exact(pI O.up j).1
  have rest:∀ t':gJ,t'.mask=t.mask->t'.dummies=t.dummies->t'.place=insertAt t.place (below t.place j) j->t'.led=t.led->((∀ x∈k :: ks,Js x)->t'.plain=true) ->
    wpAny (model prog w) A (do
     storeSet a (insertAt es (below t.place j) ((TK prog w).hash k,.ref b)) t'
     if (!false&&t'.tooFull)=true then do
      setRelay a (grown (es.size+1))
      pure true
     else pure true) Q E s:=by
   intro t' e1 e2 e3 e4 e5;have O':Tw t' (insertAt es (below t.place j) ((TK prog w).hash k,.ref b)):=by
    have:=O.add (x:=.ref b) h1 h2 (by rw [ej]; exact hj) room e1 e2 (by rw [ej]; exact e3);rw [ej] at this; exact this
   have M':=M.ins hx hB QQ;have UE:t'.place.size=es.size+1:=by rw [O'.sz,gN _ _ _ QQ]
   have pk:(ks.take (below t.place j)++k :: ks.drop (below t.place j)).Perm (k :: ks):=by
    refine List.perm_middle.trans ?_;rw [c9]
   refine ae (wpAny_storeSet_of ho hd ?_ (by rw [gN _ _ _ QQ,cx]; lia));have g1:=J9 ho hd (insertAt es (below t.place j) ((TK prog w).hash k,.ref b)) t';have M1:=M'.keep (h':=s.heap.update a (rQ (insertAt es (below t.place j) ((TK prog w).hash k,.ref b)) t')) (fun c o _=>EG ho hd _ c o);have sb1:=cu s.heap a (rQ (insertAt es (below t.place j) ((TK prog w).hash k,.ref b)) t');cases tf:t'.tooFull with
   | false =>
    rw [if_neg (by intro z; cases z)];exact aj (h _ _ true (fun z=>absurd z hk) (fun _=>pk) sb1 ⟨_,_,_,_,g1,hex,rfl,O',tf,e4.trans hl,fun z=>e5 fun x hx=>z x (pk.mem_iff.mpr hx),M1⟩)
   | true =>
    rw [if_pos (show (!false&&true)=true from rfl)];rw [Dg t' O'.dm,UE,e1] at tf;obtain⟨m1,m2,m3,m4⟩:=Og O.ms (n:=es.size) (by rw [<-O.sz]; exact nf') (of_decide_eq_true tf) hsz;refine ae ?_;unfold setRelay;refine ae (qm (s:={ s with heap:=s.heap.update a (rQ (insertAt es (below t.place j) ((TK prog w).hash k,.ref b)) t') }) g1 rfl O' ?_);dsimp only;rw [if_neg (by rw [cx]; lia)];obtain⟨t2,order,el,l1,l2,l3,l4,l5,O2⟩:=SG m1 (insertAt es (below t.place j) ((TK prog w).hash k,.ref b)) (by rw [gN _ _ _ QQ]; exact m2) t'.finger (t'.movedTo (sizeAbove (grown (es.size+1)) - 1)) t'.led t'.plain;have er:t'.relaid ((insertAt es (below t.place j) ((TK prog w).hash k,eE b)).map (·.1)) (grown (es.size+1))=some (t2,order):=el;rw [er];refine ae (qc (a:=(order.filterMap ((insertAt es (below t.place j) ((TK prog w).hash k,eE b))[·]?),t2)) ?_ ?_)
    ·show (if (_ != _)=true then _ else _)=_;rw [if_neg (by rw [l4,bne_self_eq_false]; intro z; cases z)]
    obtain⟨X3,M2,pm⟩:=M1.perm l5;refine wpAny_storeSet_of g1 rfl ?_ (by rw [l4,gN _ _ _ QQ,cx]; lia);have g2:=J9 g1 rfl (order.filterMap ((insertAt es (below t.place j) ((TK prog w).hash k,eE b))[·]?)) t2;have M3:=M2.keep (h':=(s.heap.update a (rQ (insertAt es (below t.place j) ((TK prog w).hash k,.ref b)) t')).update a (rQ (order.filterMap ((insertAt es (below t.place j) ((TK prog w).hash k,eE b))[·]?)) t2)) (fun c o _=>EG g1 rfl _ c o);refine aj (h _ X3 true (fun z=>absurd z hk) (fun _=>pm.trans pk) (sb1.trans (cu _ a _)) ⟨_,_,_,_,g2,hex,rfl,O2,?_,by rw [l2,e4]; exact hl,fun z=>l3.trans (e5 fun x hx=>z x ((pm.trans pk).mem_iff.mpr hx)),M3⟩);rw [Dg t2 O2.dm,O2.sz,l4,gN _ _ _ QQ,l1];exact decide_eq_false m3
  cases hp:t.plain with
  | true =>
   rw [if_pos (show true=true from rfl)];refine ae (Ur hx fun r hr=>?_);cases r with
   | true=>exact rest _ rfl rfl rfl rfl fun _=>rfl
   | false=>exact rest _ rfl rfl rfl rfl fun z=>hr (z k aB)
  | false =>
   rw [if_neg (by intro z; cases z)];exact ae (aj (rest _ rfl rfl rfl rfl fun z=>by have:=ZG fun x hx=>z x (ao _ hx); rw [hp] at this; exact this))
end
end K2.S
end
section
namespace K2.S
open PySem PySem.Spec PyProof.Rows L2 PySem.SetTable
section
variable {B:Addr->Prop} {prog:bE} {w:World} {A:c8} {E:Value->ar->Prop} {s:ar}
noncomputable def GR (w:World):Bool:=w.params.followText "set-order"
noncomputable def yr (w:World):Obj:={ cls:=.type "set",dict:=none,data:=.set #[] 0 (.fresh 0 0 (!GR w)) }
theorem R3{h:Heap}{a:Addr}(e:h.get? a=some (yr w)):QV B prog w h a (!GR w) []:=by
 refine⟨_,#[],0,.fresh 0 0 (!GR w),e,⟨rfl,rfl,rfl⟩,rfl,⟨.inl rfl,rfl,rfl,fun a b _ z=>absurd z (bV _),fun k z=>absurd z (bV _),cb _,fun k z=>absurd z (bV _)⟩,rfl,rfl,(fun _=>rfl),rfl,fun i e he=>?_⟩;cases he
theorem Xe (x:Value) {Q:Value->ar->Prop} (h:Q (.ref s.heap.objs.size) { s with heap:=s.heap.push (yr w) }):vQ (model prog w) A (.call (.builtin "set.__new__") ⟨[.type "set",x],[]⟩) (wants Q E) s:=by
 refine NP (show wpAny _ A.in1 (do checkBuiltinCall "set.__new__" ⟨[.type "set",x],[]⟩; again (.builtin "set.__new__" ⟨[.type "set",x],[]⟩)) _ _ s from ?_);refine ae (qc (F.newCall_set_1 x) (aj ⟨jZ F.plain_set_new _,fE F.entry_set_new ?_⟩));rw [eS F.plain_set_new _];unfold Builtin.«set.__new__» Builtin.Frozenset.newClass;have Fp:=sub_set_self;obtain⟨hp,g,d,tk,os⟩:=s;dsimp only at h ⊢
 wp_walk
 refine Lu (aj ?_);dsimp only;simp only [newObj];refine ae (wpAny_alloc (aj (aj h)))
variable {R:Result->ar->Prop} {I:Addr} {fp wr:List Addr} {G:Array GenState->Array GenState->Prop} {n:Nat} {P:Nat->Value->Prop} {St:Nat->ar->Prop}
noncomputable def PV(acc:List (List Key))(k:List Key):Bool:=acc.any fun x=>decide (x=k)
theorem uT{acc:List (List Key)}{k:List Key}:PV acc k=true↔k∈acc:=by
 unfold PV;rw [List.any_eq_true];exact⟨fun ⟨x,hx,e⟩=>of_decide_eq_true e ▸ hx,fun h=>⟨k,h,decide_eq_true rfl⟩⟩
noncomputable def ou(acc:List (List Key))(k:List Key):List (List Key):=if PV acc k=true then acc else acc++[k]
noncomputable def ded(l:List (List Key)):List (List Key):=l.foldl ou []
theorem LJ(acc:List (List Key))(k:List Key):(ou acc k).length<=acc.length+1:=by
 unfold ou; split
 ·lia
 ·rw [aw,bF]; exact aC _
theorem QV.keeps{h h':Heap}{a:Addr}{b:Bool}{ks:List (List Key)}(x:QV B prog w h a b ks)(k:∀ c o,(c=a\/B c)->h.get? c=some o->h'.get? c=some o):QV B prog w h' a b ks:=by
 obtain⟨o,es,ep,t,e,r1,r2,r3,r4,r5,r6,M⟩:=x;exact⟨o,es,ep,t,k a o (.inl rfl) e,r1,r2,r3,r4,r5,r6,M.keep fun c o z e _=>k c o (.inr z) e⟩
theorem UG{b:Bool}(W:WalksS prog w A.in1 I fp wr G n P St)(S:Addr)(WK:S∉fp)(T:Heap->Prop)(key:Nat->List Key)(nH:n<=76)(hu:(TK prog w).room A.in1)
  (hT:∀ h,T h->∀ i v,P i v->∃ c,v=.ref c/\(TK prog w).is h (key i) c/\B c) (hTk:∀ h h',T h->(∀ c o,c∉S :: wr->h.get? c=some o->h'.get? c=some o)->T h')
  (hW:∀ c,B c->c∉wr) :
  ∀ (k i:Nat) (s:ar) (acc ks:List (List Key)),n - i=k->i<=n->acc.length<=i->ks.Perm acc->St i s->T s.heap->QV B prog w s.heap S b ks ->
   (∀ s' Nr,Moved (S :: wr) G s s'->Nr.Perm (((List.range' i k).map key).foldl ou acc)->T s'.heap->QV B prog w s'.heap S b Nr->R (.ok (.ret .none)) s') ->
   vQ (model prog w) A (.builtin "set.update.loop" ⟨[.ref S,.ref I],[]⟩) R s:=by
 have ZQ:S∉wr:=fun h=>WK (W.sub _ h);have Fp:∀ c∈wr,c∈S :: wr:=fun c hc=>ao _ hc;intro k;induction k with
 | zero =>
  intro i s acc ks hk hi ha hp IA ht hS hR;have Yv:i=n:=by lia
  subst Yv;refine fE RI ?_;rw [eS tV _];show wpAny _ A.in1 (nh (.ref I) >>= _) _ _ s;refine ae (W.done s _ _ IA fun s' hm=>(show wpAny _ A.in1 (ret dG) _ _ s' from aj (hR s' ks (hm.mono Fp) hp (hTk _ _ ht fun c o hc e=>hm.heap c o (fun z=>hc (Fp c z)) e) (hS.keeps fun c o z e=>hm.heap c o (fun q=>?_) e))));rcases z with rfl | z
  ·exact ZQ q
  ·exact hW c z q
 | succ k ih =>
  intro i s acc ks hk hi ha hp IA ht hS hR;have oj:i < n:=by lia
  refine fE RI ?_;rw [eS tV _];show wpAny _ A.in1 (nh (.ref I) >>= _) _ _ s;refine ae (W.item i s _ _ oj IA fun v s' hP abN hm=>?_);have Mn:T s'.heap:=hTk _ _ ht fun c o hc e=>hm.heap c o (fun z=>hc (Fp c z)) e;obtain⟨c,rfl,hx,hB⟩:=hT _ Mn i v hP;have YK:QV B prog w s'.heap S b ks:=hS.keeps fun c o z e=>hm.heap c o (fun q=>by
   rcases z with rfl | z
   ·exact ZQ q
   ·exact hW c z q) e
  show wpAny _ A.in1 (GY [eE c] (setAdd S (.ref c)) >>= _) _ _ s';refine ae (cX ?_);unfold setAdd;refine cX (ae ((TK prog w).pyHash hu hx ?_));refine Us (s:={ s' with toks:=s'.toks+(TK prog w).draws (key i) }) hu YK hx hB (by rw [hp.length_eq]; lia) fun h' Nr r Yv VQ Yg hS2=>?_;have W8:T h':=hTk _ _ Mn fun c o hc e=>by rw [Yg.2 c (fun z:c=S=>hc (by rw [z]; exact aB))]; exact e
  have ZH:Nr.Perm (ou acc (key i)):=by
   unfold ou;by_cases z:PV acc (key i)=true
   ·rw [if_pos z,Yv (hp.mem_iff.mpr (uT.mp z))]; exact hp
   ·rw [if_neg z];exact(VQ fun q=>z (uT.mpr (hp.mem_iff.mp q))).trans ((hp.cons _).trans (List.perm_append_singleton _ _).symm)
  refine aj ⟨jZ tV _,ih (i+1) _ (ou acc (key i)) Nr (by lia) oj (cC (LJ _ _) (by lia)) ZH (W.frame _ s' _ _ abN (eX _ _) fun c hc o e=>?_) W8 hS2 fun s2 X3 Yr Ri ht2 hS3=>?_⟩
  ·rw [Yg.2 c (fun z:c=S=>WK (by rw [<-z]; exact hc))]; exact e
  ·refine hR s2 X3 (Moved.trans W.gtrans ((hm.mono Fp).then_heap (eX _ _) fun c o hc e=>?_) Yr) Ri ht2 hS3;rw [Yg.2 c (fun z:c=S=>hc (by rw [z]; exact aB))]; exact e
end
end K2.S
end
section
namespace K2.S
open PySem PySem.Spec PyProof.Rows L2 PySem.SetTable
section
variable {prog:bE} {w:World} {A:c8} {E:Value->ar->Prop} {s:ar}
set_option maxRecDepth 100000 in
theorem UH{l:Addr}{items:Array Value}{Q:Value->ar->Prop}(hh:A.handled=none)(hu:A.units+64 < cLine)(hl:s.heap.IsList l items)(key:Nat->List Key)(nH:items.size<=76)(abK:∀ (i:Nat) (v:Value),items[i]?=some v->∃ c,v=.ref c/\(TK prog w).is s.heap (key i) c)
  (h:∀ (h':Heap) (tk:Nat) (ks:List (List Key)),QV (fun c=>c < s.heap.objs.size/\eE c∈items.toList) prog w h' s.heap.objs.size (!GR w) ks->ks.Perm (ded ((aU items.size).map key))->(∀ c o,c < s.heap.objs.size->s.heap.get? c=some o->h'.get? c=some o)->Q (.ref s.heap.objs.size) { s with heap:=h',toks:=tk }) :
  wpAny (model prog w) A (call (.type "set") [.ref l]) Q E s:=by
 obtain⟨c,tl,abZ⟩:=F.called_set.mro;have Yq:=F.called_set.made;have Fp:=F.called_set.sub;refine wpAny_call (NP (show wpAny _ _ (callAny (.type "set") _) _ _ _ from ?_));refine aj ⟨Code.quiet_builtin _ (by decide +kernel),fE F.entry_type_call ?_⟩;rw [RK (weight_type_call_type "set" [.ref l] []) rfl];have h1:=F.called_set.notType;have h2:=F.called_set.canCreate;have hct:=F.typeCall_set_1 (.ref l)
 repeat (any_goals (first | assumption | wp_step))
 refine ot (Xe (.ref l) (E:=E) (Q:=fun obj eR=>obj=.ref s.heap.objs.size/\eR={ s with heap:=s.heap.push (yr w) }) ⟨rfl,rfl⟩) fun r s1 hr=>?_;cases r with
 | error e=>exact hr
 | ok fl =>
  cases fl with
  | ret obj =>
   obtain⟨rfl,rfl⟩:=hr;have hS:(s.heap.push (yr w)).get? s.heap.objs.size=some (yr w):=aT _ rfl;have hT:Shared.TypeIs { s with heap:=s.heap.push (yr w) } (.ref s.heap.objs.size) "set":=⟨_,hS,rfl⟩;have hli:=F.called_set.init.lookup;have hbi:=F.called_set.init.bind (.ref s.heap.objs.size)
   repeat (any_goals (first | assumption | wp_step))
   refine ot (Ah (R:=wants (fun r iX=>r=.none/\∃ h' tk ks,iX={ s with heap:=h',toks:=tk }/\QV (fun c=>c < s.heap.objs.size/\eE c∈items.toList) prog w h' s.heap.objs.size (!GR w) ks/\ks.Perm (ded ((aU items.size).map key)) /\
     (∀ c o,c < s.heap.objs.size->s.heap.get? c=some o->h'.get? c=some o)) E) F.called_set.init.plain F.entry_set_init (check_set_init_1 hT ?_)) fun UQ iX zf=>?_
   ·obtain⟨⟨aeQ,XH,ac9,Vc⟩,VN,C8,nl,hdl⟩:=hl;simp only at C8 hdl;subst C8 hdl;have abS:(s.heap.push (yr w)).get? l=some { cls:=.type "list",dict:=XH,data:=.seq items nl,slots:=Vc }:=aE _ VN;have afh:=F.sub_list_set;have afi:=F.sub_list_frozenset;have j8:(vB "list" == vB "dict")=false:=by decide
    have T8:(s.heap.push (yr w)).IsList l items:=⟨_,abS,rfl,nl,rfl⟩;unfold yr at *;unfold Builtin.«set.__init__» noKeywords Builtin.Frozenset.updateFrom;generalize hPI:wH=PI
    wp_walk
    subst hPI;refine jY T8 (ae (wpAny_runValue ?_));have hlS:l < s.heap.objs.size:=aL VN;have hh3:A.in1.in1.in1.handled=none:=by simp [hh]
    have hsz:(s.heap.push (yr w)).objs.size=s.heap.objs.size+1:=iE _ _;unfold yr at hsz;have hIn:∀ c,c < s.heap.objs.size->c∉[(s.heap.push { cls:=.type "set",dict:=none,data:=.set #[] 0 (.fresh 0 0 (!GR w)) }).objs.size]:=fun c hc=>by
     rw [hsz]; simp only [pU]; lia
    refine UG (B:=(fun c=>c < s.heap.objs.size/\eE c∈items.toList)) (b:=!GR w) ((Walks.list hh3 _ l (by rw [hsz]; exact bB (rS hlS)) items).toS) s.heap.objs.size (by rw [hsz]; simp only [hX,fD,or_false,not_or]; exact⟨bB (nR _),Nat.ne_of_gt hlS⟩)
     (fun h=>∀ c o,c < s.heap.objs.size->s.heap.get? c=some o->h.get? c=some o) key nH (by show A.in1.in1.in1.units < cLine; show A.units+1+1+1 < cLine; lia) (fun h ht i v hP=>?h1) (fun h h' ht k c o hc e=>k c o ?h2 (ht c o hc e)) (fun c hc=>hIn c hc.1) (items.size - 0) 0 _ [] [] (by lia) (cb _) (aC _) (List.Perm.refl _) ⟨⟨_,aT _ rfl,rfl,rfl⟩,T8.push _⟩
     (fun c o hc e=>aE _ (aE _ e)) ?hS0 ?hR
    case h1 =>
     obtain⟨c,e1,e2⟩:=abK i v hP;obtain⟨o,_,_,eo,_⟩:=id e2;exact⟨c,e1,KH e2 fun o e=>ht c o (aL e) e,aL eo,by rw [<-e1]; exact Array.mem_toList_iff.mpr (Array.mem_of_getElem? hP)⟩
    case h2 =>
     intro z;rcases List.mem_cons.mp z with z | z
     ·exact absurd z (bB hc)
     ·exact hIn c hc z
    case hS0=>exact R3 (aE _ hS)
    case hR =>
     intro s' ks hm hq ht YK;obtain⟨h',g',d',W8,os'⟩:=s';cases (show g'=s.gens from hm.gens);cases (show d'=s.drawn from hm.drawn);cases (show os'=s.os from hm.os);refine aj (show wpAny _ _ (ret dG) _ _ _ from aj ⟨rfl,h',W8,ks,rfl,YK,?_,ht⟩);rw [Nat.sub_zero,<-List.range_eq_range'] at hq; exact hq
   ·cases UQ with
    | error e=>exact zf
    | ok Qb =>
     cases Qb with
     | ret r =>
      obtain⟨rfl,h',tk,ks,rfl,YK,hq,Rn⟩:=zf
      repeat (any_goals (first | assumption | wp_step))
      exact h _ _ ks YK hq Rn
     | _=>exact zf.elim
  | _=>exact hr.elim
end
end K2.S
end
section
namespace K2
open PySem PySem.Spec PyProof.Rows L2 PySem.W
section
variable {X:Cx} {a:Expr} {ta:Gu} {pos p CN p2:Pos}
theorem Ti:dR "set" = some (.type "set"):=by first | rfl | decide +kernel
noncomputable def tk(k:List Key):D:=.tup (k.map dI)
end
end K2
end
section
namespace K2
open PySem PySem.Spec PyProof.Rows L2
section
variable {X:Cx} {elts:List Expr} {kk:Nat} {yk apos jq:Pos} {o:Expr} {to:fC}
theorem lB.item{K:ah}{H:Hp}{kv:List (List Key×V)}{kvs:List (D×D)}(h:lB K H kv kvs):∀ {i:Nat} {q:D×D},kvs[i]?=some q->∃ p,kv[i]?=some p/\q.1=.tup (p.1.map dI)/\cB K H p.2 q.2:=by
 induction h using lB.ind with
 | nil=>intro i q e; simp at e
 | @cons k v d r t rd rs ih =>
  intro i q e;cases i with
  | zero=>simp at e; subst e; exact⟨_,rfl,rfl,rd⟩
  | succ i =>
   obtain⟨p,h1,h2⟩:=ih (i:=i) (q:=q) (by simpa using e);exact⟨p,by simpa using h1,h2⟩
theorem lB.len{K:ah}{H:Hp}{kv:List (List Key×V)}{kvs:List (D×D)}(h:lB K H kv kvs):kv.length=kvs.length:=by
 have:=congrArg cV h.keys;simpa using this.symm
end
end K2
end
section
namespace K2.S
open PySem PySem.Spec PyProof.Rows L2 PySem.SetTable
namespace F5
theorem slot_next:Slot "set_iterator" "__next__" "set_iterator.__next__" :=
 .of (owner:="set_iterator") (n:="__next__") (by rw [typeLookup_type,builtinLookup_eq_fast]; kernel_rfl) (by decide +kernel) (by decide +kernel) (by decide +kernel) (by first | exact .inl (by decide +kernel) | exact .inr (by decide +kernel)) (by rw [Rq]; kernel_rfl)
theorem entry_next:entryFor table "set_iterator.__next__" = some Builtin.«set_iterator.__next__»:=entryFor_of_tree (by kernel_rfl)
theorem Bf:Slot "set_iterator" "__iter__" "set_iterator.__iter__" :=
 .of (owner:="set_iterator") (n:="__iter__") (by rw [typeLookup_type,builtinLookup_eq_fast]; kernel_rfl) (by decide +kernel) (by decide +kernel) (by decide +kernel) (by first | exact .inl (by decide +kernel) | exact .inr (by decide +kernel)) (by rw [Rq]; kernel_rfl)
theorem IU:entryFor table "set_iterator.__iter__" = some Builtin.«dict_keyiterator.__iter__»:=AX (id':="dict_keyiterator.__iter__") (by kernel_rfl) rfl (by decide +kernel) (by kernel_rfl)
theorem FO:entryFor table "set.__iter__" = some Builtin.«frozenset.__iter__»:=AX (id':="frozenset.__iter__") (by kernel_rfl) rfl (by decide +kernel) (by kernel_rfl)
theorem own:Manifest.owners.lookup (String.ofList ['r','o','t','a','r','e','t','i','_','t','e','s'].reverse)=some Manifest.sig_set_iterator:=by kernel_rfl
theorem args_next (a:Value):argsOk "set_iterator.__next__" ⟨[a],[]⟩:=by
 unfold argsOk; rw [signature?_of (id:="set_iterator.__next__") (n:=['_','_','t','x','e','n','_','_']) (o:=['r','o','t','a','r','e','t','i','_','t','e','s']) (by kernel_rfl) own]; kernel_rfl
theorem MY (a:Value):argsOk "set_iterator.__iter__" ⟨[a],[]⟩:=by
 unfold argsOk; rw [signature?_of (id:="set_iterator.__iter__") (n:=['_','_','r','e','t','i','_','_']) (o:=['r','o','t','a','r','e','t','i','_','t','e','s']) (by kernel_rfl) own]; kernel_rfl
end F5
noncomputable def HB(pl:Array Nat)(i:Nat):Nat:=if i=0 then 0 else pl.getD (i - 1) 0+1
theorem QR{xs:Array Nat}(up:Up xs){i:Nat}(h:i<=xs.size):below xs (HB xs i)=i:=by
 obtain⟨h1,h2,h3⟩:=pI up (HB xs i);unfold HB at h1 h2 h3 ⊢;by_cases c:i=0
 ·rw [if_pos c] at h1 h2 h3 ⊢;apply cg;intro z;have:=h2 0 (by lia);lia
 ·rw [if_neg c] at h1 h2 h3 ⊢;apply cg;intro z;by_cases q:below xs (xs.getD (i - 1) 0+1) < i
  ·have:=h3 (i - 1) (by lia) (by lia); lia
  ·have a1:=h2 i (by lia);have a2:=up (i - 1) i (by lia) (by lia);lia
section
variable {prog:bE} {w:World} {A:c8} {E:Value->ar->Prop} {s:ar}
noncomputable abbrev tb(w:World)(mk:Nat)(pl dm:Array Nat)(fg mv:Nat):gJ:={ mask:=mk,place:=pl,dummies:=dm,finger:=fg,led:=!GR w,moves:=mv,plain:=true }
structure Wk(w:World)(o:Obj)(es:En)(ep:Nat)(mk:Nat)(pl dm:Array Nat)(fg mv:Nat):Prop where
 ex:o.ExactSet
 dd:o.data=.set es ep (tb w mk pl dm fg mv)
 fit:(tb w mk pl dm fg mv).fits es.size=true
 sz:pl.size=es.size
 up:Up pl
noncomputable def ord(w:World)(a:Addr)(ep:Nat)(es:En):En:=if GR w=true then pickOrder (w.params.setOrder a ep) es else es
noncomputable def slt(w:World)(pl:Array Nat)(i:Nat):Nat:=if GR w=true then 0 else HB pl i
noncomputable abbrev aaA (a:Addr) (sl i n ep:Nat):Obj:={ cls:=.type "set_iterator",data:=.fields #[.int sl 0,.int i 0,.ref a,.int n 0,.int ep 0] }
noncomputable def WN (h:Heap) (it a:Addr) (sl i n ep:Nat):Prop:=∃ o,h.get? it=some o/\o.cls=.type "set_iterator"/\o.data=.fields #[.int sl 0,.int i 0,.ref a,.int n 0,.int ep 0]
theorem WN.ty {it a:Addr} {sl i n ep:Nat} (x:WN s.heap it a sl i n ep):s.TypeIs (.ref it) "set_iterator":=by
 obtain⟨o,h,c,_⟩:=x;exact⟨o,h,c⟩
theorem DF{Q:Bool->ar->Prop}(h:Q (GR w) s):wpAny (model prog w) A setsByText Q E s:=by
 unfold setsByText;exact ae (Lu (aj h))
variable {es:En} {mk fg mv:Nat} {pl dm:Array Nat} {a it:Addr} {o:Obj} {ep:Nat}
theorem Oq{Q:Value->ar->Prop}(ho:s.heap.get? a=some o)(W:Wk w o es ep mk pl dm fg mv)
  (hQ:Q (.ref s.heap.objs.size) { s with heap:=s.heap.push (aaA a 0 0 es.size ep) }):wpAny (model prog w) A (wH (.ref a)) Q E s:=by
 have ty:s.TypeIs (.ref a) "set":=⟨o,ho,W.ex.1⟩;refine ie ty Lw (cI Lw ty F5.FO ?_ (PySem.F.args_set_iter_1 _));unfold Builtin.«frozenset.__iter__» Builtin.Frozenset.slot0 slotArgs;simp only [sJ,cS,aQ,↓reduceIte,bind_assoc,aG,bne_self_eq_false];unfold Builtin.Frozenset.addrOf Builtin.Frozenset.sizeOf;refine ae (aj ?_)
 try dsimp only
 refine ae (aj (ae (ae (B7 ho W.dd W.fit (aj ?_)))));refine ae ?_;unfold setDrawn;refine ae (nQ ho W.dd W.fit ?_);dsimp only;refine ae (DF (aj ?_));split
 ·rename_i z;exact absurd z (by cases GR w <;> exact eT)
 ·refine ae (aj ?_);unfold setEpoch;refine ae (ae (nQ ho W.dd W.fit (aj ?_)));unfold newFields;refine ae (cD (aj ⟨_,rfl,"set_iterator",_,⟨_,aT _ rfl,rfl⟩,F5.slot_next.lookup,?_⟩) (by size_fits));exact hQ
theorem RX(hb:GR w=true)(ho:s.heap.get? a=some o)(W:Wk w o es ep mk pl dm fg mv):wpAny (model prog w) A (setWalk a) (fun r s'=>r=pickOrder (w.params.setOrder a ep) es/\s'=s) (fun _ _=>False) s:=by
 unfold setWalk;refine ae (nQ ho W.dd W.fit ?_);dsimp only;refine ae (DF ?_);rw [hb,if_pos rfl];exact ae (Lu (aj ⟨rfl,rfl⟩))
theorem JP{i:Nat}(hi:i<=es.size)(ho:s.heap.get? a=some o)(W:Wk w o es ep mk pl dm fg mv):wpAny (model prog w) A (setNext a (slt w pl i) i ep) (fun r s'=>r=((ord w a ep es)[i]?).map (fun e=>(e.2,slt w pl (i+1)))/\s'=s) (fun _ _=>False) s:=by
 unfold setNext;refine ae (nQ ho W.dd W.fit ?_);dsimp only;refine ae (DF ?_);cases hb:GR w with
 | true =>
  rw [if_pos rfl,if_neg (by simp)];refine ae (jc (RX hb ho W) (fun r s' z=>?_) fun _ _ z=>z);obtain⟨rfl,rfl⟩:=z;refine aj ⟨?_,rfl⟩;unfold ord slt;rw [hb]; rfl
 | false =>
  rw [if_neg (by simp)];have sl:slt w pl i=HB pl i:=by unfold slt; rw [hb]; rfl
  have sl1:slt w pl (i+1)=pl.getD i 0+1:=by unfold slt; rw [hb]; rfl
  have bl:DU pl (HB pl i)=i:=QR W.up (by rw [W.sz]; exact hi);split
  ·rename_i z;exact absurd z eT
  ·refine ae (show wpAny (model prog w) A (if (!(!GR w)&&!es.isEmpty)=true then NJ "set:maker-not-led" else pure ()) _ _ s from ?_);rw [if_neg (by rw [hb]; simp)];refine aj (aj ⟨?_,rfl⟩);show (match es[DU pl (slt w pl i)]?,pl[DU pl (slt w pl i)]? with
    | some (_,x),some j=>some (x,j+1)
    | _,_=>none)=_
   rw [sl,bl,sl1];unfold ord;rw [hb,if_neg (by simp)];by_cases c:i < es.size
   ·have hp:i < pl.size:=by rw [W.sz]; exact c
    rw [a8 c,a8 hp];simp [ql,hp]
   ·rw [fX (by lia)]; rfl
theorem RY{i:Nat}{Q:Option Value->ar->Prop}(ki:WN s.heap it a (slt w pl i) i es.size ep)(ho:s.heap.get? a=some o)(W:Wk w o es ep mk pl dm fg mv)(hi:i<=es.size){e:Int×Value}(he:(ord w a ep es)[i]?=some e)
  (hQ:∀ h',WN h' it a (slt w pl (i+1)) (i+1) es.size ep->fM it s.heap h'->Q (some e.2) { s with heap:=h' }):wpAny (model prog w) A (nh (.ref it)) Q E s:=by
 obtain⟨oi,T5,ZM,SY⟩:=id ki;unfold nh;refine ae (pS (eY (name:=mR "__next__") ki.ty F5.slot_next (cI F5.slot_next ki.ty F5.entry_next ?_ (F5.args_next _))));unfold Builtin.«set_iterator.__next__» slotArgs;refine ae (aj ?_);refine ae (jd T5 SY ?_);show wpAny _ _ (setEntries a >>= _) _ _ s;refine ae (B7 ho W.dd W.fit ?_);rw [if_neg (by simp)];show wpAny _ _ (setNext a (Ai (slt w pl i:Int)) (Ai (i:Int)) (Ai (ep:Int)) >>= _) _ _ s;rw [aS,aS,aS];refine ae (jc (JP hi ho W) (fun r s' z=>?_) fun _ _ z=>z.elim);obtain⟨rfl,rfl⟩:=z;rw [he];show wpAny _ _ (Nc (.ref it) 0 (ma (slt w pl (i+1):Int)) >>= _) _ _ _;refine ae (kN T5 SY (by simp) ?_);have g1:=df (lg (·.setIfInBounds 0 (ma (slt w pl (i+1):Int)))) T5 (mT (eA SY _));refine ae (kN g1 (eA SY _) (by simp) ?_);have g2:=df (lg (·.setIfInBounds 1 (ma ((i:Int)+1)))) g1 (mT (eA (eA SY _) _));refine aj ⟨_,rfl,aj (hQ _ ⟨_,g2,?_,?_⟩ ((cu ..).trans (cu ..)))⟩
 ·rw [rR,rR]; exact ZM
 ·rw [eA (eA SY _)]; simp [ma]
theorem UJ{Q:Option Value->ar->Prop}(calm:A.handled=none)(ki:WN s.heap it a (slt w pl es.size) es.size es.size ep)(ho:s.heap.get? a=some o)(W:Wk w o es ep mk pl dm fg mv)(hl:(ord w a ep es).size=es.size)
  (hQ:∀ h',Heap.ExtBut it s.heap h'->Q none { s with heap:=h' }):wpAny (model prog w) A (nh (.ref it)) Q E s:=by
 obtain⟨oi,T5,ZM,SY⟩:=id ki;unfold nh;refine ae (pS (eY (name:=mR "__next__") ki.ty F5.slot_next (cI F5.slot_next ki.ty F5.entry_next ?_ (F5.args_next _))));unfold Builtin.«set_iterator.__next__» slotArgs;refine ae (aj (ae (jd T5 SY ?_)));show wpAny _ _ (setEntries a >>= _) _ _ s;refine ae (B7 ho W.dd W.fit ?_);rw [if_neg (by simp)];show wpAny _ _ (setNext a (Ai (slt w pl es.size:Int)) (Ai (es.size:Int)) (Ai (ep:Int)) >>= _) _ _ s;rw [aS,aS,aS];refine ae (jc (JP (aC _) ho W) (fun r s' z=>?_) fun _ _ z=>z.elim);obtain⟨rfl,rfl⟩:=z;rw [fX (by lia)];show wpAny _ _ (Nc (.ref it) 2 .none >>= _) _ _ _;refine ae (kN T5 SY (by simp) ?_);show wpAny _ _ (newExc (.type "StopIteration") [] >>= _) _ _ _;refine ae ?_;simp only [newExc,newTuple];refine ae (cD (ae (m:=og _ _) (qc (a:=dG) (by first | rfl | (simp only [og]; rfl)) (cD ?_ (by size_fits)))) (by size_fits));unfold raiseNew;refine ae (wpAny_handled ?_);rw [show A.in1.handled=none from calm];refine ae (aj (wpAny_throw ?_));refine ae (oT (T:="StopIteration") (b:=true) ⟨_,aT _ rfl,rfl⟩ Rt (?_));exact aj (hQ _ (((cu ..).extBut.push _).push _))
theorem PX{α:Type}:∀ (l:List α) (i:Nat) (h:i < l.length),(l[i] :: l.eraseIdx i).Perm l
 | x :: r,0,_=>.refl _
 | x :: r,i+1,h=>by
  rw [List.getElem_cons_succ,List.eraseIdx_cons_succ];exact(List.Perm.swap _ _ _).trans (.cons _ (PX r i (by simpa using h)))
theorem Bu{α:Type}(next:Nat->Nat):∀ (f k:Nat) (l:List α) (out:Array α),l.length<=f->(pickOrder.go next f k l out).toList.Perm (out.toList++l)
 | 0,k,l,out,h=>by
  have:l=[]:=List.length_eq_zero_iff.mp (by lia);subst this;rw [bU]; exact .refl _
 | f+1,k,l,out,h=>by
  unfold pickOrder.go;cases l with
  | nil=>simp
  | cons x r =>
   have hi:next k % (x :: r).length < (x :: r).length:=oM _ (by simp);rw [ai hi];dsimp only;refine(Bu next f (k+1) _ _ (by rw [List.length_eraseIdx_of_lt hi]; simp at h ⊢; lia)).trans ?_;rw [Array.toList_push,cK];exact .append_left _ (PX _ _ hi)
theorem EM(w:World)(a:Addr)(ep:Nat)(es:En):(ord w a ep es).toList.Perm es.toList:=by
 unfold ord;split
 ·unfold pickOrder;have:=Bu (w.params.setOrder a ep) es.size 0 es.toList #[] (by simp);simpa using this
 ·exact .refl _
theorem oz(w:World)(a:Addr)(ep:Nat)(es:En):(ord w a ep es).size=es.size:=by have:=(EM w a ep es).length_eq; simpa using this
theorem Oo(hh:A.handled=none)(j8:a≠it)(W:Wk w o es ep mk pl dm fg mv) :
  Rv prog w A it [it,a] [it] es.size (fun i v=>∃ e,(ord w a ep es)[i]?=some e/\v=e.2) (fun i h=>WN h it a (slt w pl i) i es.size ep/\h.get? a=some o) where
 sub:=fun c hc=>by simp at hc; simp [hc]
 frame:=fun i h h' st hk=>⟨let ⟨o,e,r⟩:=st.1; ⟨o,hk it (by simp) o e,r⟩,hk a (by simp) o st.2⟩
 item:=fun i s Q E hi st hQ=>by
  have xn:i < (ord w a ep es).size:=by rw [oz]; exact hi
  have he:(ord w a ep es)[i]?=some (ord w a ep es)[i]:=a8 xn;exact RY st.1 st.2 W (DW hi) he fun h' xj sb=>hQ _ h' s.toks ⟨_,he,rfl⟩ ⟨xj,(sb.2 a j8).trans st.2⟩ fun c o hc e=>(sb.2 c (by simpa using hc)).trans e
 done:=fun s Q E st hQ=>UJ hh st.1 st.2 W (oz ..) fun h' eb=>hQ h' s.toks fun c o hc e=>eb c o (by simpa using hc) e
 self:=fun i s Q E st hQ=>by
  refine ie st.1.ty F5.Bf (cI F5.Bf st.1.ty F5.IU ?_ (F5.MY _));show wpAny _ _ (ret (.ref it)) _ _ s;exact aj ⟨_,rfl,"set_iterator",_,st.1.ty,F5.slot_next.lookup,hQ⟩
theorem RZ {r:Addr} {Q:Bool->ar->Prop} (hT:s.TypeIs (.ref r) "set") (h:Q false s):wpAny (model prog w) A (xD (.ref r)) Q E s:=by
 unfold xD;refine ae (x4 hT PySem.F.slot_set_len.lookup ?_);generalize Nt:("set.__len__" : String)=id0
 wp_delta
 rw [show splitId id0=some ("set","__len__") from by subst Nt; decide +kernel];subst Nt;refine ae (oT (T:="set") (b:=true) hT (by rw [Rq]; kernel_rfl) (wpAny_ite_split (fun IE=>absurd IE (by decide)) fun _=>?_));exact wpAny_ite_split (fun _=>ae (Ju hT (aj h))) fun IE=>absurd (by decide +kernel) IE
theorem UI(W:Wk w o es ep mk pl dm fg mv) :
  vC prog w "set" a a es.size (fun i v=>∃ e,(ord w a ep es)[i]?=some e/\v=e.2) (fun h=>h.get? a=some o) where
 type:=fun s cz=>⟨o,cz,W.ex.1⟩
 there:=fun h cz=>⟨aL cz,aL cz⟩
 keep:=fun h h' cz hk=>hk a (.inl rfl) o cz
 notList:=by decide
 notTuple:=by decide
 hint:=fun A E s Q cz hq=>RZ ⟨o,cz,W.ex.1⟩ hq
 iter:=fun A s hh cz=>⟨_,_,(fun E Q hq=>Oq cz W hq),Oo hh (bB (aL cz)) W,⟨⟨_,aT _ rfl,rfl,by unfold slt HB; simp⟩,aE _ cz⟩⟩
end
end K2.S
end
section
namespace K2
open PySem PySem.Spec PyProof.Rows L2 PySem.W
section
variable {X:Cx} {a:Expr} {ta:Gu} {pos p CN p2:Pos}
noncomputable def Ct(t:T2):List Key:=[.inl t.a,.inl t.b]
theorem Cs{x y:T2}(h:Ct x=Ct y):x=y:=by
 cases x; cases y;unfold Ct at h;injection h with h1 h2
 injection h2 with h2 _
 cases h1; cases h2; rfl
theorem Vs(l:List T2):l.map (Enc.enc:T2->D)=(l.map Ct).map tk:=by rw [bA]; rfl
theorem Qw:∀ (l acc:List (List Key)),acc.Nodup->(l.foldl S.ou acc).Nodup/\∀ k,k∈l.foldl S.ou acc↔k∈acc\/k∈l
 | [],acc,h=>⟨h,fun k=>⟨.inl,fun z=>z.elim id fun q=>by cases q⟩⟩
 | x :: l,acc,h=>by
  rw [bT];have hs:(S.ou acc x).Nodup/\∀ k,k∈S.ou acc x↔k∈acc\/k=x:=by
   unfold S.ou;by_cases c:S.PV acc x=true
   ·rw [if_pos c];exact⟨h,fun k=>⟨.inl,fun z=>z.elim id fun e=>e ▸ S.uT.mp c⟩⟩
   ·rw [if_neg c];refine⟨?_,fun k=>by rw [vG,pU]⟩;rw [cj];refine⟨h,by simp,fun u hu v hv e=>?_⟩;rw [List.mem_singleton.mp hv] at e;subst e;exact c (S.uT.mpr hu)
  obtain⟨h1,h2⟩:=Qw l _ hs.1;refine⟨h1,fun k=>(h2 k).trans ?_⟩;rw [hs.2,hX,or_assoc]
theorem TZ:∀ (ks:List (List Key)),(∀ k∈ks,∃ t,k=Ct t)->∃ m:List T2,ks=m.map Ct
 | [],_=>⟨[],rfl⟩
 | k :: ks,h=>by
  obtain⟨t,rfl⟩:=h k aB;obtain⟨m,rfl⟩:=TZ ks fun x hx=>h x (ao _ hx);exact⟨t :: m,rfl⟩
theorem CH{K:ah}{H:Hp}:∀ (vs:List V) (zs:List D),vs.length=zs.length->(∀ (i:Nat) (v:V) (z:D),vs[i]?=some v->zs[i]?=some z->cB K H v z)->bh K H vs zs
 | [],[],_,_=>.nil
 | [],_ :: _,h,_=>by cases h
 | _ :: _,[],h,_=>by cases h
 | v :: vs,z :: zs,h,hr=>.cons (hr 0 v z rfl rfl) (CH vs zs (by simpa using h) fun i u y h1 h2=>hr (i+1) u y h1 h2)
noncomputable def vOf(v:Value):V:=match v with
 | .ref b=>.ref b
 | _=>.cL
theorem yI (hc:X.calm=true) (hu:X.A.units+64 < cLine) (hg:Gl X "sorted") (hm:X.mg "sorted" = none) (hg2:Gl X "set") (Yr:X.mg "set" = none) (ha:Gv X [a] ta) (hs:bL [a] X.env=(false,eval a X.env) :: bL [] X.env:=by rfl)
  (zc:bL [.Call (.Name "set" p2) [a] [] CN] X.env=(false,eval (.Call (.Name "set" p2) [a] [] CN) X.env) :: bL [] X.env:=by rfl) (BH:(jr pos (bL [] X.env)).any (·.1)=false:=by rfl) (abQ:(jr CN (bL [] X.env)).any (·.1)=false:=by rfl) :
  gf X (.Call (.Name "sorted" p) [.Call (.Name "set" p2) [a] [] CN] [] pos) (sG wC ta):=by
 intro E pins s σ H τ G Q hE I h;refine fK (lq I.inv hg hm B1 (ky ?_ zc BH));rw [zc];show wpAny _ _ (NK ((false,eval (.Call (.Name "set" p2) [a] [] CN) X.env) :: jr pos (bL [] X.env))) _ _ s;refine kO (fK (lq I.inv hg2 Yr Ti (du (ym ha CN hE I h fun vs H1 ds G1 us s1 I1 m1 r1 iT q1=>?_) hs abQ)));unfold wC at q1;split at q1
 ·rename_i x;obtain⟨tl,hlo,⟨SU,hlen⟩,q⟩:=q1;obtain⟨w1,rfl,CC⟩:=iT.one;obtain⟨u,rfl,ru⟩:=r1.one;obtain⟨l,vs,bw,rfl,rv,rs,hL,hz⟩:=mJ I1.inv I1.ab ru CC hlo;rw [Vs] at rs;have kll:(tl.map Ct).length=tl.length:=ag _;have klt:∀ k∈tl.map Ct,∃ t∈tl,k=Ct t:=fun k hk=>by obtain⟨t,ht,e⟩:=List.mem_map.mp hk; exact⟨t,ht,e.symm⟩
  have VC:∀ t,Ct t∈tl.map Ct↔t∈tl:=fun t=>⟨fun h=>by obtain⟨t',h1,e⟩:=List.mem_map.mp h; rw [<-Cs e]; exact h1,bq⟩;generalize tl.map Ct=kl at rs kll klt VC;have li:bw.length=kl.length:=by rw [<-rv.length,rs.length,ag]
  have at_:∀ (i:Nat) (v:Value),bw.toArray[i]?=some v->∃ c,v=.ref c/\(S.TK X.prog X.w).is s1.heap (kl.getD i []) c:=fun i v hv=>by
   have hv:bw[i]?=some v:=by rw [vI] at hv; exact hv
   have hi:i < kl.length:=by have:=(List.getElem?_eq_some_iff.mp hv).1; lia
   have hd:(kl.map tk)[i]?=some (tk (kl.getD i [])):=by rw [aX,az,ai hi]; rfl
   obtain⟨vv,h1,h2⟩:=rs.get hd;obtain⟨uu,h3,h4⟩:=rv.get h1;rw [hv] at h3;cases h3;obtain⟨c,rfl,hb⟩:=ue h2;cases h4;exact⟨c,rfl,sT I1.inv.cz hb⟩
  refine S.UH (I1.inv.ok.hd hc) hu hL (fun i=>kl.getD i []) (by rw [aR,li]; lia) at_ fun h' W8 ks S' hp kp=>?_;rw [(show jr pos (bL [] X.env)=[] from rfl)];refine aj ?_;obtain⟨o,es,ep,t,ho,hex,hd,O,tf,hld,ZG,M⟩:=S';have hp:ks.Perm (kl.foldl S.ou []):=by
   rw [aR,li,mE] at hp; exact hp
  obtain⟨dn,dm⟩:=Qw kl [] cY;have VB:∀ k,k∈ks↔k∈kl:=fun k=>(hp.mem_iff.trans (dm k)).trans ⟨fun z=>z.elim (fun q=>by cases q) id,.inr⟩;have pn:t.plain=true:=ZG fun k hk=>by
   obtain⟨y,_,rfl⟩:=klt k ((VB k).mp hk);intro x hx;rcases List.mem_cons.mp hx with e | hx
   ·exact⟨_,e⟩
   ·exact⟨_,List.mem_singleton.mp hx⟩
  have Yz:t.fits es.size=true:=by unfold SetTable.fits GB; rw [O.sz,O.dm]; have:=O.nH; have:=O.sz; simp; lia
  obtain⟨mk,pl,dmm,fg,ld,mv,pln⟩:=t;have e1:ld=!S.GR X.w:=hld;have e2:pln=true:=pn;subst e1 e2;have W:S.Wk X.w o es ep mk pl dmm fg mv:=⟨hex,hd,Yz,O.sz,O.up⟩;obtain⟨X3,M2,pk2⟩:=M.perm (es':=S.ord X.w s1.heap.objs.size ep es) (S.EM ..);obtain⟨m,rfl⟩:=TZ X3 fun k hk=>by
   obtain⟨y,_,e⟩:=klt k ((VB k).mp (pk2.mem_iff.mp hk));exact⟨y,e⟩
  have nd2:(m.map Ct).Nodup:=pk2.nodup_iff.mpr (hp.nodup_iff.mpr dn);have nd:m.Nodup:=by
   rw [jz,eI] at nd2;exact List.nodup_iff_pairwise_ne.mpr (nd2.imp fun {x y} h e=>h (by rw [e]))
  have mm:∀ y,y∈m↔y∈tl:=fun y=>by
   rw [<-VC y,<-VB,<-pk2.mem_iff];exact⟨bq,fun h=>by obtain⟨z,hz,e⟩:=List.mem_map.mp h; rw [<-Cs e]; exact hz⟩
  have X4:∀ b u,s1.heap.get? b=some u->h'.get? b=some u:=fun b u e=>kp b u (aL e) e;have I3:=I1.inv.kept (t':=W8) X4;have I4:=I1.mv I3 (.refl I1.ab);have ml:m.length=es.size:=by have:=M2.1; rw [ag,S.oz] at this; exact this
  have at2:∀ (i:Nat) (e:Int×Value) (y:T2),(S.ord X.w s1.heap.objs.size ep es)[i]?=some e->m[i]?=some y->∃ b,e.2=.ref b/\cB X.K H1 (.ref b) (Enc.enc y):=fun i e y he hy=>by
   obtain⟨k,b,q1,q2,q3,_,_,q5⟩:=M2.2 i e he;have ek:k=Ct y:=by
    rw [aX,hy] at q1;exact(bu q1).symm
   subst ek;refine⟨b,q2,?_⟩;obtain⟨j,hj,ej⟩:=e8 q5;have hj:j < bw.length:=hj;have hj1:bw[j]?=some (.ref b):=by rw [ai hj]; exact congrArg some ej
   have hj2:j < kl.length:=by lia
   have hdj:(kl.map tk)[j]?=some (tk (kl.getD j [])):=by rw [aX,az,ai hj2]; rfl
   obtain⟨vv,h1,h2⟩:=rs.get hdj;obtain⟨uu,h3,h4⟩:=rv.get h1;rw [hj1] at h3;cases h3;obtain⟨c,rfl,hb⟩:=ue h2;cases h4;have i1:=S.KH (sT I1.inv.cz hb) fun o e=>X4 _ o e;rw [S.Ip i1 q3] at h2;exact h2
  refine jc (HE hc hu I4.inv I4.ab (S.UI W) ho (vs:=(S.ord X.w s1.heap.objs.size ep es).toList.map fun e=>vOf e.2) (zs:=m.map Enc.enc) (by rw [ag,bp,S.oz]) (fun i u hi hP=>?_) (CH _ _ ?_ fun i v z hv PK=>?_) (bY.wN T2) (fun z PK=>?_) (by decide) ?_ ?_) (fun r s' ⟨v,H2,d,G2,I2,m2,r2,xH,q2⟩=>⟨v,H2,d,G2,I2,m1.trans m2,r2,xH,q2⟩) fun _ _ z=>z
  ·obtain⟨e,he,rfl⟩:=hP;have Mr:i < m.length:=by rw [ag,bp,S.oz] at hi; lia
   obtain⟨b,e1,_⟩:=at2 i e m[i] he (ai Mr);have:(S.ord X.w s1.heap.objs.size ep es).toList[i]'(by rw [ag] at hi; exact hi)=e:=by
    rw [<-cq] at he;exact(List.getElem?_eq_some_iff.mp he).2
   rw [j4,this,e1];rfl
  ·rw [ag,ag,bp,S.oz,ml]
  ·rw [aX] at hv PK;obtain⟨e,he,rfl⟩:=Option.map_eq_some_iff.mp hv;obtain⟨y,hy,rfl⟩:=Option.map_eq_some_iff.mp PK;rw [cq] at he;obtain⟨b,e1,e2⟩:=at2 i e y he hy;rw [e1];exact e2
  ·obtain⟨y,_,rfl⟩:=List.mem_map.mp PK;exact bY.ID y
  ·rw [ag];exact pZ (List.Nodup.length_le_of_subset nd fun y hy=>(mm y).mp hy) hlen
  ·rw [Bc];exact q m nd mm
 ·exact q1.elim
end
end K2
end
section
namespace L2
open PySem PySem.Spec PyProof.Rows
section
variable {prog:bE} {w:World} {A:c8} {E:Value->ar->Prop} {s:ar}
theorem Au (d:Addr) (ns:(d == eu)=false):MeetsIn prog w (Builtin.«dict.values» ⟨[.ref d],[]⟩) (fun _ R s=>s.TypeIs (.ref d) "dict"/\R (.ok (.ret (.ref s.heap.objs.size))) { s with heap:=s.heap.push { cls:=.type "dict_values",data:=.fields #[.ref d] } }):=by
 refine .of_wp ?_;rintro A R s ⟨ty,h⟩;refine ae (m:=GL _ _) ?_;unfold GL;refine ae (x5 ty (show wpAny _ _ (pure d) _ _ s from aj ?_));show wpAny _ _ (ib d >>= _) _ _ s;unfold ib;rw [if_neg (fun z=>by rw [ns] at z; cases z)];exact ae (aj (ae (cD (aj ⟨_,rfl,h⟩))))
variable {v d it:Addr} {od:Obj} {es:Array gK} {ep i:Nat}
theorem Ho{Q:Value->ar->Prop}(hv:s.heap.IsValuesView v d)(w6:s.heap.get? d=some od)(dd:od.data=.dict es ep)
  (hQ:Q (.ref s.heap.objs.size) { s with heap:=s.heap.push { cls:=.type "dict_valueiterator",data:=.fields #[.ref d,.int 0 0,.int es.size 0,.int ep 0] } }):wpAny (model prog w) A (wH (.ref v)) Q E s:=by
 obtain⟨ov,hov,hcv,hdv⟩:=id hv;refine ie hv.typeIs RH (cI RH hv.typeIs F.entry_dict_values_iter ?_ (F.args_dict_values_iter_1 _));unfold Builtin.«dict_values.__iter__» Builtin.Dict_items.dictOf;refine ae (aj (ae (ae (NH hov hdv (x:=.ref d) rfl (aj (ae ?_))))));unfold Builtin.Dict_items.newIterator;refine ae (dZ w6 dd (ae (ig w6 dd ?_)));have OZ:e6 "dict_valueiterator" = false:=by decide
 simp only [OZ,aQ,if_false];exact cD (aj ⟨_,rfl,"dict_valueiterator",_,⟨_,aT _ rfl,rfl⟩,F.slot_dict_valueiterator_next.lookup,by simpa [ma] using hQ⟩)
theorem Lz{Q:Option Value->ar->Prop}(hit:s.heap.IsValIter it d i es.size ep)(w6:s.heap.get? d=some od)(dd:od.data=.dict es ep)(hi:i < es.size)
  (hQ:∀ h',h'.IsValIter it d (i+1) es.size ep->fM it s.heap h'->Q (some es[i].val) { s with heap:=h' }):wpAny (model prog w) A (nh (.ref it)) Q E s:=by
 obtain⟨o,ho,hc,hd⟩:=id hit;have ty:=hit.typeIs;unfold nh;refine ae (pS (eY (name:=mR "__next__") ty iB (cI iB ty Ed ?_ (D5 _))));refine ae (aj (ae (ae ?_)))
 first | refine ae (iU ty (aj (ae (jd ho hd ?_)))) | refine ae (lD ty (aj (ae (jd ho hd ?_))))
 have OZ:e6 "dict_valueiterator" = false:=by decide
 rw [OZ];show wpAny _ _ (if (eE d == dG)=true then _ else _) _ _ s;rw [if_neg (fun z=>by cases z)];refine ae (aj (ae (dZ w6 dd ?_)));rw [if_neg (by simp)];refine ae (aj (ae (ig w6 dd ?_)));rw [if_neg (by simp)];refine aj ?_;dsimp only;rw [if_neg (show ¬ ((i:Int) < 0) from Int.not_lt.mpr (lh i)),aS,a8 hi];dsimp only;refine ae ?_
 first | refine ae (iU ty (aj (ae (oq ty ?_)))) | refine ae (lD ty (aj (ae (oq ty ?_))))
 show wpAny _ _ (Nc (.ref it) 1 (ma ((i:Int)+1)) >>= _) _ _ s;refine ae (kN ho hd (by simp) ?_);have st:(s.heap.update it (lg (·.setIfInBounds 1 (ma ((i:Int)+1))))).IsValIter it d (i+1) es.size ep:=⟨_,df _ ho (mT (eA hd _)),(rR ..).trans hc,by rw [eA hd]; simp [ma]⟩;have sb:fM it s.heap (s.heap.update it (lg (·.setIfInBounds 1 (ma ((i:Int)+1))))):=cu ..;generalize s.heap.update it (lg (·.setIfInBounds 1 (ma ((i:Int)+1))))=h1 at st sb;have ty1:Shared.TypeIs { s with heap:=h1 } (.ref it) "dict_valueiterator":=st.typeIs (s:={ s with heap:=h1 });refine ae (cX (ae (oq ty1 (ae (oq ty1 ?_)))));show wpAny _ _ (pure es[i].val) _ _ _;exact aj (aj ⟨_,rfl,aj (hQ _ st sb)⟩)
theorem N9{Q:Option Value->ar->Prop}(calm:A.handled=none)(hit:s.heap.IsValIter it d i es.size ep)(w6:s.heap.get? d=some od)(dd:od.data=.dict es ep)(hi:es.size<=i)
  (hQ:∀ h',Heap.ExtBut it s.heap h'->Q none { s with heap:=h' }):wpAny (model prog w) A (nh (.ref it)) Q E s:=by
 obtain⟨o,ho,hc,hd⟩:=id hit;have ty:=hit.typeIs;unfold nh;refine ae (pS (eY (name:=mR "__next__") ty iB (cI iB ty Ed ?_ (D5 _))));refine ae (aj (ae (ae ?_)))
 first | refine ae (iU ty (aj (ae (jd ho hd ?_)))) | refine ae (lD ty (aj (ae (jd ho hd ?_))))
 have OZ:e6 "dict_valueiterator" = false:=by decide
 rw [OZ];show wpAny _ _ (if (eE d == dG)=true then _ else _) _ _ s;rw [if_neg (fun z=>by cases z)];refine ae (aj (ae (dZ w6 dd ?_)));rw [if_neg (by simp)];refine ae (aj (ae (ig w6 dd ?_)));rw [if_neg (by simp)];refine aj ?_;dsimp only;rw [if_neg (show ¬ ((i:Int) < 0) from Int.not_lt.mpr (lh i)),aS,fX hi];dsimp only;refine ae ?_
 first | refine ae (iU ty (aj (?_))) | refine ae (lD ty (aj (?_)))
 show wpAny _ _ (Nc (.ref it) 0 .none >>= _) _ _ s;refine ae (kN ho hd (by simp) (show wpAny _ _ (newExc (.type "StopIteration") [] >>= _) _ _ _ from ae ?_));simp only [newExc,newTuple];refine ae (cD (ae (m:=og _ _) (qc (a:=dG) (by first | rfl | (simp only [og]; rfl)) (cD ?_ (by size_fits)))) (by size_fits));simp only [raiseNew];refine ae (wpAny_handled ?_);rw [show A.in1.handled=none from calm];refine ae (aj (wpAny_throw ?_));refine ae (oT (T:="StopIteration") (b:=true) ⟨_,aT _ rfl,rfl⟩ Rt (?_));exact aj (hQ _ (((cu ..).extBut.push _).push _))
theorem MN:entryFor table "dict_valueiterator.__iter__" = some Builtin.«dict_keyiterator.__iter__»:=AX (id':="dict_keyiterator.__iter__") (by kernel_rfl) rfl (by decide +kernel) (by kernel_rfl)
theorem Hl(hh:A.handled=none)(j8:d≠it)(dd:od.data=.dict es ep) :
  Rv prog w A it [it,d] [it] es.size (fun i v=>∃ h:i < es.size,v=es[i].val) (fun i h=>h.IsValIter it d i es.size ep/\h.get? d=some od) where
 sub:=fun b hb=>by simp at hb; simp [hb]
 frame:=fun i h h' st hk=>⟨let ⟨o,e,r⟩:=st.1; ⟨o,hk it (by simp) o e,r⟩,hk d (by simp) od st.2⟩
 item:=fun i s Q E hi st hQ=>Lz st.1 st.2 dd hi fun h' xj sb=>hQ _ h' s.toks ⟨hi,rfl⟩ ⟨xj,(sb.2 d j8).trans st.2⟩ fun b o hb e=>(sb.2 b (by simpa using hb)).trans e
 done:=fun s Q E st hQ=>N9 hh st.1 st.2 dd (aC _) fun h' eb=>hQ h' s.toks fun b o hb e=>eb b o (by simpa using hb) e
 self:=fun i s Q E st hQ=>by
  refine ie st.1.typeIs GH (cI GH st.1.typeIs MN ?_ (F.args_dict_valueiterator_iter_1 _));show wpAny _ _ (ret (.ref it)) _ _ s;exact aj ⟨_,rfl,"dict_valueiterator",_,st.1.typeIs,F.slot_dict_valueiterator_next.lookup,hQ⟩
theorem Ot (dd:od.data=.dict es ep):vC prog w "dict_values" v d es.size (fun i v=>∃ h:i < es.size,v=es[i].val) (fun h=>h.IsValuesView v d/\h.get? d=some od) where
 type:=fun s cz=>cz.1.typeIs
 there:=fun h cz=>⟨let ⟨_,ho,_⟩:=cz.1; aL ho,aL cz.2⟩
 keep:=fun h h' cz hk=>⟨let ⟨o,ho,x⟩:=cz.1; ⟨o,hk v (.inl rfl) o ho,x⟩,hk d (.inr rfl) od cz.2⟩
 notList:=by decide
 notTuple:=by decide
 hint:=fun A E s Q cz hq=>PySem.W.kdl_hint_values cz.1.typeIs hq
 iter:=fun A s hh cz=>⟨_,_,(fun E Q hq=>Ho cz.1 cz.2 dd hq),Hl hh (bB (aL cz.2)) dd,⟨⟨_,aT _ rfl,rfl,rfl⟩,aE _ cz.2⟩⟩
end
end L2
namespace K2
open PySem PySem.Spec PyProof.Rows L2 PySem.W
section
variable {X:Cx} {o:Expr} {to:fC} {apos jq pos p:Pos}
theorem Xm{pins:List (Addr×Obj)}{σ:L2.St}{H:Hp}{s:ar}{x:V}{l:List (T2×T2)}(I:Inv X pins σ H s)(r:cB X.K H x (.kh (bD l))) :
  ∃ (a:Addr) (od:Obj) (es:Array gK) (ep:Nat) (ks vs:List V),x=.ref a/\(a == eu)=false/\s.heap.get? a=some od/\od.ExactDict/\od.data=.dict es ep/\l.length=es.size /\
   bh X.K H ks (l.map fun q=>Enc.enc q.1)/\bh X.K H vs (l.map fun q=>Enc.enc q.2)/\∀ i (h:i < es.size),∃ k v,ks[i]?=some k/\vs[i]?=some v/\RelV k es[i].key/\RelV v es[i].val:=by
 have k1:(bD l).map (·.1)=l.map fun q=>Enc.enc q.1:=by unfold bD; rw [bA]; rfl
 have k2:(bD l).map (·.2)=l.map fun q=>Enc.enc q.2:=by unfold bD; rw [bA]; rfl
 have k3:(bD l).length=l.length:=by unfold bD; rw [ag]
 have k4:∀ q∈bD l,lr q.1=true:=fun q hq=>by unfold bD at hq; obtain⟨y,_,rfl⟩:=List.mem_map.mp hq; rfl
 rw [<-k1,<-k2,<-k3];generalize bD l=kvs at r k4;cases r with
 | nV hq rs =>
  rename_i a o kv;cases rs with
  | nil =>
   obtain⟨z,ns,vs,rel,ob,es,ep,ho,ex,dd,ZI,hp,nd⟩:=(I.cz a _ hq).2;have l1:es.size=vs.length:=by simpa using hp.length
   have l2:([]:List (Key×V)).length=vs.length:=fG rel;have l3:es.size=0:=by rw [l1,<-l2]; rfl
   exact⟨a,ob,es,ep,[],[],rfl,ns,ho,ex,dd,by rw [l3]; rfl,.nil,.nil,fun i h=>by lia⟩
  | @cons j _ _ _ _ _ _ =>
   have:=k4 _ aB;cases j <;> simp [dI,lr] at this
 | nU hq rs =>
  rename_i a o kv;obtain⟨z,ns,xs,rel,ob,es,ep,ho,ex,dd,hl,nd⟩:=(I.cz a _ hq).2;have l1:=congrArg cV hl;rw [ag,bp] at l1;have l2:kv.length=xs.length:=fG rel;have l3:=rs.len;refine⟨a,ob,es,ep,xs.map fun q=>V.ref q.2.1,kv.map (·.2),rfl,ns,ho,ex,dd,by lia,?_,?_,fun i hi=>?_⟩
  ·rw [rs.keys];have:∀ (kv:List (List Key×V)) (xs:List (List Key×Addr×Value)),KT H kv xs->bh X.K H (xs.map fun q=>V.ref q.2.1) (kv.map fun p=>D.tup (p.1.map dI)):=by
    intro kv xs r;induction r with
    | nil=>exact .nil
    | cons h _ ih=>exact .cons (.tup h.2.1 (rz _)) ih
   exact this kv xs rel
  ·refine CH _ _ (by rw [ag,ag,l3]) fun i v z hv hz=>?_;rw [aX] at hv hz;obtain⟨q,Rj,rfl⟩:=Option.map_eq_some_iff.mp hz;obtain⟨p,Yk,_,rp⟩:=rs.item Rj;rw [Yk] at hv;cases hv;exact rp
  ·have i2:i < xs.length:=by lia
   have i3:i < kv.length:=by lia
   have ee:es[i]=zZ (dv (bX X.prog X.w)) xs[i]:=by
    have:=congrArg (fun l=>l[i]?) hl;simp only [aX,ai i2] at this;simpa [hi] using this
   refine⟨_,_,by rw [aX,ai i2]; rfl,by rw [aX,ai i3]; rfl,?_⟩;rw [ee];exact⟨rfl,(wb rel i i3 i2).2.2⟩
theorem QM:dR "list" = some (.type "list"):=by first | rfl | decide +kernel
theorem L4 (hc:X.calm=true) (hg:Gl X "list") (hm:X.mg "list" = none) (ho:gf X o to) (Ft:vS o "values" X.env (eval o X.env)=eval o X.env:=by rfl) (Fq:(apos.endLine == jq.line)=true:=by rfl)
  (hs:bL [.Call (.Attribute o "values" apos) [] [] jq] X.env=(false,eval (.Call (.Attribute o "values" apos) [] [] jq) X.env) :: bL [] X.env:=by rfl) (BH:(jr pos (bL [] X.env)).any (·.1)=false:=by rfl) :
  gf X (.Call (.Name "list" p) [.Call (.Attribute o "values" apos) [] [] jq] [] pos) (Jf to):=by
 intro E pins s σ H τ G Q hE I h;refine fK (lq I.inv hg hm QM (du ?_ hs BH));rw [hs];show wpAny _ _ (NK ((false,eval (.Call (.Attribute o "values" apos) [] [] jq) X.env) :: jr pos (bL [] X.env))) _ _ s;refine kO ?_;refine wpAny_Call_method0_late Ft Fq (j5 ho hE I h fun x H1 d G1 v s1 I1 m1 r1 iT q1=>?_);obtain⟨l,rfl,hn,q⟩:=q1;obtain⟨t1,t2⟩:=yh pins s1 σ H1 G1 x _ v I1.inv I1.ab r1 iT trivial;obtain⟨a,od,es,ep,ks,vs,rfl,ns,w6,ex,dd,hl,rk,rv,WI⟩:=Xm I1.inv iT;cases r1;refine⟨"dict","dict.values",qj,GC,PySem.F.type_dict_values,t1,t2,sL rfl (Ru ?_)⟩;refine call_meetsIn GC t1 PySem.F.entry_dict_values (PySem.F.args_dict_values_1 _) (Au a ns) ⟨t1,?_⟩;have I2:Inv X pins σ H1 { s1 with heap:=s1.heap.push { cls:=.type "dict_values",data:=.fields #[.ref a] } }:=I1.inv.kept (t':=s1.toks) fun b o e=>aE _ e;rw [(show jr pos (bL [] X.env)=[] from rfl)];refine aj ?_;have vl:=rv.length;rw [ag] at vl;refine jc (yT (T:="dict_values") hc I2 I1.ab (Ot dd) ⟨⟨_,aT _ rfl,rfl,rfl⟩,aE _ w6⟩ (vs:=vs) (zs:=l.map fun q=>Enc.enc q.2) (by lia) (fun i u hi hP=>?_) rv (by lia) q) (fun r s' ⟨v,H2,d,G2,I2,m2,r2,xH,q2⟩=>⟨v,H2,d,G2,I2,m1.trans m2,r2,xH,q2⟩) fun _ _ z=>z;obtain⟨Mr,rfl⟩:=hP;obtain⟨k,v,_,h2,_,h4⟩:=WI i Mr;rw [ai hi] at h2;cases h2;exact h4
end
end K2
end
section
namespace L2
open PySem PySem.Spec PyProof.Rows
section
variable {prog:bE} {w:World} {A:c8} {E:Value->ar->Prop} {s:ar}
noncomputable abbrev SX(prog:bE)(w:World)(k:List Key):Int:=(dv (bX prog w)).hash k
theorem Oy{d a:Addr}{xs:List (List Key×Addr×Value)}{k:List Key}{v:Value}{Q:Unit->ar->Prop}(hu:A.units < cLine)(Ys:(dv (bX prog w)).is s.heap k a)(hm:s.heap.DictOfH (dv (bX prog w)) d xs)(new:k∉xs.map (·.1))(hz:xs.length<=bo)
  (hQ:∀ h',h'.DictOfH (dv (bX prog w)) d (xs++[(k,a,v)])->fM d s.heap h'->Q () { s with heap:=h' }):wpAny (model prog w) A (Ea d (.ref a) (SX prog w k) v) Q E s:=by
 obtain⟨o,es,ep,ho,hc,hd,he,his,hn⟩:=hm;have e0:=NL he;unfold Ea
 try with_reducible refine cX ?_
 refine ae (wpAny_dictFind_heap hu Ys ho hd he his hn (fun VQ=>?_) fun j p hj=>absurd (bq (eV hj)) new);refine ae (wpAny_rule (wpAny_updateDictKeys (hz:=by lia) ho hd (hQ _ ⟨_,_,ep+1,df _ ho (Obj.isFreed_of_dict (oh hd _)),hc.mapDictKeys _,oh hd _,by simp [he,zZ,SX],fun x hx=>?_,?_⟩ (cu ..))))
 ·rcases List.mem_append.mp hx with hx | hx
  ·exact(dv (bX prog w)).keeps (his x hx) ho hd (cu ..)
  ·rw [List.mem_singleton.mp hx];exact(dv (bX prog w)).keeps Ys ho hd (cu ..)
 ·rw [aA,cj];refine⟨hn,by simp,fun x hx y hy e=>?_⟩;rw [av,bc,pU] at hy;have hy:y=k:=hy;exact new (by rw [<-hy,<-e]; exact hx)
theorem LV {a:Addr} {Q:Bool->ar->Prop} (ty:s.TypeIs (.ref a) "tuple") (h:Q false s):wpAny (model prog w) A (Ee (.ref a)) Q E s:=by
 unfold Ee;refine ae (x4 ty F.slot_tuple_eq.lookup (aj ?_));exact h
theorem Qe{es:List gK}(nd:(es.map (·.hash)).Nodup)(e:gK):(es.filter fun x=>x.hash == e.hash).length<=1:=by
 induction es with
 | nil=>exact cb _
 | cons x es ih =>
  rw [av,cF] at nd;by_cases c:x.hash=e.hash
  ·rw [fL (by simp [c])];have:es.filter (fun y=>y.hash == e.hash)=[]:=by
    rw [NV];intro y hy z;have z:y.hash=e.hash:=by simpa using z
    exact nd.1 (by rw [c,<-z]; exact bq hy)
   rw [this]; exact aC _
  ·rw [ia (by simp [c])]; exact ih nd.2
theorem AG {id:String} {o:Addr} {oo:Obj} {es:Array gK} {ep:Nat} {Q:Array gK->ar->Prop} (ho:s.heap.get? o=some oo) (hd:oo.data=.dict es ep) (ht:∀ e∈es.toList,∃ a,e.key=.ref a/\s.TypeIs (.ref a) "tuple") (nd:(es.toList.map (·.hash)).Nodup) (h:Q es s) :
  wpAny (model prog w) A (xi id o) Q E s:=by
 unfold xi;refine ae (dZ ho hd ?_);refine ae ?_;rw [<-yc];refine iW _ (fun rest _ s'=>s'=s/\∀ e∈rest,∃ a,e.key=.ref a/\s.TypeIs (.ref a) "tuple") _ ?_ ?_ _ _ ⟨rfl,ht⟩
 ·rintro e rest r s' ⟨rfl,sW⟩;obtain⟨a,ek,ty⟩:=sW e aB;have one:¬ (es.filter fun x=>x.hash == e.hash).size > 1:=by
   have:=Qe nd e;rw [<-bp,RJ]; lia
  rw [ek];refine ae (LV ty ?_);rw [if_pos (show (!false)=true from rfl),if_neg one];exact aj ⟨rfl,fun x hx=>sW x (ao _ hx)⟩
 ·rintro r s' ⟨rfl,_⟩;exact aj h
theorem Sw{nm:String}{d o:Addr}{xs ys:List (List Key×Addr×Value)}{Q:Unit->ar->Prop}(hu:A.units < cLine)(YB:d≠o)(ns:(o == eu)=false)(hd:s.heap.DictOfH (dv (bX prog w)) d xs)(ho:s.heap.DictOfH (dv (bX prog w)) o ys)
  (nd:((xs++ys).map (·.1)).Nodup) (hh:xs=[]->(ys.map fun y=>SX prog w y.1).Nodup) (hz:xs.length+ys.length<=1000)
  (hQ:∀ h',h'.DictOfH (dv (bX prog w)) d (xs++ys)->fM d s.heap h'->Q () { s with heap:=h' }):wpAny (model prog w) A (Ce nm d o) Q E s:=by
 obtain⟨od,esd,epd,w6,GQ,WH,hed,Nt,hnd⟩:=id hd;obtain⟨oo,Nw,epo,Yn,hco,Mt,Nu,hio,VQ⟩:=id ho;have zd:=NL hed;have zo:=NL Nu;have Cu:=cx;unfold Ce ib;rw [if_neg (by simpa using YB),if_neg (by rw [ns]; exact eT)];refine ae (aj (ae (dZ Yn Mt ?_)));have loop:wpAny (model prog w) A (do
   let YW ← dictEpoch o
   for i in [0:(← dictEntries o).size] do
    let some e:=(← dictEntries o)[i]? | NJ "internal:dict-merge"
    GY [e.key,e.val] (Ea d e.key e.hash e.val)
    if (← dictEpoch o) != YW then NJ s!"{nm}:source-changed-during-callback") Q E s:=by
  refine ae (ig Yn Mt (ae (dZ Yn Mt ?_)));rw [Std.Legacy.Range.forIn_eq_forIn_range'];simp only [Std.Legacy.Range.size,Nat.sub_zero,Nat.add_sub_cancel,Nat.div_one];refine ae (iW _ (fun rest _ s'=>∃ h' i,s'={ s with heap:=h' }/\rest=List.range' i (Nw.size - i)/\i<=Nw.size/\h'.DictOfH (dv (bX prog w)) d (xs++ys.take i)/\fM d s.heap h') _ ?_ ?_ _ _ ⟨s.heap,0,rfl,by simp,cb _,by rw [List.take_zero,bU]; exact hd,vK _ _⟩)
  ·rintro x rest b s' ⟨h',i,rfl,hr,hi,xS,KO⟩;have lt:i < Nw.size:=by
    apply cg;intro z;rw [Nat.sub_eq_zero_of_le (by lia)] at hr;cases hr
   rw [show Nw.size - i=(Nw.size - (i+1))+1 by lia,List.range'_succ] at hr;injection hr with h1 hr2
   subst h1;have lx:x < ys.length:=by lia
   have Ym:h'.get? o=some oo:=(KO.2 o (cW YB)).trans Yn;have ex:Nw[x]?=some (zZ (dv (bX prog w)) ys[x]):=by rw [entry_at Nu x,ai lx]; rfl
   refine ae (dZ (s:={ s with heap:=h' }) Ym Mt ?_);rw [ex];show wpAny _ _ (GY [eE ys[x].2.1,ys[x].2.2] (Ea d (.ref ys[x].2.1) (SX prog w ys[x].1) ys[x].2.2) >>= _) _ _ _;have abr:(dv (bX prog w)).is h' ys[x].1 ys[x].2.1:=(dv (bX prog w)).keeps (hio _ (bP lx)) w6 WH KO;have new:ys[x].1∉(xs++ys.take x).map (·.1):=fun z=>by
    have e:xs++ys=(xs++ys.take x)++ys[x] :: ys.drop (x+1):=by rw [cK,tM,c9]
    rw [e,aA,cj] at nd;exact nd.2.2 _ z _ aB rfl
   refine ae (cX (Oy (s:={ s with heap:=h' }) hu abr xS new (by rw [aw,di]; lia) fun h2 hd2 zc=>?_));have abR:h2.get? o=some oo:=(zc.2 o (cW YB)).trans Ym;refine ae (ig (s:={ s with heap:=h2 }) abR Mt ?_);rw [if_neg (by simp)];refine aj ⟨h2,x+1,rfl,?_,lt,?_,KO.trans zc⟩
   ·exact hr2
   ·rw [List.take_add_one,ai lx,<-cK]; exact hd2
  ·rintro b s' ⟨h',i,rfl,hr,hi,xS,KO⟩;have Yv:i=Nw.size:=by
    apply cg;intro z;rw [show Nw.size - i=(Nw.size - (i+1))+1 by lia,List.range'_succ] at hr;cases hr
   refine aj (hQ h' ?_ KO);rw [Yv,zo,List.take_length] at xS; exact xS
 dsimp only;split
 ·refine ae (dZ w6 WH ?_);split
  ·rename_i acd;have xe:xs=[]:=by
    have h0:esd=#[]:=Array.isEmpty_iff.mp acd;rw [h0] at zd;exact List.length_eq_zero_iff.mp zd.symm
   have hth:∀ e∈Nw.toList,∃ a,e.key=.ref a/\s.TypeIs (.ref a) "tuple":=fun e he=>by
    rw [Nu] at he;obtain⟨y,hy,rfl⟩:=List.mem_map.mp he;exact⟨_,rfl,wJ (hio y hy)⟩
   have hhs:(Nw.toList.map (·.hash)).Nodup:=by
    rw [Nu,bA]; exact hh xe
   refine ae (AG Yn Mt hth hhs ?_);split
   ·refine ae (wpAny_updateDictKeysTo w6 WH (aj (hQ _ ⟨_,_,epd+1,df _ w6 (Obj.isFreed_of_dict (oh WH _)),GQ.mapDictKeys _,oh WH _,?_,fun y hy=>?_,nd⟩ (cu ..))) (by lia))
    ·rw [xe,aW]; exact Nu
    ·rw [xe,aW] at hy;exact(dv (bX prog w)).keeps (hio y hy) w6 WH (cu ..)
   ·rename_i j8;have h0:Nw=#[]:=Array.isEmpty_iff.mp (by simpa using j8);have y0:ys=[]:=by
     rw [h0] at zo;exact List.length_eq_zero_iff.mp zo.symm
    refine aj (hQ s.heap ?_ (vK _ _));rw [y0,bU]; exact hd
  ·exact loop
 ·exact loop
theorem Ie(d o:Addr)(YB:d≠o)(ns:(o == eu)=false):MeetsIn prog w (Builtin.«dict.update» ⟨[.ref d,.ref o],[]⟩) (fun A R s=>∃ xs ys,A.in1.units < cLine/\s.heap.DictOfH (dv (bX prog w)) d xs/\s.heap.DictOfH (dv (bX prog w)) o ys /\
  (((xs++ys).map (·.1)).Nodup/\(xs=[]->(ys.map fun y=>SX prog w y.1).Nodup)/\xs.length+ys.length<=1000)/\∀ h',h'.DictOfH (dv (bX prog w)) d (xs++ys)->fM d s.heap h'->R (.ok (.ret .none)) { s with heap:=h' }):=by
 refine .of_wp ?_;rintro A R s ⟨xs,ys,hu,hd,ho,⟨h1,h2,h3⟩,h⟩;unfold Builtin.«dict.update» Builtin.Dict.selfAndRest;refine ae (ae (x5 hd.typeIs (show wpAny _ _ (pure (d,[eE o])) _ _ s from aj ?_)));show wpAny _ _ (A2 "dict.update" d (.ref o) [] .none) _ _ s;unfold A2;refine ae (Ju ho.typeIs ?_);rw [if_neg (by decide)];refine ae ?_;unfold Builtin.Dict.merge Builtin.Dict.readDirectly;refine ae (ae (oT ho.typeIs PySem.F.sub_dict_dict ?_));simp only [cS,aQ,if_false];refine ae (x4 ho.typeIs F.slot_dict_iter.lookup (aj ?_));simp only [beq_self_eq_true,if_true];refine ae (aj (Sw hu YB ns hd ho h1 h2 h3 fun h' xS KO=>?_));show wpAny _ _ (Builtin.Dict.addKeywords d [] >>= _) _ _ _;exact ae (aj (aj ⟨.none,rfl,h h' xS KO⟩))
end
end L2
namespace K2
open PySem PySem.Spec PyProof.Rows L2 PySem.W
section
variable {X:Cx} {pins:List (Addr×Obj)} {σ:L2.St} {H:Hp} {s:ar} {G:Gp}
theorem UB{x y:List Key}(h:tk x=tk y):x=y:=by
 have e:=oG x y;have e2:=oG y y;rw [show D.tup (x.map dI)=D.tup (y.map dI) from h,e2] at e;exact of_decide_eq_true (e.symm.trans (decide_eq_true rfl))
theorem yO:∀ {a b:List (List Key)},a.map tk=b.map tk->a=b
 | [],[],_=>rfl
 | [],_ :: _,h=>by cases h
 | _ :: _,[],h=>by cases h
 | x :: a,y :: b,h=>by
  rw [av,av] at h;injection h with h1 h2
  rw [UB h1,yO h2]
theorem Fd{K:ah}{l:List (T2×T2)}{kv:List (List Key×V)}(rs:lB K H kv (bD l)):kv.map (·.1)=l.map fun p=>Ct p.1:=by
 have h:=rs.keys;have e1:(bD l).map (·.1)=(l.map fun p=>Ct p.1).map tk:=by unfold bD; rw [bA,bA]; rfl
 have e2:(kv.map fun p=>D.tup (p.1.map dI))=(kv.map (·.1)).map tk:=by rw [bA]; rfl
 rw [e1,e2] at h;exact(yO h).symm
theorem uK{kv:List (List Key×V)}{xs:List (List Key×Addr×Value)}(r:KT H kv xs):xs.map (·.1)=kv.map (·.1):=by
 induction r with
 | nil=>rfl
 | cons h _ ih=>rw [av,av,ih,h.1]
theorem Vz{kv kw:List (List Key×V)}{xs ys:List (List Key×Addr×Value)}(r:KT H kv xs)(q:KT H kw ys):KT H (kv++kw) (xs++ys):=by
 induction r with
 | nil=>exact q
 | cons h _ ih=>exact .cons h ih
theorem V6{K:ah}{kv kw:List (List Key×V)}{k1 k2:List (D×D)}(r:lB K H kv k1)(q:lB K H kw k2):lB K H (kv++kw) (k1++k2):=by
 induction r using lB.ind with
 | nil=>exact q
 | cons h _ ih=>exact .cons h ih
theorem Kn(l:List (T2×T2)):∀ q∈bD l,lr q.1=true:=fun q hq=>by unfold bD at hq; obtain⟨y,_,rfl⟩:=List.mem_map.mp hq; rfl
theorem V8{a:Addr}{l:List (T2×T2)}(I:Inv X pins σ H s)(ab:lC X.K H G)(hg:G a=some (.ja (bD l))) :
  ∃ H' kv,Inv X pins σ H' s/\Mv X.K H G H' G/\H' a=some (.dT kv)/\lB X.K H' kv (bD l):=by
 have ok:=Kn l;generalize bD l=kvs at hg ok;rcases ab a _ hg with ⟨kv,hv,rs⟩ | ⟨kv,hv,rs⟩
 ·cases rs with
  | nil=>exact⟨_,[],toT I hv,CW ab hg (.putD hv (.inl ⟨_,rfl⟩)) (.inr ⟨[],cJ,.nil⟩),cJ,.nil⟩
  | @cons j _ _ _ _ _ _ =>
   have:=ok _ aB;cases j <;> simp [dI,lr] at this
 ·exact⟨H,kv,I,.refl ab,hv,rs⟩
theorem Xg{x:V}{m:List (T2×T2)}(I:Inv X pins σ H s)(r:cB X.K H x (.kh (bD m))) :
  ∃ b kw ys,x=.ref b/\(b == eu)=false/\(∃ o u,H b=some (.mP o u))/\lB X.K H kw (bD m)/\KT H kw ys/\s.heap.DictOfH (dv (bX X.prog X.w)) b ys:=by
 have ok:=Kn m;generalize bD m=kvs at r ok;cases r with
 | nV hq rs =>
  rename_i b o kv;cases rs with
  | nil =>
   obtain⟨z,ns,vs,rel,ob,es,ep,ho,ex,dd,ZI,hp,nd⟩:=(I.cz b _ hq).2;cases rel;have he:es.toList=[]:=List.length_eq_zero_iff.mp hp.length;exact⟨b,[],[],rfl,ns,⟨_,_,hq⟩,.nil,.nil,ob,es,ep,ho,ex,dd,he,(fun _ z=>by cases z),cY⟩
  | @cons j _ _ _ _ _ _ =>
   have:=ok _ aB;cases j <;> simp [dI,lr] at this
 | nU hq rs =>
  rename_i b o kv;obtain⟨z,ns,ys,rel,dd⟩:=w9 I.cz (.inr ⟨_,hq⟩);exact⟨b,kv,ys,rfl,ns,⟨_,_,hq⟩,rs,rel,dd⟩
theorem Pa (hu:X.A.units+64 < cLine):QY X "dict.update" Pc:=by
 intro pins s σ H G x d xs ds v us Q I ab rx rd UR Aq q;unfold Pc at q;split at q
 ·rename_i a y;obtain⟨l,m,hg,rfl,⟨hz,nd,hh⟩,q⟩:=q;cases rd;obtain⟨w1,rfl,CC⟩:=Aq.one;obtain⟨u,rfl,ru⟩:=UR.one;cases rx;obtain⟨H',kv,I',mv,hv,rs⟩:=V8 I ab hg;obtain⟨b,kw,ys,rfl,nb,⟨ob,ub,hb⟩,Zt,OG,ddb⟩:=Xg I' (CC.mono (mv.kp ab));cases ru;obtain⟨z,na,zs,rel,dda⟩:=Qq I'.cz hv;have ne:a≠b:=fun e=>by rw [<-e,hv] at hb; cases hb
  have k1:(zs++ys).map (·.1)=(l++m).map fun p=>Ct p.1:=by rw [aA,aA,uK rel,uK OG,Fd rs,Fd Zt]
  have nd':((zs++ys).map (·.1)).Nodup:=by
   rw [k1];have:((l++m).map fun p=>Ct p.1)=((l++m).map (·.1)).map Ct:=by rw [bA]; rfl
   rw [this,jz,eI];exact(List.nodup_iff_pairwise_ne.mp nd).imp fun h e=>h (Cs e)
  have l1:zs.length=l.length:=by have:=congrArg cV ((uK rel).trans (Fd rs)); simpa using this
  have l2:ys.length=m.length:=by have:=congrArg cV ((uK OG).trans (Fd Zt)); simpa using this
  have hh':zs=[]->(ys.map fun y=>SX X.prog X.w y.1).Nodup:=fun e=>by
   have le:l=[]:=List.length_eq_zero_iff.mp (by rw [<-l1,e]; rfl);have:(ys.map fun y=>SX X.prog X.w y.1)=m.map fun p=>h2 p.1:=by
    have e1:(ys.map fun y=>SX X.prog X.w y.1)=(ys.map (·.1)).map (SX X.prog X.w):=by rw [bA]; rfl
    rw [e1,uK OG,Fd Zt,bA]; rfl
   rw [this]; exact hh le
  have sz:bo=16777216:=cx;refine call_meetsIn GD dda.typeIs PySem.F.entry_dict_update (PySem.F.args_dict_update_2 _ _) (Ie a b ne nb) ⟨zs,ys,(by show X.A.units+1 < cLine; lia),dda,ddb,⟨nd',hh',by lia⟩,fun h' xS hs=>?_⟩;have kp:Kp H' (upd H' a (.dT (kv++kw))):=.putD hv (.inr ⟨_,rfl⟩);obtain⟨o',es',YX,p1,p2,p3,p4,_,p6⟩:=xS;have kl:(kv++kw).length<=bo:=by
   have e1:=fG rel;have e2:=fG OG;rw [aw,sz]; lia
  have e5:bD (l++m)=bD l++bD m:=by unfold bD; rw [aA]
  refine⟨.cL,_,.cL,_,Dv (t':=s.toks) I' (by rw [hv]; exact iD) hs ⟨_,p1⟩ (ob:=.dT (kv++kw)) ⟨kl,na,zs++ys,(Vz rel OG).keeps kp.tup,o',es',YX,p1,p2,p3,p4,p6⟩,mv.trans (.put mv.ab hg kp (.dt cJ ?_)),rfl,.cL,q⟩;rw [e5];exact(V6 rs Zt).mono kp
 ·exact q.elim
end
end K2
end
section
namespace K2
open PySem PySem.Spec PyProof.Rows L2
noncomputable def SJ:List Value->List Int->Bool
 | [],[]=>true
 | v :: vs,n :: ns=>Eb n v&&SJ vs ns
 | _,_=>false
noncomputable def A6(K:ah)(a:Addr)(ns:List Int):Bool:=match K.lookup a with
 | some o=>o.cls == .type "tuple" && (match o.data with | .seq bw _=>SJ bw.toList ns | _=>false)
 | none=>false
theorem BG:∀ (vs:List Value) (ns:List Int),SJ vs ns=true->Vals (ns.map V.int) vs
 | [],[],_=>.nil
 | [],_ :: _,h=>bH (show false=true from h)
 | _ :: _,[],h=>bH (show false=true from h)
 | v :: vs,n :: ns,h=>by
  have h:(Eb n v&&SJ vs ns)=true:=h;rw [aN] at h;rcases eB (k:=.inl n) h.1 with ⟨j,t,e,rfl⟩ | ⟨_,_,e,_⟩
  ·cases e;exact .cons ⟨t,rfl⟩ (BG vs ns h.2)
  ·cases e
theorem Uz{K:ah}{a:Addr}{ns:List Int}{h:Heap}(Y:K.In h)(e:A6 K a ns=true):∃ bw,Vals (ns.map V.int) bw/\h.IsTuple a bw.toArray:=by
 unfold A6 at e;cases hl:K.lookup a with
 | none=>rw [hl] at e; exact bH (show false=true from e)
 | some o =>
  rw [hl] at e;dsimp only at e;rw [aN] at e;obtain⟨e1,e2⟩:=e;obtain⟨c,dd,dt,sl⟩:=o;have f1:c=.type "tuple":=beq_iff_eq.mp e1;subst f1;cases dt with
  | seq bw m=>exact⟨bw.toList,BG _ _ e2,_,Y _ _ hl,rfl,m,by simp⟩
  | _=>exact bH (show false=true from e2)
theorem any_ints(i:Int):∀ ns:List Int,(ns.map D.int).any (ic · (.int i))=ns.contains i
 | []=>rfl
 | n :: ns=>by
  rw [av,k9,any_ints i ns,List.contains_cons];congr 1;show decide (n=i)=(i == n);rw [show (i == n)=decide (i=n) from rfl];by_cases z:n=i
  ·rw [z]
  ·rw [decide_eq_false z,decide_eq_false fun y=>z y.symm]
section
variable {X:Cx} {x:Str} {a:Addr} {ns:List Int} {e:Expr} {te:fC} {px pos:Pos}
theorem OQ (neg:Bool) (hu:X.A.units+64 < cLine) (hg:Gl X x) (hm:X.mg x=some (.ref a)) (hT:A6 X.K a ns=true) (ha:gf X e te) (Yo:vR (if neg then .NotIn else .In) (.Name x px)=false) (Mu:(x == ("__debug__" : Str))=false):Lp X (.Compare e [if neg then .NotIn else .In] [.Name x px] pos) (iI (Tc neg ns te)):=by
 intro E pins s σ H τ G Q hE I h;refine wpAny_isTrue_Compare1 (j5 ha hE I h fun z H1 dx G1 v s1 I1 m1 r1 iT q1=>C2 I1.inv hg hm ?_ Mu) Yo;obtain⟨i,rfl,q1⟩:=q1;obtain⟨bw,rv,hl⟩:=Uz I1.inv.KC hT;refine fZ (xR (y:=z) hu neg (ds:=ns.map D.int) (ss:=ns.map D.int) (t:=.int i) (Q:=fun w G2=>w=.bl (if neg then !ns.contains i else ns.contains i)/\G2=G1) I1.inv I1.ab r1 iT ⟨a,_,bw,rfl,rv,bh.CT ns,.inr hl⟩ (.int _) (sM (α:=Int) _ 7 (by decide) ns) ⟨by rw [any_ints],rfl⟩) ?_;rintro c s3 ⟨w,H3,dz,G3,I3,m3,r3,UY,q3⟩;obtain⟨rfl,rfl⟩:=q3;exact LF pins s3 σ H3 G3 w _ c _ _ I3 m3.ab r3 UY rfl fun s' I'=>⟨H3,G3,I',m1.trans m3,q1⟩
theorem OP (hu:X.A.units+64 < cLine) (hg:Gl X x) (hm:X.mg x=some (.ref a)) (hT:A6 X.K a ns=true) (ha:gf X e te) (Yo:autoParam (vR .NotIn (.Name x px)=false) Aw._auto_1) (Mu:(x == ("__debug__" : Str))=false:=by decide):Lp X (.Compare e [.NotIn] [.Name x px] pos) (iI (Tc true ns te)):=OQ true hu hg hm hT ha Yo Mu
end
end K2
end
section
namespace K2
open PySem PySem.Spec PyProof.Rows L2
section
variable {X:Cx} {pins:List (Addr×Obj)} {σ:L2.St} {H1 H':Hp} {s1 s':ar} {p:Addr} {u0:HO} {ob:Obj}
theorem Inv.W9{Wv : L2.St}(I1 : Inv X pins Wv H1 s1)(I' : Inv X pins σ H' s')(e1 : H1 p = some u0)(hu : Ji u0 = true)(e' : H' p = some (.mP ob u0)) : Inv X pins σ (upd H' p u0) s' where
  ok := I'.ok
  os := I'.os
  bare := I'.bare
  base := { keep := I'.base.keep, slot := I'.base.slot, there := I'.base.there
            free := fun b o q n hx => by
              have hb : b ≠ p := fun z => by have := I1.base.free b o q n hx; rw [z, e1] at this; cases this
              rw [bN hb]; exact I'.base.free b o q n hx
            vX := fun b xs q => by
              have hb : b ≠ p := fun z => by have := I1.base.vX b xs q; rw [z, e1] at this; cases this; cases hu
              rw [bN hb]; exact I'.base.vX b xs q
            uW := fun b o u q => by
              have hb : b ≠ p := fun z => by have := I1.base.uW b o u q; rw [z, e1] at this; cases this; cases hu
              rw [bN hb]; exact I'.base.uW b o u q
            vY := fun b ps q => by
              have hb : b ≠ p := fun z => by have e := I1.base.vY b ps q; rw [z, e1] at e; cases e; cases hu
              rw [bN hb]; exact I'.base.vY b ps q }
  loc := I'.loc
  cell := I'.cell
  free := by
    have hb : X.env.locals ≠ p := fun z => by have := I'.free; rw [z, e'] at this; cases this
    rw [bN hb]; exact I'.free
  mG := fun x c e => by
    have hb : c ≠ p := fun z => by have := I'.mG x c e; rw [z, e'] at this; cases this
    rw [bN hb]; exact I'.mG x c e
  pin := fun q hq => by
    obtain⟨h1, h2, h3⟩ := I'.pin q hq;have hb : q.1 ≠ p := fun z => by rw [z, e'] at h2; cases h2
    exact⟨h1, by rw [bN hb]; exact h2, h3⟩
  cz := fun a o q => by
    have st : ∀ u, gC X.prog X.w H' s'.heap a u -> gC X.prog X.w (upd H' p u0) s'.heap a u := fun u x =>
      x.mW (fun b v _ r => r) (fun b r => by
        have hb : b ≠ p := fun z => by rw [z, e'] at r; cases r
        rw [bN hb]; exact r) (fun b xs r => by
        have hb : b ≠ p := fun z => by rw [z, e'] at r; cases r
        rw [bN hb]; exact r)
    by_cases ha : a = p
    · subst ha
      rw [cJ] at q;cases q;exact st _ (I'.cz a _ e').2
    · rw [bN ha] at q
      exact st _ (I'.cz a _ q)
  len := I'.len
end
theorem LQ{K:ah}{H H2:Hp}{v:V}{d:D}(r:cB K H v d)(h:sP d=true):cB K H2 v d:=by
 cases r with
 | cL=>exact .cL
 | bl b=>exact .bl _
 | int i=>exact .int _
 | _=>exact absurd h (by simp [sP])
theorem yz{K:ah}{H H2:Hp}:∀ {vs:List V} {ds:List D},bh K H vs ds->(ds.all sP)=true->bh K H2 vs ds
 | _,_,.nil,_=>.nil
 | _,_,.cons r rs,h=>by
  rw [Ab,aN] at h;exact .cons (LQ r h.1) (yz rs h.2)
theorem OF{K:ah}{H:Hp}{p:Addr}{o:Obj}{u u0:HO}{v:V}{d:D}(ep:H p=some (.mP o u))(nl:∀ xs,u≠.lst xs)(r:cB K H v d)(h:FG d=true):cB K (upd H p u0) v d:=by
 cases r with
 | dJ sq rs =>
  refine .dJ ?_ (yz rs h);rcases sq with ⟨o2,e⟩ | e
  ·refine .inl ⟨o2,?_⟩;rename_i a vs ds;have:a≠p:=fun z=>by rw [z,ep] at e; cases e; exact nl _ rfl
   rw [bN this]; exact e
  ·exact .inr e
 | cL=>exact .cL
 | bl b=>exact .bl _
 | int i=>exact .int _
 | _=>exact absurd h (by simp [FG,sP])
section
variable {X:Cx} {e:Expr} {te:fC} {pos p0 p1 p2 p3:Pos} {x z y:Str} {i j k:Nat}
theorem OS(hp:PassesOwn (model X.prog X.w) X.A X.env X.xe)(hc:X.calm=true)(hN:X.N.Nodup)(hx:gf X (.Name x p0) (au i))(hz:X.N[j]?=some z)(hy:X.N[k]?=some y)(he:gf X e te)
  (IC:i≠j/\i≠k/\j≠k:=by decide)
  (lz:autoParam (Loc X.env.scope z) Ao._auto_1) (ly:autoParam (Loc X.env.scope y) Ao._auto_1)
  (Yd:D8 e (some (.Name y p2)) p3.line X.env=pure false:=by rfl)
  (fz:autoParam (X.fn z=true\/X.env.scope.names.lookup z=some .local) Ao._auto_1) (fy:autoParam (X.fn y=true\/X.env.scope.names.lookup y=some .local) Ao._auto_1)
  (hs:∀ v,j0 (.Name x p0) X.env v=pure v:=by intro _; rfl) :
  Lq X (.For (.Name z p1) (.Name x p0) [.Assign [.Name y p2] e p3] [] pos) (Ui i j k te):=by
 intro E pins s σ H τ G Dn hE I h;obtain⟨p,kvs,hi,ZJ,h⟩:=h;generalize hks:kvs.map (·.1)=ks at h;obtain⟨ni,nk,njk⟩:=IC;have iv:i < τ.length:=(List.getElem?_eq_some_iff.mp hi).1;obtain⟨vi,WE,rvi⟩:=I.st.at' i _ hi;have evi:vi=.ref p:=by cases rvi; rfl
 subst evi;have rep:cB X.K (lS s.heap (iZ (fun a=>a == p) G) H) (.ref p) (.kh kvs):=P0 I.inv I.ab (Fz.ja ZJ (by simp) (.same _)) (.ref p);have Zk:=Inv.freeze I.inv (iZ (fun a=>a == p) G);have kp0:Kp H (lS s.heap (iZ (fun a=>a == p) G) H):=uY;have hS:∀ a,a≠p->iZ (fun a=>a == p) G a=false:=fun a h=>by simp [iZ,h]
 have out:∀ a,a≠p->lS s.heap (iZ (fun a=>a == p) G) H a=H a:=fun a h=>uX (hS a h);obtain⟨u0,ob,e0,hc0,ef,nl⟩:∃ u0 ob,H p=some u0/\Ji u0=true/\lS s.heap (iZ (fun a=>a == p) G) H p=some (.mP ob u0)/\∀ xs,u0≠.lst xs:=by
  rcases I.ab p _ ZJ with ⟨kv,hv,rs⟩ | ⟨kv,hv,rs⟩
  ·obtain⟨ob,ho⟩:=K2.kn (I.inv.cz p _ hv);exact⟨_,ob,hv,rfl,rJ (by simp [iZ,ZJ]) hv rfl ho,fun xs=>by nofun⟩
  ·obtain⟨ob,ho⟩:=K2.kn (I.inv.cz p _ hv);exact⟨_,ob,hv,rfl,rJ (by simp [iZ,ZJ]) hv rfl ho,fun xs=>by nofun⟩
 generalize lS s.heap (iZ (fun a=>a == p) G) H=H2 at rep Zk ef out kp0;have Np:NF X.K H2 σ (τ.set i (some (.kh kvs))):=by
  have:=(I.st.mono kp0).set i rep;have es:σ.set i (some (V.ref p))=σ:=by
   apply List.ext_getElem?;intro m;rw [List.getElem?_set];split
   ·rename_i h; subst h;split
    ·exact WE.symm
    ·rename_i h2; exact absurd (List.getElem?_eq_some_iff.mp WE).1 h2
   ·rfl
  rw [es] at this; exact this
 have J2:I2 X pins σ H2 (τ.set i (some (.kh kvs))) (fun _=>none) s:=⟨Zk,Np,fun a g e=>by cases e⟩;have hI:=EL (tg:=.Name z p1) hx E pins s σ H2 (τ.set i (some (.kh kvs))) (fun _=>none) (fun ds ok G1=>ds=ks/\(∀ g,ok g)/\G1=fun _=>none) hE J2 (by
  show au i E _ _ _;unfold au;rw [eZ iv];exact⟨hks,fun _=>iD,rfl⟩)
 refine wpAny_For (fZ hI fun v s1 h1=>fZ h1 fun SH s2 h2=>?_) hs;obtain⟨it,fp,tn,J,H3,G3,ds,ok,eit,Iv,m2,T,t0,f2,wk,eds,okk,eG⟩:=h2;subst eit; subst eG; subst eds;have HA:∀ {H':Hp},(∀ b∈fp,H' b=none)->∀ b∈fp,ng X pins H' b:=fun hn b hb=>⟨hn b hb,(f2 b hb).2⟩;refine codeAny_forLoop_any (fun n s'=>∃ c jC H' nS G',I2 X pins jC H' nS G' s'/\Mv X.K H2 (fun _=>none) H' G'/\Kp H3 H'/\tn c s'.heap/\(∀ b∈fp,H' b=none)/\n=ds.length - c/\c<=ds.length/\(∀ m,m≠j->m≠k->jC[m]?=σ[m]?) /\
   YR j k te (ds.drop c) E nS G' fun nS=>∃ d,nS[k]?=some (some d)/\FG d=true/\Dn.nx ((τ.set j none).set k (some d)) G) ?_ ds.length
  ⟨0,σ,H3,_,_,J2.mv Iv m2,m2,.refl _,t0,fun b hb=>(f2 b hb).1,rfl,cb _,fun _ _ _=>rfl,h⟩
 rintro n s3 ⟨c,Ef,H4,N0,G4,I3,m3,k3,t3,YT,rfl,hle,sm,w3⟩;by_cases oj:c < ds.length
 ·rw [fj oj] at w3;obtain⟨go,yl⟩:=(wk c H4 G4 k3 I3.ab (okk _)).1 ds[c] (by simp [oj]);refine eD hp (fZ (T.item X rfl rfl rfl hc c pins s3 Ef H4 X.xe I3.inv (HA YT) t3 go) ?_);rintro r s4 ⟨u,hr,h4⟩;subst hr;refine eD hp (fZ h4 ?_);rintro _ s5 ⟨xv,H5,I5,r5,y5,UK,fr5⟩;obtain⟨Xq,m5⟩:=yl xv H5 y5;have I5':=I5.pinned (HA fr5) (T.obj _ _ UK);have J5:I2 X (pins++mB fp s5.heap) Ef H5 N0 G4 s5:=⟨I5',I3.st.mono (m5.kp I3.ab),m5.ab⟩;refine eD hp (GV (tZ J5.inv hN hz lz r5 (fun s6 I6'=>?_) fz));have I6:I2 X (pins++mB fp s5.heap) (Ef.set j (some xv)) H5 (N0.set j (some ds[c])) G4 s6:=⟨I6',J5.st.set j Xq,J5.ab⟩;refine eD hp (Ls (wpAny_Assign_Name (j5 he hE I6 w3 fun v7 H7 d7 G7 u7 s7 I7 m7 r7 rd7 q7=>?_) Yd));refine tZ I7.inv hN hy ly r7 (fun s8 I8'=>?_) fy;refine l8 ?_;have I8:I2 X (pins++mB fp s5.heap) ((Ef.set j (some xv)).set k (some v7)) H7 ((N0.set j (some ds[c])).set k (some d7)) G7 s8:=⟨I8',I7.st.set k rd7,I7.ab⟩;have mm:=m5.trans m7;refine⟨ds.length - (c+1),by lia,c+1,_,H7,_,G7,⟨I8.inv.qt,I8.st,I8.ab⟩,m3.trans mm,k3.trans (mm.kp I3.ab),T.keep _ _ _ UK fun b hb o e=>(I8.inv.pin (b,o) (bb _ (bb _ (ko hb e)))).1,fun b hb=>?_,rfl,oj,fun m h1 h2=>?_,q7⟩
  ·obtain⟨o,e,d⟩:=T.obj _ _ UK b hb;exact(I8.inv.pin (b,o) (bb _ (bb _ (ko hb e)))).2.1
  ·rw [eW (cW h2),eW (cW h1)]; exact sm m h1 h2
 ·have hn:ds.length<=c:=by lia
  rw [iM hn] at w3;obtain⟨d,hd,hfl,q⟩:=w3;have stop:=(wk c H4 G4 k3 I3.ab (okk _)).2 hn;refine eD hp (fZ (T.done X rfl rfl rfl hc c pins s3 Ef H4 X.xe I3.inv (HA YT) t3 stop) ?_);rintro r s4 ⟨hr,I4⟩;subst hr;have X4:∀ a o,H2 a=some o->H4 a=some o/\G4 a=none:=fun a o e=>m3.keep a o e rfl;have ep:=(X4 p _ ef).1;have I9:=Inv.W9 I.inv I4 e0 hc0 ep;have same:∀ a o,H a=some o->upd H4 p u0 a=some o:=fun a o e=>by
   by_cases h:a=p
   ·subst h; rw [cJ,<-e0,e]
   ·rw [bN h]; exact(X4 a o (by rw [out a h]; exact e)).1
  have kp:Kp H (upd H4 p u0):=⟨fun a xs e=>same a _ e,fun a o u e=>same a _ e⟩;have Nz:lC X.K (upd H4 p u0) G:=fun a g eg=>by
   have ab1:=I.ab a g eg;cases eh:H a with
   | none=>exact absurd eh ab1.tracked
   | some o=>exact ab1.mono kp (by rw [same a o eh,eh])
  have mv:Mv X.K H G (upd H4 p u0) G:=⟨fun a o e n=>⟨same a o e,n⟩,fun a n=>by
   cases eg:G a with
   | none=>exact absurd eg n
   | some g=>exact(Nz a g eg).tracked,Nz⟩
  have st9:NF X.K (upd H4 p u0) Ef ((τ.set j none).set k (some d)):=by
   refine⟨by rw [dO,dO,<-I.st.len,I4.len,<-I.inv.len],fun m d' hm=>?_⟩;by_cases h1:m=k
   ·subst h1;obtain⟨v,hv,rv⟩:=I3.st.at' m d hd;have lk:m < τ.length:=by
     have:=(List.getElem?_eq_some_iff.mp hm).1;rw [dO,dO] at this; exact this
    rw [eZ (by rw [dO]; exact lk)] at hm;cases hm;exact⟨v,hv,OF ep nl rv hfl⟩
   ·rw [eW (cW h1)] at hm;by_cases h2:m=j
    ·subst h2;have lk:m < τ.length:=by
      have:=(List.getElem?_eq_some_iff.mp hm).1;rw [dO] at this; exact this
     rw [eZ lk] at hm;cases hm
    ·rw [eW (cW h2)] at hm;obtain⟨v,hv,rv⟩:=I.st.at' m d' hm;exact⟨v,(sm m h2 h1).trans hv,rv.mono kp⟩
  exact l8 ⟨Ef,_,_,G,⟨I9,st9,Nz⟩,mv,q⟩
end
end K2
end
section
namespace K2
open PySem PySem.Spec PyProof.Rows L2
section
variable {X:Cx}
theorem IV{pins:List (Addr×Obj)}{s:ar}{σ:L2.St}{H:Hp}{y:V}(I:Inv X pins σ H s)(r:cB X.K H y (.kh [])):∃ a,y=.ref a/\s.heap.DictOf (bX X.prog X.w) a []/\(a == eu)=false:=by
 cases r with
 | nV hq rs =>
  rename_i a o kv;cases rs;obtain⟨z,ns,vs,rel,dd⟩:=(I.cz a _ hq).2;cases rel;exact⟨a,rfl,dd,ns⟩
 | nU hq rs =>
  rename_i a o kv;cases rs;obtain⟨z,ns,xs,rel,ob,es,ep,ho,ex,dd,he,nd⟩:=(I.cz a _ hq).2;cases rel;refine⟨a,rfl,⟨ob,es,ep,ho,ex,dd,?_,?_,?_⟩,ns⟩
  all_goals first | exact cY | (rw [he]; first | exact .nil | (intro e h; cases h)) | (intro e h; rw [Array.mem_def,he] at h; cases h) | skip
theorem Sr(hu:X.A.units+64 < cLine)(neg:Bool):oa X (dB (if neg then .NotIn else .In)) (LU neg):=by
 intro pins s σ H G x y dx dy v u Q I ab rx ry dX dY q;by_cases h:dy=.kh []
 ·subst h;obtain⟨⟨n,rfl⟩,q⟩:=q;obtain⟨a,rfl,dd,ns⟩:=IV I dY;cases ry;cases dX;cases neg with
  | false=>exact wpAny_in_of (za (k:=.inl n) rx) ns dd.mapOf ⟨.bl _,H,.bl _,G,I.tok _,.refl ab,rfl,.bl _,q⟩
  | true=>exact wpAny_notIn_of (za (k:=.inl n) rx) ns dd.mapOf ⟨.bl _,H,.bl _,G,I.tok _,.refl ab,rfl,.bl _,q⟩
 ·rw [J8 h] at q;exact CS hu neg pins s σ H G x y dx dy v u Q I ab rx ry dX dY q
theorem LX{a:Expr}{ta:fC}{p pos:Pos}{j}(ha:gf X a ta):Lp X (.Compare a [.IsNot] [.Constant .none j p] pos) (iI (Jd (LS true) ta)) :=
 show Lp X _ (iI (br (U0 true) ta (dC .cL))) from fH L6 ha Kj (gW _)
theorem HW(hu:X.A.units+64 < cLine):oa X (dB .NotIn) (LU true):=Sr hu true
end
end K2
end
section
namespace K2
open PySem PySem.W PySem.Spec PyProof.Rows PySem.Calls
theorem Md{p q:bE}{loose:List Str}{Xt:ar->Bool}{α:Type}{Yf:ar->α}{Ya:World->α}{N:Nat}(e:opening p=plainProg p.main.scope.names)(hN:Nat.ble 600 N=true)(f:∀ s,fenceModules? p s=some s)
  (h:∀ (w:World) (os:OsState),(topFrom treeTable p w N ⟨boot_heap w.params,Array.mk [],boot_drawn,boot_toks,os⟩).map (fun s=>(openSeen q loose (NN p.main.body) Xt true s,Yf s))=some (openGood q loose,Ya w)):LeftO p q loose Xt Yf Ya N:=fun w=>by
 obtain⟨⟨h',gs,d,k,os⟩,e1,e2⟩:=Option.map_eq_some_iff.mp (boot_open e hN f w);obtain⟨rfl,rfl,rfl,rfl⟩:h'=boot_heap w.params/\gs=Array.mk []/\d=boot_drawn/\k=boot_toks:=by simpa using e2
 unfold openEnds;rw [e1];exact h w os
noncomputable abbrev JJ(l:OpenLaw)(q:bE):Bool:=chainsOk q&&opensWell l.row.prog&&(frees l.row.toRowW&&l.row.within.isEmpty)
noncomputable abbrev W0(l:OpenLaw)(q:bE)(s:ar):Bool:=xlAt q [] s&&recOk l.row.records s
theorem Ms{l:OpenLaw}{q:bE}{loose:List Str}{K:Params->Frag}{as:List Addr}{d:DefRec}{N:Nat}(ok:l.wellSaid=true)(e:opening l.row.prog=plainProg l.row.prog.main.scope.names)(hN:Nat.ble 600 N=true)(f:∀ s,fenceModules? l.row.prog s=some s)(hK:∀ P,as=(K P).map (·.1))
  (h:∀ (w:World) (os:OsState),(topFrom treeTable l.row.prog w N ⟨boot_heap w.params,Array.mk [],boot_drawn,boot_toks,os⟩).map (fun s=>(openSeen q loose (NN l.row.prog.main.body) (W0 l q) true s,as.map s.heap.get?))=some (openGood q loose,(K w.params).map fun p=>some p.2))
  (hd:defOf q l.row.name=some (d,[])) (hp:l.row.prog.theDef l.row.name=some (d.params,d.body,d.scope)) (hk:kwWritten? d.params.kwonlyargs d.params.kw_defaults=some []) (hr:(!l.row.writes||l.row.records.isEmpty)=true) (ht:JJ l q=true) (hb:l.row.prog.bare) (hw:l.row.toRowW.promised)
  (c:WalkO q loose (XL q []) (InK K) l.row.toRowW d [] fun f vs=>Jw f vs):l.Holds :=
 holds_law ok fun k1=>holds_open (Md (Yf:=Hook.obs (kHook K as hK)) (Ya:=Hook.val (kHook K as hK)) e hN f h) (Hook.of (kHook K as hK)) (Hook.keeps (kHook K as hK)) (fun s x=>xl_of s (Bool.and_eq_true_iff.mp x).1) XL.keeps hd hp hk (fun s x=>recFacts_of (Bool.and_eq_true_iff.mp x).2) hr k1 ht hb hw c
structure At(K:Frag)(x:Str)(st:Stmt)(f:Addr)(fd:aJ):Prop where
 a:nsIn K bQ x=some (some (.ref f))
 F:L2.oS K x x st f fd
theorem At.mg{K:Frag}{h:Heap}{mg:Str->Option Value}{x:Str}{st:Stmt}{f:Addr}{fd:aJ}(z:At K x st f fd)(X:K.In h)(G:h.Ns bQ mg):mg x=some (.ref f):=mg_of X G z.a
theorem fB{K:Frag}{x:Str}{st:Stmt}{f:Addr}{oc:Value}{od an:Option Addr}{O0:Array (Option Value)}{kV doc pm oR ct:Value}(a:nsIn K bQ x=some (some (.ref f)):=by k_is)(l:K.lookup f=some ⟨oc,od,.func (fnOf x x (L2.nJ st) (L2.jQ st) (L2.a9 st) .none kV doc pm an oR ct),O0⟩:=by k_is)
  (c:codeIn K oR x=true:=by k_is) (k:keepIn K (.ref f)=true:=by k_is):At K x st f (fnOf x x (L2.nJ st) (L2.jQ st) (L2.a9 st) .none kV doc pm an oR ct):=⟨a,L2.V2 l c k⟩
structure sg(P:bE)(w:World)(K:Frag)(mg:Str->Option Value)(base:Heap)(CX:L2.Na)(k:Nat)(f:Addr)(fd:aJ)(x:Str)(ps:List Str)(sp:L2.Sp):Prop where
 ok:L2.fV P w K mg base CX k f fd ps sp
 mg:mg x=some (.ref f)
 kp:keepIn K (.ref f)=true
 bi:L2.Binds K fd ps []
end K2
end
section
namespace K2
open PySem (Str)
open Enc (enc)
theorem jo{α:Type} [DecidableEq α] [Enc α]{G G1:Gp}{p:Nat}{xs:List α}{Q:DK}(l:gz G G1)(hp:G p=none)(h1:G1 p=some (.lst (xs.map enc)))(q:Q (enc xs) G):ND G1 (.ref p) Q :=
 sY l hp h1 (DS.same _) q
theorem gh{α:Type}{f:α->D}{g:AQ}{body:iO}{ok:Gp->Prop}{xs:List α}{E:lb}{K:mL}{τ:gS}{G:Gp}(I:List α->gS->Gp->Prop)
  (h0:I [] τ G) (cz:∀ pre τ G,I pre τ G->ok G)
  (step:∀ (pre:List α) (x:α) (post:List α) τ G (N:gS->Gp->Prop),xs=pre++x :: post->I pre τ G->(∀ vW G2,I (pre++[x]) vW G2->N vW G2) ->
   g E (f x) τ G fun rV G1=>body E { K with nx:=N,ct:=N,bk:=K.nx } rV G1)
  (fin:∀ τ G,I xs τ G->K.nx τ G):qU g body ok (xs.map f) E K τ G:=by
 have main:∀ (post pre:List α) τ G,xs=pre++post->I pre τ G->qU g body ok (post.map f) E K τ G:=by
  intro post;induction post with
  | nil =>
   intro pre τ G e h;rw [bU] at e;subst e;exact⟨cz _ _ _ h,fin _ _ h⟩
  | cons d post ih =>
   intro pre τ G e h;refine⟨cz _ _ _ h,?_⟩;exact step pre d post τ G _ e h fun vW G2 h2=>ih (pre++[d]) vW G2 (by rw [e,cK]; rfl) h2
 exact main xs [] τ G rfl h0
theorem iy{α:Type}{f:α->D}{g:AQ}{c:Option x2}{e:fC}{ok:Gp->Prop}{xs:List α}{E:lb}{τ:gS}{G:Gp}{Q:List D->Gp->Prop}(I:List α->List D->gS->Gp->Prop)
  (h0:I [] [] τ G) (cz:∀ pre acc τ G,I pre acc τ G->ok G)
  (step:∀ (pre:List α) (x:α) (post:List α) (acc:List D) τ G (N:gS->List D->Gp->Prop),xs=pre++x :: post->I pre acc τ G->(∀ vW wG G2,I (pre++[x]) wG vW G2->N vW wG G2) ->
   g E (f x) τ G fun rV G1=>match c with
    | none=>e E rV G1 fun x G2=>N rV (acc++[x]) G2
    | some c=>c E rV G1 fun k G2=>if k=true then e E rV G2 fun x G3=>N rV (acc++[x]) G3 else N rV acc G2)
  (fin:∀ acc τ G,I xs acc τ G->Q acc G):iS g c e ok (xs.map f) E τ G [] Q:=by
 have main:∀ (post pre:List α) (acc:List D) τ G,xs=pre++post->I pre acc τ G->iS g c e ok (post.map f) E τ G acc Q:=by
  intro post;induction post with
  | nil =>
   intro pre acc τ G e h;rw [bU] at e;subst e;exact⟨cz _ _ _ _ h,fin _ _ _ h⟩
  | cons d post ih =>
   intro pre acc τ G e' h;refine⟨cz _ _ _ _ h,?_⟩;have:=step pre d post acc τ G (fun vW wG G2=>iS g c e ok (post.map f) E vW G2 wG Q) e' h fun vW wG G2 h2=>ih (pre++[d]) wG vW G2 (by rw [e',cK]; rfl) h2;cases c with
   | none=>exact this
   | some c=>exact this
 exact main xs [] [] τ G rfl h0
theorem kG{α:Type} [DecidableEq α] [Enc α]{xs:List α}{G:Gp}{R:List D->(Gp->Prop)->Gp->Prop}(h:R (xs.map enc) (fun _=>True) G):SS (enc xs) G R:=h
theorem w5{α:Type} [DecidableEq α] [Enc α]{xs:List α}{G:Gp}{R:List D->(Gp->Prop)->Gp->Prop}(h:R (iw 0 (xs.map enc)) (fun _=>True) G):uN (enc xs) G R:=h
theorem Cu{n:Nat}(h:n<=1000):n<=SZ:=by unfold SZ; lia
theorem Hw{n:Nat}(h:n<=1000):n < SZ:=by unfold SZ; lia
noncomputable abbrev Rows:=List (List T3)
noncomputable def T3.s(p:T3):T2:=⟨p.a,p.b⟩
structure Dr(rows:Rows):Prop where
 nd:(rows.flatten.map T3.s).Nodup
 way:∀ p∈rows.flatten,p.b=0\/p.b=1
 hand:∀ p∈rows.flatten,p.c=1\/p.c=-1
 Sy:∀ p∈rows.flatten,(⟨p.a,1 - p.b,p.c⟩:T3)∈rows.flatten
 nH:rows.flatten.length<=24
 str:rows.length<=3
namespace P
noncomputable def jE:om:=Xh (fun rows:Rows=>rows.flatten.length<=1000) fun rows=>rows.flatten
noncomputable def qG:iO :=
 (cw (bK (ku bx) (aM 1))
 (cw (gO (nY (au 0)) (aM 2) (fF (tN vN lP (au 1) (aI (au 2) bx))))
 (dN (gB (au 1)))))
theorem zS(ds:List D)(G:Gp)(Q:DK)(h:jE ds G Q fun _ _=>False):qG (fun _ _=>False) (ends Q) (bG 3 ds) G:=by
 obtain⟨rows,rfl,hl,q⟩:=h;unfold qG;simp only [ends,bG,av,bc,ak,aG,aK,aP,aW,cQ,bK,ku,bx,aM,ay,aq];refine⟨by decide,fun p hp=>?_⟩;refine fO (fun τ G'=>(∃ b,τ=[some (enc rows),some (.ref p),b])/\gz G G'/\G' p=some (.lst (rows.flatten.map enc))) ?_ ?_
 ·intro N hN;simp only [gO,fA,au,aa];refine kG ?_;refine gh (xs:=rows) (fun pre τ G'=>(∃ b,τ=[some (enc rows),some (.ref p),b])/\gz G G'/\G' p=some (.lst (pre.flatten.map enc))) ⟨⟨_,rfl⟩,.new hp,aH⟩ (fun _ _ _ _=>trivial) ?_ ?_
  ·rintro pre r post τ G' N2 e ⟨⟨b,rfl⟩,l,gp⟩ lQ;have hlen:pre.flatten.length+r.length<=rows.flatten.length:=by
    rw [e]; simp only [oP,bz,aw]; lia
   simp only [aM,fF,tN,au,ay,aq,af,aa,nj,gp,aI,bx,kS,mF (IsL.enc r),true_and];refine⟨Cu (by simp only [ag]; lia),?_⟩;refine lQ _ _ ⟨⟨_,rfl⟩,l.put hp,?_⟩;rw [aH]; simp
  ·rintro τ G' ⟨⟨b,rfl⟩,l,gp⟩;exact hN _ _ ⟨⟨_,rfl⟩,l,gp⟩
 ·rintro _ G' ⟨⟨b,rfl⟩,l,gp⟩;simp only [dN,gB,au,af,aa];exact jo l hp gp q
theorem Ds(p:T3):(enc p:D)=.tup [.int p.a,.int p.b,.int p.c]:=rfl
theorem zB(p:T2):(enc p:D)=.tup [.int p.a,.int p.b]:=rfl
theorem S4(i:Int):(enc i:D)=.int i:=rfl
theorem ZW{a:D}{r:List D}:pJ (a :: r) 0=some a:=by
 rw [vq _ (by lia) (by simp)]; rfl
theorem Uk{a b:D}{r:List D}:pJ (a :: b :: r) 1=some b:=by
 rw [vq _ (by lia) (by simp; lia)]; rfl
theorem at2{a b c:D}{r:List D}:pJ (a :: b :: c :: r) 2=some c:=by
 rw [vq _ (by lia) (by simp; lia)]; rfl
noncomputable def names(rows:Rows):List Int:=LK ((rows.flatten.filter fun p=>p.b == 0).map (·.a))
noncomputable def nv:om:=Xh (fun rows:Rows=>rows.flatten.length < 64) names
noncomputable def wV:iO :=
 (dN (gB (sG xZ (aI (fm 1 [] (nY (cE jE (aI (au 0) bx))) (aM 0) (some (iI (br (GN false) (br j6 (au 0) (dC (.int 1))) (dC (.int 0))))) (br j6 (au 0) (dC (.int 0)))) bx))))
theorem Gy(ds:List D)(G:Gp)(Q:DK)(h:nv ds G Q fun _ _=>False):wV (fun _ _=>False) (ends Q) (bG 1 ds) G:=by
 obtain⟨rows,rfl,hl,q⟩:=h;unfold wV;simp only [dN,gB,sG,aI,fm,bG,av,bc,ak,aG,aP,aW,bx,ends,fA,cE,au,aa];refine⟨rows,rfl,(show rows.flatten.length<=1000 by lia),kG ⟨Cu (by rw [ag]; show rows.flatten.length<=1000; lia),?_⟩⟩;refine iy (xs:=rows.flatten) (fun pre acc τ G'=>G=G'/\(∃ a,τ=[a])/\acc=((pre.filter fun p=>p.b == 0).map (·.a)).map enc) ⟨rfl,⟨_,rfl⟩,rfl⟩ (fun _ _ _ _ _=>trivial) ?_ ?_
 ·rintro pre x post acc τ G' N e ⟨rfl,⟨a,rfl⟩,rfl⟩ hN;simp only [aM,Ds,aq,br,au,aa,dC,i6,ZW,eC,Uk];refine⟨_,_,.int _,.int _,?_⟩;simp only [aQ,tu,if_false,cH];split
  ·rename_i h;refine hN _ _ _ ⟨rfl,⟨_,rfl⟩,?_⟩;simp [cZ,iz,h,S4]
  ·rename_i h;refine hN _ _ _ ⟨rfl,⟨_,rfl⟩,?_⟩;simp [cZ,iz,h]
 ·rintro acc τ G' ⟨rfl,⟨a,rfl⟩,rfl⟩ p hp;refine Jk (IsL.ref aH) (by rw [ag]; exact pZ (je _ _) hl) fun p2 Rk=>?_;exact jo ((gz.new hp).trans (.new Rk)) ((gz.new hp).free Rk) aH q
noncomputable def bS(row:List T3)(i:Int):List T2:=if row=[] then [⟨i,2⟩] else row.map T3.s
noncomputable def nq:om:=aaz (fun (row:List T3) (_:Int)=>row.length<=1000) bS
noncomputable def wR:iO :=
 (cw (kY (AO (iI (au 0))) (dN (gB (ku (aI (mH (aI (au 1) (aI (dC (.int 2)) bx))) bx)))) gx)
 (dN (gB (fm 1 [] (nY (au 0)) (aM 0) none (Je (au 0) iJ (qW (dC (.int 2))))))))
theorem Gw(ds:List D)(G:Gp)(Q:DK)(h:nq ds G Q fun _ _=>False):wR (fun _ _=>False) (ends Q) (bG 2 ds) G:=by
 obtain⟨row,i,rfl,hl,q⟩:=h;unfold wR;refine fO (fun τ G'=>G=G'/\τ=[some (enc row),some (enc i)]/\row≠[]) ?_ ?_
 ·intro N hN;simp only [kY,AO,bG,av,bc,ak,aG,aP,aW,dN,gB,ku,aI,mH,au,af,aa,dC,bx,ends,gx,eC];refine yj (IsL.enc row) ?_;cases row with
  | nil =>
   simp only [bc,sJ,cS,fN,if_true];refine⟨by decide,by decide,fun p hp=>jo (xs:=[(⟨i,2⟩:T2)]) (.new hp) hp aH ?_⟩;exact q
  | cons a r =>
   simp only [av,List.isEmpty_cons,fN,cS,aQ,if_false];exact hN _ _ ⟨rfl,rfl,by simp⟩
 rintro _ _ ⟨rfl,rfl,j8⟩;simp only [dN,gB,fm,ends,fA,au,aa];refine kG ⟨Cu (by rw [ag]; exact hl),?_⟩;refine iy (xs:=row) (fun pre acc τ G'=>G=G'/\(∃ a,τ=[a])/\acc=(pre.map T3.s).map enc) ⟨rfl,⟨_,rfl⟩,rfl⟩ (fun _ _ _ _ _=>trivial) ?_ ?_
 ·rintro pre x post acc τ G' N e ⟨rfl,⟨a,rfl⟩,rfl⟩ hN;simp only [aM,Je,au,Ds,aq,aa,iJ,CJ,ak,aG,oI,dC,mC];refine⟨by decide,hN _ _ _ ⟨rfl,⟨_,rfl⟩,?_⟩⟩;rw [aA,aA]; rfl
 ·rintro acc τ G' ⟨rfl,⟨a,rfl⟩,rfl⟩ p hp;refine jo (.new hp) hp aH ?_;have:bS row i=row.map T3.s:=by unfold bS; rw [if_neg j8]
  rw [<-this]; exact q
noncomputable def dS:Rows->Nat->List T2
 | [],_=>[]
 | r :: rs,k=>bS r (k:Int)++dS rs (k+1)
theorem Qn(xs:List (List T3)):iw 0 (xs.map enc)=(xs.zipIdx 0).map fun p=>D.tup [.int (p.2:Int),enc p.1]:=by
 have:∀ (xs:List (List T3)) (k:Nat),iw k (xs.map enc)=(xs.zipIdx k).map fun p=>D.tup [.int (p.2:Int),enc p.1]:=by
  intro xs;induction xs with
  | nil=>intro k; rfl
  | cons x xs ih=>intro k; rw [av,iw,ih,DX,av]
 exact this xs 0
theorem Cg{α:Type}{xs:List α}{pre post:List (α×Nat)}{x:α×Nat}(h:xs.zipIdx 0=pre++x :: post):∃ l r,xs=l++x.1 :: r/\x.2=l.length/\pre=l.zipIdx 0:=by
 have e1:xs=(pre.map (·.1))++x.1 :: post.map (·.1):=by
  have:=congrArg (List.map (·.1)) h;rw [ka] at this;rw [this]; simp
 have hl:pre.length < (xs.zipIdx 0).length:=by rw [h]; simp
 have hx:(xs.zipIdx 0)[pre.length]?=some x:=by rw [h]; simp
 refine⟨pre.map (·.1),post.map (·.1),e1,?_,?_⟩
 ·rw [RE] at hx;rw [ag];cases q:xs[pre.length]? with
  | none=>rw [q] at hx; cases hx
  | some y=>rw [q] at hx; simp at hx; rw [<-hx]
 ·have:(pre.map (·.1)).zipIdx 0=(xs.zipIdx 0).take pre.length:=by
   conv=>rhs; rw [e1,List.zipIdx_append]
   rw [List.take_append_of_le_length (by simp)];rw [tK (by simp)]
  rw [this,h]; simp
theorem acB{a b c:D}:cut [a,b,c] none (some 2)=[a,b]:=rfl
theorem Mc{α:Type} [DecidableEq α] [Enc α](xs:List α)(G:Gp):uC (enc xs) G=some (xs.map enc,fun _=>True):=rfl
theorem Mb{a:Nat}{ds:List D}{G:Gp}(h:G a=some (.lst ds)):uC (.ref a) G=some (ds,fun G2=>G2 a=some (.lst ds)):=by unfold uC; simp only [h]
theorem Ej{α β:Type} [DecidableEq α] [Enc α] [DecidableEq β] [Enc β]:∀ (xs:List α) (ys:List β),oW (xs.map enc) (ys.map enc)=(xs.zip ys).map fun p=>D.tup [enc p.1,enc p.2]
 | [],ys=>by simp [oW]
 | x :: xs,[]=>by simp [oW]
 | x :: xs,y :: ys=>by simp [oW,Ej xs ys]
theorem lX{κ α:Type} [DecidableEq κ] [Enc κ] [tH κ] [DecidableEq α] [Enc α]{a:Nat}{l:List (κ×α)}{k:κ}{v:α}{G:Gp}{Q:Gp->Prop}(h:G a=some (.ja (bD l)))(hl:l.length<=1000)(q:Q (c6 G a (.ja (bD (mZ l k v))))):sr (.ref a) (enc k) (enc v) G Q:=by
 unfold sr;simp only [h];refine⟨fY l k,?_,by rw [Ka]; exact q⟩;unfold bD; rw [ag]; exact Hw hl
noncomputable def fe(r:List T3):List T3:=r.drop 1++r.take 1
noncomputable def pairsOf(rows:Rows):List (T3×T3):=rows.flatMap fun r=>r.zip (fe r)
noncomputable def i7(ps:List (T3×T3)):List (T2×T2):=ps.foldl (fun l p=>mZ l p.1.s p.2.s) []
theorem By(ps:List (T3×T3)):(i7 ps).length<=ps.length:=by
 have:∀ (ps:List (T3×T3)) (l:List (T2×T2)),(ps.foldl (fun l p=>mZ l p.1.s p.2.s) l).length<=l.length+ps.length:=by
  intro ps;induction ps with
  | nil=>intro l; simp
  | cons p ps ih =>
   intro l;rw [bT,ak];have h1:=ih (mZ l p.1.s p.2.s);have h2:=Gr l p.1.s p.2.s;lia
 simpa [i7] using this ps []
theorem Ib(ps:List (T3×T3))(p:T3×T3):i7 (ps++[p])=mZ (i7 ps) p.1.s p.2.s:=by unfold i7; rw [e9]; rfl
noncomputable def oZ:om:=fun ds G Q _=>∃ rows:Rows,ds=[enc rows]/\rows.flatten.length<=500/\Q (.kh (bD (i7 (pairsOf rows)))) G
theorem pairs_len(rows:Rows):(pairsOf rows).length<=rows.flatten.length:=by
 unfold pairsOf;induction rows with
 | nil=>simp
 | cons r rs ih=>simp only [eM,bz,aw,vH]; lia
noncomputable def yB:iO :=
 (cw (bK xq (aM 1))
 (cw (gO (nY (au 0)) (aM 2) (gO (PG (au 2) (br pX (Je (au 2) (qW (dC (.int 1))) iJ) (Je (au 2) iJ (qW (dC (.int 1)))))) (uV (iN (aM 3) (iN (aM 4) sX))) (bK (Je (au 4) iJ (qW (dC (.int 2)))) (lA (au 1) (Je (au 3) iJ (qW (dC (.int 2))))))))
 (dN (gB (au 1)))))
theorem Jo(ds:List D)(G:Gp)(Q:DK)(h:oZ ds G Q fun _ _=>False):yB (fun _ _=>False) (ends Q) (bG 5 ds) G:=by
 obtain⟨rows,rfl,hl,q⟩:=h;unfold yB;simp only [ends,bG,av,bc,ak,aG,aK,aP,aW,cQ,bK,xq,jb,aM,ay,aq];intro d hd;refine fO (fun τ G'=>(∃ a b c,τ=[some (enc rows),some (.ref d),a,b,c])/\gz G G'/\G' d=some (.ja (bD (i7 (pairsOf rows))))) ?_ ?_
 ·intro N hN;simp only [gO,fA,au,aa];refine kG ?_;refine gh (xs:=rows) (fun pre τ G'=>(∃ a b c,τ=[some (enc rows),some (.ref d),a,b,c])/\gz G G'/\G' d=some (.ja (bD (i7 (pairsOf pre))))) ⟨⟨_,_,_,rfl⟩,.new hd,aH⟩ (fun _ _ _ _=>trivial) ?_ ?_
  ·rintro pre r post τ G' N2 e ⟨⟨a,b,c,rfl⟩,l,gd⟩ lQ;have hr:pre.flatten.length+r.length<=rows.flatten.length:=by
    rw [e]; simp only [oP,bz,aw]; lia
   simp only [aM,gO,PG,au,ay,aq,af,aa,br,Je,iJ,oI,dC,mC];refine OL (IsL.enc r) fun p1 h1=>?_;refine OL (IsL.enc r) fun p2 h2=>?_;have d1:d≠p1:=by rintro rfl; rw [gd] at h1; cases h1
   have l1:=l.trans (gz.new (o:=.lst (cut (r.map enc) (some 1) none)) h1);have d2:d≠p2:=by rintro rfl; rw [dh d1,gd] at h2; cases h2
   have h12:p1≠p2:=by rintro rfl; rw [aH] at h2; cases h2
   refine Se (IsL.ref (by rw [dh h12,aH])) (IsL.ref aH) ?_ fun p3 h3=>?_
   ·rw [pA,pA,ag,ag];have e1:(cut r (some 1) none).length<=r.length:=by unfold cut; rw [di,ck]; lia
    have e2:(cut r none (some 1)).length<=r.length:=by unfold cut; rw [di,ck]; lia
    exact Cu (by lia)
   have d3:d≠p3:=by rintro rfl; rw [dh d2,dh d1,gd] at h3; cases h3
   have et:cut (r.map enc) (some 1) none++cut (r.map enc) none (some 1)=(fe r).map enc:=by
    rw [pA,pA,<-aA];congr 1;cases r with
    | nil=>rfl
    | cons x r=>rw [show (1:Int)=((1:Nat):Int) from rfl,Ga _ _ (by simp),QE _ _ (by simp)]; rfl
   rw [et];generalize hG3:c6 (c6 (c6 G' p1 (.lst (cut (r.map enc) (some 1) none))) p2 (.lst (cut (r.map enc) none (some 1)))) p3 (.lst ((fe r).map enc))=G3;have g3:G3 p3=some (.lst ((fe r).map enc)):=by rw [<-hG3,aH]
   have gd3:G3 d=some (.ja (bD (i7 (pairsOf pre)))):=by rw [<-hG3,dh d3,dh d2,dh d1]; exact gd
   have l3:gz G G3:=by rw [<-hG3]; exact(l1.trans (.new h2)).trans (.new h3)
   unfold sV;rw [Mc,Mb g3];dsimp only;rw [Ej];refine gh (xs:=r.zip (fe r)) (fun pp τ G'=>(∃ a b c,τ=[some (enc rows),some (.ref d),a,b,c])/\gz G G'/\G' d=some (.ja (bD (i7 (pairsOf pre++pp))))/\G' p3=some (.lst ((fe r).map enc)))
    ⟨⟨_,_,_,rfl⟩,l3,by rw [bU]; exact gd3,g3⟩ (fun _ _ _ h=>⟨trivial,h.2.2.2⟩) ?_ ?_
   ·rintro pp x post τ G4 N3 e4 ⟨⟨a,b,c,rfl⟩,l4,gd4,gp4⟩ Ro;have hz:(pairsOf pre++pp).length<=1000:=by
     have:=pairs_len pre;have h5:pp.length < (r.zip (fe r)).length:=by rw [e4]; simp
     rw [vH] at h5;rw [aw]; lia
    simp only [uV,iN,aM,sX,bK,Je,au,Ds,ay,aq,af,aa,iJ,lA,CJ,ak,aG,oI,dC,mC,acB];refine⟨by decide,by decide,?_⟩;refine lX (k:=x.1.s) (v:=x.2.s) gd4 (cC (By _) hz) ?_;refine Ro _ _ ⟨⟨_,_,_,rfl⟩,l4.put hd,?_,by rw [dh (cW d3)]; exact gp4⟩;rw [aH,<-cK,Ib]
   ·rintro τ G4 ⟨⟨a,b,c,rfl⟩,l4,gd4,gp4⟩;refine lQ _ _ ⟨⟨_,_,_,rfl⟩,l4,?_⟩;have:pairsOf (pre++[r])=pairsOf pre++r.zip (fe r):=by unfold pairsOf; simp
    rw [this]; exact gd4
  ·rintro τ G' ⟨⟨a,b,c,rfl⟩,l,gd⟩;exact hN _ _ ⟨⟨_,_,_,rfl⟩,l,gd⟩
 ·rintro _ G' ⟨⟨a,b,c,rfl⟩,l,gd⟩;simp only [dN,gB,au,af,aa];exact zi l hd gd q
noncomputable def mO(s:T2):T3:=⟨s.a,s.b,0⟩
noncomputable def lT(l:List (T2×T2)):List (T2×T2):=l.foldl (fun c p=>mZ c ((pL l p.1).getD p.2) p.1) []
noncomputable def vg(l ps:List (T2×T2)):List (T2×T2):=ps.foldl (fun c p=>mZ c ((pL l p.1).getD p.2) p.1) []
theorem QU{κ α:Type} [DecidableEq κ] [Enc κ] [DecidableEq α] [Enc α]{l:List (κ×α)}{p:κ×α}(h:p∈l):∃ v,pL l p.1=some v:=by
 unfold pL;cases q:l.find? (fun x=>decide (x.1=p.1)) with
 | none=>rw [List.find?_eq_none] at q; exact absurd (by simp) (q p h)
 | some x=>exact⟨_,rfl⟩
noncomputable def lM:om:=fun ds G Q _=>∃ rows:Rows,ds=[enc rows]/\rows.flatten.length<=500/\Q (.kh (bD (lT (i7 (pairsOf rows))))) G
noncomputable def uj:iO :=
 (cw (bK (cE oZ (aI (au 0) bx)) (aM 1))
 (cw (bK xq (aM 2))
 (cw (gO (PH (au 1)) (aM 3) (bK (au 3) (lA (au 2) (br j6 (au 1) (au 3)))))
 (dN (gB (au 2))))))
theorem Gd(l ps:List (T2×T2)):(vg l ps).length<=ps.length:=by
 have:∀ (ps c:List (T2×T2)),(ps.foldl (fun c p=>mZ c ((pL l p.1).getD p.2) p.1) c).length<=c.length+ps.length:=by
  intro ps;induction ps with
  | nil=>intro c; simp
  | cons p ps ih =>
   intro c;rw [bT,ak];have h1:=ih (mZ c ((pL l p.1).getD p.2) p.1);have h2:=Gr c ((pL l p.1).getD p.2) p.1;lia
 simpa [vg] using this ps []
theorem DR(ds:List D)(G:Gp)(Q:DK)(h:lM ds G Q fun _ _=>False):uj (fun _ _=>False) (ends Q) (bG 4 ds) G:=by
 obtain⟨rows,rfl,hl,q⟩:=h;unfold uj;simp only [ends,bG,av,bc,ak,aG,aK,aP,aW,cQ,bK,cE,aI,au,aa,bx,aM,ay,aq,xq];refine⟨rows,rfl,hl,?_⟩;simp only [jb];intro c hc;have hn:(i7 (pairsOf rows)).length<=500:=cC (By _) (cC (pairs_len rows) hl);generalize hL:i7 (pairsOf rows)=L at *;refine fO (fun τ G'=>(∃ b,τ=[some (enc rows),some (.kh (bD L)),some (.ref c),b])/\gz G G'/\G' c=some (.ja (bD (vg L L)))) ?_ ?_
 ·intro N hN;simp only [gO,PH,au,af,aa,C6];have ek:(bD L).map (·.1)=L.map fun p=>enc p.1:=by unfold bD; rw [bA]; rfl
  rw [ek];refine gh (xs:=L) (fun pre τ G'=>(∃ b,τ=[some (enc rows),some (.kh (bD L)),some (.ref c),b])/\gz G G'/\G' c=some (.ja (bD (vg L pre)))) ⟨⟨_,rfl⟩,.new hc,aH⟩ (fun _ _ _ _=>trivial) ?_ ?_
  ·rintro pre x post τ G' N2 e ⟨⟨b,rfl⟩,l,gc⟩ lQ;have hx:x∈L:=by rw [e]; simp
   obtain⟨v,hv⟩:=QU hx;have PQ:pre.length<=500:=by have:=congrArg cV e; simp at this; lia
   simp only [aM,bK,au,ay,aq,af,aa,lA,br,um,kT,hv,DV];refine⟨fY _ _,?_⟩;refine lX (k:=v) (v:=x.1) gc (cC (Gd _ _) (by lia)) ?_;refine lQ _ _ ⟨⟨_,rfl⟩,l.put hc,?_⟩;rw [aH];unfold vg;rw [e9,bT,md,hv];rfl
  ·rintro τ G' ⟨⟨b,rfl⟩,l,gc⟩;exact hN _ _ ⟨⟨_,rfl⟩,l,gc⟩
 ·rintro _ G' ⟨⟨b,rfl⟩,l,gc⟩;simp only [dN,gB,au,af,aa];exact zi l hc gc q
end P
end K2
end
section
namespace K2
open PySem (Str)
open Enc (enc)
class inductive Cn {α:Type} (ps:List (α×α)):α->α->Prop
 | refl (x:α):Cn ps x x
 | pair {x y:α}:(x,y)∈ps->Cn ps x y
 | symm {x y:α}:Cn ps x y->Cn ps y x
 | trans {x y z:α}:Cn ps x y->Cn ps y z->Cn ps x z
theorem uq{α:Type} [DecidableEq α] [Enc α]{neg:Bool}{x y:α}{G:Gp}{Q:DK}(hd:Enc.dep α<=8)(q:Q (.bl (if neg then !decide (x=y) else decide (x=y))) G):GN neg (enc x) (enc y) G Q:=by
 refine⟨enc x,enc y,Enc.sn _ _ _ hd,Enc.sn _ _ _ hd,?_⟩;rw [Enc.eqv]; exact q
class DT (α:Type) [DecidableEq α] [Enc α] [bY α] where
 mn:∀ {x:D} {G:Gp} {xs:List α} {Q:DK},itemsOf x G=some (xs.map enc)->xs≠[]->(∀ m∈xs,(∀ y∈xs,Ag m y=true)->Q (enc m) G)->QJ [x] G Q
theorem kq{α:Type} [DecidableEq α] [Enc α] [bY α]:∀ (r:List α) (a:α),r.foldl (fun m x=>if bY.lt x m=true then x else m) a∈a :: r/\∀ y∈a :: r,Ag (r.foldl (fun m x=>if bY.lt x m=true then x else m) a) y=true
 | [],a=>⟨by simp,fun y hy=>by rw [List.mem_singleton.mp hy]; unfold Ag; rw [md,bY.Rf]; rfl⟩
 | b :: r,a=>by
  rw [bT];by_cases c:bY.lt b a=true
  ·rw [if_pos c];obtain⟨h1,h2⟩:=kq r b;refine⟨ao _ h1,fun y hy=>?_⟩;rcases List.mem_cons.mp hy with rfl | hy
   ·refine wj _ _ _ (h2 b (by simp)) ?_;unfold Ag;cases q:bY.lt y b with
    | false=>rfl
    | true=>have:=bY.trans _ _ _ q c; rw [bY.Rf] at this; cases this
   ·exact h2 y hy
  ·rw [if_neg c];obtain⟨h1,h2⟩:=kq r a;refine⟨?_,fun y hy=>?_⟩
   ·rcases List.mem_cons.mp h1 with h | h
    ·rw [h]; simp
    ·exact ao _ (ao _ h)
   ·rcases List.mem_cons.mp hy with rfl | hy
    ·exact h2 y (by simp)
    ·rcases List.mem_cons.mp hy with rfl | hy
     ·refine wj _ _ _ (h2 a (by simp)) ?_;unfold Ag; simpa using c
     ·exact h2 y (ao _ hy)
noncomputable instance:DT Int where
 mn:=by
  intro x G xs Q hi j8 k;cases xs with
  | nil=>exact absurd rfl j8
  | cons a r =>
   obtain⟨h1,h2⟩:=kq r a;refine .inl ⟨a :: r,_,hi,rfl,?_⟩;have:(fun (m x:Int)=>if x < m then x else m)=fun m x=>if bY.lt x m=true then x else m:=by
    funext m x;show (if x < m then x else m)=if decide (x < m)=true then x else m
    simp
   show Q (enc (r.foldl (fun m x=>if x < m then x else m) a)) G;rw [this];exact k _ h1 h2
theorem yV:∀ (x y:List Int),uG (fun a b=>decide (a < b)) x y=lexLt x y
 | [],[]=>rfl
 | [],_ :: _=>rfl
 | _ :: _,[]=>rfl
 | a :: x,b :: y=>by simp only [yW,lexLt,yV x y]
noncomputable instance:DT T3 where
 mn:=by
  intro x G xs Q hi j8 k;cases xs with
  | nil=>exact absurd rfl j8
  | cons a r =>
   obtain⟨h1,h2⟩:=kq r a;have ei:itemsOf x G=some (((a :: r).map T3.l).map tI):=by rw [hi,bA]; rfl
   refine .inr ⟨(a :: r).map T3.l,_,ei,rfl,?_⟩;have:∀ (r:List T3) (a:T3),(r.map T3.l).foldl (fun m x=>if lexLt x m=true then x else m) a.l=(r.foldl (fun m x=>if bY.lt x m=true then x else m) a).l:=by
    intro r;induction r with
    | nil=>intro a; rfl
    | cons b r ih =>
     intro a;rw [av,bT,bT];have e:(if lexLt b.l a.l=true then b.l else a.l)=(if bY.lt b a=true then b else a).l:=by
      have:bY.lt b a=lexLt b.l a.l:=yV _ _;rw [this];split <;> rfl
     rw [e]; exact ih _
   rw [this r a];exact k _ h1 h2
namespace P
section
variable {α:Type} [DecidableEq α] [Enc α] [bY α] [tH α] [DT α]
structure GI(ms:List α)(ps:List (α×α))(l:List (α×List α)):Prop where
 len:l.length<=64
 at':∀ m∈ms,∃ g,pL l m=some g/\g.Nodup/\∀ x,x∈g↔Cn ps m x
end
end P
end K2
end
section
namespace K2
open PySem (Str)
open Enc (enc)
namespace P
theorem zM{κ β:Type} [DecidableEq κ]{l:List (κ×β)}{k:κ}{v:β}(h:k∉l.map (·.1)):mZ l k v=l++[(k,v)]:=by
 unfold mZ;rw [if_neg];intro q;obtain⟨p,h1,h2⟩:=List.any_eq_true.mp q;exact h (List.mem_map.mpr ⟨p,h1,by simpa using h2⟩)
theorem zk{κ β γ:Type} [DecidableEq κ](kf:γ->κ)(vf:γ->β):∀ (ps:List γ) (l:List (κ×β)),(l.map (·.1)++ps.map kf).Nodup->ps.foldl (fun l p=>mZ l (kf p) (vf p)) l=l++ps.map fun p=>(kf p,vf p)
 | [],l,_=>by simp
 | p :: ps,l,h=>by
  rw [bT,zM (fun z=>by
   rw [av,cj] at h;exact h.2.2 _ z _ (by simp) rfl),zk kf vf ps _ (by simpa using h)]
  simp
theorem fU{κ β:Type} [DecidableEq κ]:∀ {l:List (κ×β)} {p:κ×β},(l.map (·.1)).Nodup->p∈l->pL l p.1=some p.2
 | q :: l,p,hn,h=>by
  unfold pL;rw [fW];rcases List.mem_cons.mp h with rfl | h
  ·simp
  ·rw [av,cF] at hn;have:q.1≠p.1:=fun z=>hn.1 (by rw [z]; exact bq h);simp only [this,decide_false];exact fU hn.2 h
theorem wL(r:List T3):(fe r).length=r.length:=by unfold fe; rw [aw,ck,di]; lia
theorem Cq(r:List T3):(fe r).Perm r:=by
 unfold fe;exact List.perm_append_comm.trans (by rw [c9])
theorem Bw(rows:Rows):(pairsOf rows).map (·.1)=rows.flatten:=by
 unfold pairsOf;induction rows with
 | nil=>rfl
 | cons r rs ih =>
  rw [eM,aA,ih,bz];congr 1;rw [List.map_fst_zip]; rw [wL]; exact aC _
theorem Bv(rows:Rows):((pairsOf rows).map (·.2)).Perm rows.flatten:=by
 unfold pairsOf;induction rows with
 | nil=>exact .refl _
 | cons r rs ih =>
  rw [eM,aA,bz];refine List.Perm.append ?_ ih;rw [List.map_snd_zip]
  ·exact Cq r
  ·rw [wL]; exact aC _
variable {rows:Rows}
theorem P5(d:Dr rows):((pairsOf rows).map fun p=>p.1.s).Nodup:=by
 have:((pairsOf rows).map fun p=>p.1.s)=rows.flatten.map T3.s:=by rw [<-Bw,bA]; rfl
 rw [this]; exact d.nd
theorem Ow(d:Dr rows):((pairsOf rows).map fun p=>p.2.s).Nodup:=by
 have:((pairsOf rows).map fun p=>p.2.s)=((pairsOf rows).map (·.2)).map T3.s:=by rw [bA]; rfl
 rw [this,((Bv rows).map T3.s).nodup_iff]; exact d.nd
theorem O7(d:Dr rows):i7 (pairsOf rows)=(pairsOf rows).map fun p=>(p.1.s,p.2.s):=by
 unfold i7;rw [zk (fun p:T3×T3=>p.1.s) (fun p=>p.2.s) _ _ (by simpa using P5 d)]; rfl
theorem Jg(d:Dr rows):lT (i7 (pairsOf rows))=(pairsOf rows).map fun p=>(p.2.s,p.1.s):=by
 rw [O7 d];generalize hL:((pairsOf rows).map fun p=>(p.1.s,p.2.s))=L;have hk:(L.map (·.1)).Nodup:=by rw [<-hL,bA]; exact P5 d
 have hv:(L.map (·.2)).Nodup:=by rw [<-hL,bA]; exact Ow d
 have e:lT L=L.foldl (fun c p=>mZ c p.2 p.1) []:=by
  unfold lT;have:∀ (ps:List (T2×T2)) (c:List (T2×T2)),(∀ p∈ps,p∈L)->ps.foldl (fun c p=>mZ c ((pL L p.1).getD p.2) p.1) c=ps.foldl (fun c p=>mZ c p.2 p.1) c:=by
   intro ps;induction ps with
   | nil=>intro c _; rfl
   | cons p ps ih =>
    intro c h;rw [bT,bT,fU hk (h p (by simp))];exact ih _ fun q hq=>h q (ao _ hq)
  exact this L [] fun p h=>h
 rw [e,zk (fun p:T2×T2=>p.2) (fun p=>p.1) _ _ (by simpa using hv),<-hL];simp [bA,Q6]
noncomputable def Tg(rows:Rows)(s:T2):T2:=(pL ((pairsOf rows).map fun p=>(p.2.s,p.1.s)) s).getD s
noncomputable def fst(p:T3):Bool:=decide (p.b=0) == decide (p.c=1)
theorem Jh(d:Dr rows){p q:T3}(h:(p,q)∈pairsOf rows):pL ((pairsOf rows).map fun p=>(p.2.s,p.1.s)) q.s=some p.s/\Tg rows q.s=p.s:=by
 have:=fU (l:=(pairsOf rows).map fun p=>(p.2.s,p.1.s)) (p:=(q.s,p.s)) (by rw [bA]; exact Ow d) (List.mem_map.mpr ⟨_,h,rfl⟩);refine⟨this,?_⟩;unfold Tg; rw [this]; rfl
theorem Fu{q:T3}(h:q∈rows.flatten):∃ p,(p,q)∈pairsOf rows/\p∈rows.flatten:=by
 rw [<-(Bv rows).mem_iff] at h;obtain⟨x,hx,rfl⟩:=List.mem_map.mp h;exact⟨x.1,hx,by rw [<-Bw]; exact bq hx⟩
theorem no2(d:Dr rows){p:T3}(h:p∈rows.flatten):p.s.b≠2:=by
 have:=d.way p h;show p.b≠2;lia
theorem wd{n:Int}:n∈names rows↔∃ p∈rows.flatten,p.b=0/\p.a=n:=by
 unfold names;rw [Cv,Cc];constructor
 ·rintro⟨p,h,rfl⟩;obtain⟨h1,h2⟩:=List.mem_filter.mp h;exact⟨p,h1,by simpa using h2,rfl⟩
 ·rintro⟨p,h1,h2,rfl⟩;exact⟨p,List.mem_filter.mpr ⟨h1,by simpa using h2⟩,rfl⟩
end P
end K2
end
section
namespace K2
open PySem (Str)
open Enc (enc)
namespace P
variable {rows:Rows}
theorem HD(rows:Rows):(dS rows 0).length<=rows.flatten.length+rows.length:=by
 have:∀ (rs:Rows) (k:Nat),(dS rs k).length<=rs.flatten.length+rs.length:=by
  intro rs;induction rs with
  | nil=>intro k; simp [dS]
  | cons r rs ih =>
   intro k;have:=ih (k+1);rw [dS,aw,bz,aw,ak];have:(bS r (k:Int)).length<=r.length+1:=by
    unfold bS; split <;> simp
   lia
 exact this rows 0
theorem Ba(d:Dr rows):(dS rows 0).Nodup:=by
 have:∀ (rs:Rows) (k:Nat),(rs.flatten.map T3.s).Nodup->(∀ p∈rs.flatten,p.s.b≠2)->(dS rs k).Nodup/\∀ s∈dS rs k,(s.b=2/\(k:Int)<=s.a)\/(s.b≠2/\s∈rs.flatten.map T3.s):=by
  intro rs;induction rs with
  | nil=>intro k _ _; exact⟨cY,fun s h=>by cases h⟩
  | cons r rs ih =>
   intro k hn hb;rw [bz,aA,cj] at hn;obtain⟨n1,n2,n3⟩:=hn;obtain⟨i1,i2⟩:=ih (k+1) n2 fun p hp=>hb p (by rw [bz]; exact bb _ hp);have on:(bS r (k:Int)).Nodup/\∀ s∈bS r (k:Int),(s=⟨(k:Int),2⟩)\/(s.b≠2/\s∈r.map T3.s):=by
    unfold bS;split
    ·exact⟨by simp,fun s h=>.inl (List.mem_singleton.mp h)⟩
    ·refine⟨n1,fun s h=>.inr ⟨?_,h⟩⟩;obtain⟨p,hp,rfl⟩:=List.mem_map.mp h;exact hb p (by rw [bz]; exact bW _ hp)
   rw [dS];refine⟨?_,?_⟩
   ·rw [cj];refine⟨on.1,i1,fun a ha b uS e=>?_⟩;subst e;rcases on.2 a ha with rfl | ⟨h1,h2⟩ <;> rcases i2 _ uS with ⟨h3,h4⟩ | ⟨h3,h4⟩
    ·dsimp only at h4; lia
    ·exact h3 rfl
    ·exact h1 h3
    ·exact n3 _ h2 _ h4 rfl
   ·intro s hs;rcases List.mem_append.mp hs with h | h
    ·rcases on.2 s h with rfl | ⟨h1,h2⟩
     ·exact .inl ⟨rfl,yb _⟩
     ·exact .inr ⟨h1,by rw [bz,aA]; exact bW _ h2⟩
    ·rcases i2 s h with ⟨h1,h2⟩ | ⟨h1,h2⟩
     ·exact .inl ⟨h1,by lia⟩
     ·exact .inr ⟨h1,by rw [bz,aA]; exact bb _ h2⟩
 exact(this rows 0 d.nd fun p hp=>no2 d hp).1
end P
end K2
end
section
namespace K2
open PySem (Str)
open Enc (enc)
namespace QZ
open K2.P
noncomputable def wX:iO :=
 (cw (kY (iI (br Xs (au 1) (sG xx (aI (au 0) bx)))) (dN (gB (br j6 (au 0) (au 1)))) gx)
 (dN (gB (dC (.int 0)))))
noncomputable def xb(ns:List Int)(k:Int):Int:=ns.getD k.toNat 0
noncomputable def jt:om:=fun ds G Q _=>∃ (ns:List Int) (k:Int),ds=[.dJ (ns.map D.int),.int k]/\0<=k/\Q (.int (xb ns k)) G
theorem GA(ds:List D)(G:Gp)(Q:DK)(h:jt ds G Q fun _ _=>False):wX (fun _ _=>False) (ends Q) (bG 2 ds) G:=by
 obtain⟨ns,k,rfl,h0,q⟩:=h;unfold wX;simp only [cw,kY,bG,av,bc,ak,aG,aP,aW,dN,gB,br,au,aa,af,ends,yF,gx,dC,eC,sG,aI,bx,zK,CL,cH];split
 ·rename_i h;have h1:k < (ns.map D.int).length:=by simpa using h
  rw [vq _ h0 h1];simp only [j4];rw [ag] at h1;have e:xb ns k=ns[k.toNat]:=by unfold xb; rw [az,ai (by lia)]; rfl
  rw [<-e]; exact sE q
 ·rename_i h;have h1:¬ k < (ns.map D.int).length:=by simpa using h
  rw [ag] at h1;have e:xb ns k=0:=by unfold xb; rw [az,eK (by lia)]; rfl
  rw [<-e]; exact sE q
noncomputable def uh:iO :=
 (dN (gB (BX (Tb "int" (au 0)) (QC (Tb "bool" (au 0))))))
noncomputable def iG:om:=fun ds G Q _=>∃ i:Int,ds=[.int i]/\Q (.bl true) G
theorem DP(ds:List D)(G:Gp)(Q:DK)(h:iG ds G Q fun _ _=>False):uh (fun _ _=>False) (ends Q) (bG 1 ds) G:=by
 obtain⟨i,rfl,q⟩:=h;unfold uh;simp only [dN,gB,bG,av,bc,ak,aG,aP,aW,ends,zG,FY,K9,au,aa,Fj,cH];simpa using sE q
structure HR(G G':Gp)(p0:Nat)(as:List Nat)(rs:Rows):Prop where
 le:gz G G'
 fp:G p0=none
 gp:G' p0=some (.lst (as.map D.ref))
 np:p0∉as
 nd:as.Nodup
 fr:∀ a∈as,G a=none
 len:as.length=rs.length
 at':∀ (i a:Nat) (r:List T3),as[i]?=some a->rs[i]?=some r->G' a=some (.lst (r.map enc))
structure MI(st:Int)(n:Nat)(name:Int)(L:List T3):Prop where
 off:∃ off:Int,0<=off/\off<=83 * n/\name=(st+off) % 999/\∀ p∈L,∃ o:Int,0 < o/\o<=off/\p.a=(st+o) % 999+1
 nd:(L.map T3.s).Nodup
 way:∀ p∈L,p.b=0\/p.b=1
 hand:∀ p∈L,p.c=1\/p.c=-1
 Sy:∀ p∈L,(⟨p.a,1 - p.b,p.c⟩:T3)∈L
 len:L.length=2 * n
end QZ
end K2
end
section
namespace K2
open PySem (Str)
open Enc (enc)
namespace QZ
open K2.P
variable {rows:Rows}
end QZ
end K2
end
section
namespace K2
open PySem (Str)
open Enc (enc)
namespace QZ
open K2.P
variable {rows:Rows}
end QZ
end K2
end
section
namespace K2
open PySem (Str)
open Enc (enc)
namespace Z1
open K2.P
section
variable {α β:Type} [DecidableEq α] [DecidableEq β]
structure Tr(V:List α)(R:α->α->Prop)(A:List α):Prop where
 pw:A.Pairwise fun a b=>¬ R a b
 cov:∀ v∈V,∃ a∈A,R v a
 in':∀ a∈A,a∈V
structure Eqv(R:α->α->Prop):Prop where
 rf:∀ x,R x x
 sy:∀ {x y},R x y->R y x
 tr:∀ {x y z},R x y->R y z->R x z
variable {V:List α} {R:α->α->Prop}
structure Pm(V:List α)(f:α->α):Prop where
 cl:∀ a∈V,f a∈V
 inj:∀ a∈V,∀ b∈V,f a=f b->a=b
variable {f:α->α}
theorem TX:∀ (xs ys:List α),xs.Nodup->(∀ x∈xs,x∈ys)->xs.length<=ys.length
 | [],_,_,_=>cb _
 | x :: xs,ys,hn,h=>by
  rw [cF] at hn;have:=TX xs (ys.erase x) hn.2 fun y hy=>(wI (show y≠x from fun z=>hn.1 (by rw [<-z]; exact hy))).mpr (h y (ao _ hy));have hx:=h x (by simp);rw [qZ hx] at this;have:=tL hx;rw [ak]; lia
end
end Z1
end K2
end
section
namespace K2
namespace vP
noncomputable def bt(d x:Nat):Bool:=Nat.beq (Nat.land (Nat.shiftRight x d) 1) 1
noncomputable def WB:Nat->List Nat->Bool
 | _,[]=>true
 | _,[_]=>true
 | 0,_=>false
 | d+1,l=>WB d (l.filter (bt d))&&WB d (l.filter fun x=>!bt d x)
theorem O8{l:List Nat}(p:Nat->Bool)(h1:(l.filter p).Nodup)(h2:(l.filter fun x=>!p x).Nodup):l.Nodup:=by
 induction l with
 | nil=>exact cY
 | cons x l ih =>
  rw [cF];cases hp:p x with
  | true =>
   rw [fL hp,cF] at h1;rw [ia (by rw [hp]; decide)] at h2;exact⟨fun z=>h1.1 (List.mem_filter.mpr ⟨z,hp⟩),ih h1.2 h2⟩
  | false =>
   rw [ia (by rw [hp]; decide)] at h1;rw [fL (by rw [hp]; decide),cF] at h2;exact⟨fun z=>h2.1 (List.mem_filter.mpr ⟨z,by rw [hp]; decide⟩),ih h1 h2.2⟩
theorem O9:∀ (d:Nat) (l:List Nat),WB d l=true->l.Nodup
 | _,[],_=>cY
 | _,[x],_=>List.nodup_cons.mpr ⟨fD,cY⟩
 | 0,_ :: _ :: _,h=>bH (show false=true from h)
 | d+1,x :: y :: l,h=>by
  have h:(WB d ((x :: y :: l).filter (bt d))&&WB d ((x :: y :: l).filter fun x=>!bt d x))=true:=h;rw [aN] at h;exact O8 (bt d) (O9 d _ h.1) (O9 d _ h.2)
noncomputable def hN(t:T2):Nat:=(h2 t+9223372036854775808).toNat
noncomputable def pts:Nat->List T2
 | 0=>[]
 | n+1=>⟨((n+1:Nat):Int),0⟩ :: ⟨((n+1:Nat):Int),1⟩ :: pts n
set_option maxRecDepth 100000 in
theorem U2:WB 64 ((pts 999).map hN)=true:=by decide +kernel
theorem HN:∀ (n:Nat) (t:T2),1<=t.a->t.a<=n->t.b=0\/t.b=1->t∈pts n
 | 0,t,h1,h2,_=>by lia
 | n+1,⟨a,b⟩,h1,h2,h3=>by
  by_cases c:a=((n+1:Nat):Int)
  ·subst c;rcases h3 with h3 | h3
   ·have h3:b=0:=h3;subst h3;exact aB
   ·have h3:b=1:=h3;subst h3;exact ao _ aB
  ·exact ao _ (ao _ (HN n _ h1 (by have:a<=((n+1:Nat):Int):=h2; show a<=(n:Int); lia) h3))
theorem Pz{α β:Type}{f:α->β}:∀ {l:List α},(l.map f).Nodup->∀ x∈l,∀ y∈l,f x=f y->x=y
 | [],_,x,hx,_,_,_=>by cases hx
 | a :: l,nd,x,hx,y,hy,e=>by
  rw [av,cF] at nd;rcases List.mem_cons.mp hx with q | q
  ·rcases List.mem_cons.mp hy with r | r
   ·rw [q,r]
   ·exact absurd (by rw [<-q,e]; exact bq r) nd.1
  ·rcases List.mem_cons.mp hy with r | r
   ·exact absurd (by rw [<-r,<-e]; exact bq q) nd.1
   ·exact Pz nd.2 x q y r e
theorem VY{s t:T2}(hs:(1<=s.a/\s.a<=999)/\(s.b=0\/s.b=1))(ht:(1<=t.a/\t.a<=999)/\(t.b=0\/t.b=1))(e:h2 s=h2 t):s=t :=
 Pz (O9 64 _ U2) s (HN 999 s hs.1.1 hs.1.2 hs.2) t (HN 999 t ht.1.1 ht.1.2 ht.2) (by unfold hN; rw [e])
theorem Ud:∀ (l:List T2),l.Nodup->(∀ s∈l,(1<=s.a/\s.a<=999)/\(s.b=0\/s.b=1))->(l.map h2).Nodup
 | [],_,_=>cY
 | s :: l,nd,h=>by
  rw [cF] at nd;rw [av,cF];refine⟨fun z=>?_,Ud l nd.2 fun t ht=>h t (ao _ ht)⟩;obtain⟨t,ht,e⟩:=List.mem_map.mp z;have:=VY (h s aB) (h t (ao _ ht)) e.symm;exact nd.1 (this ▸ ht)
end vP
end K2
end
section
namespace K2
open PySem (Str)
open Enc (enc)
namespace vP
open K2.P K2.QZ
noncomputable def eO(b s:T2):T2:=if s.b=1 then s else b
noncomputable def lR:T2->List T2->List (T2×T2)
 | _,[]=>[]
 | b,s :: ss=>(s,eO b s) :: lR (eO b s) ss
noncomputable def jA(ss:List T2)(k:Int):T2:=ss.foldl eO ⟨k,2⟩
noncomputable def kc(r:List T3)(k:Int):List (T2×T2):=lR (jA (bS r k) k) (bS r k)
theorem zh:∀ (a c:List T2) (b:T2),lR b (a++c)=lR b a++lR (a.foldl eO b) c
 | [],c,b=>rfl
 | s :: a,c,b=>by rw [aP,lR,lR,zh a c,aP]; rfl
theorem l7:∀ (a:List T2) (b:T2),(lR b a).map (·.1)=a
 | [],_=>rfl
 | s :: a,b=>by rw [lR,av,l7 a]
theorem zg(a:List T2)(b:T2):(lR b a).length=a.length:=by have:=congrArg cV (l7 a b); rwa [ag] at this
theorem wu:∀ (l:List T2) (b:T2),l.foldl eO b=(l.reverse.find? fun s=>s.b == 1).getD b
 | [],b=>rfl
 | s :: l,b=>by
  rw [bT,wu l,List.reverse_cons,A1];cases h:l.reverse.find? fun s=>s.b == 1 with
  | some t=>rfl
  | none =>
   by_cases c:s.b=1
   ·simp [eO,c]
   ·simp [eO,c]
theorem fold_filter:∀ (l:List T2) (b:T2),l.foldl eO b=((l.filter fun s=>s.b == 1).getLast?).getD b
 | [],b=>rfl
 | s :: l,b=>by
  rw [bT,fold_filter l];by_cases c:s.b=1
  ·have:(s :: l).filter (fun s=>s.b == 1)=s :: l.filter (fun s=>s.b == 1):=fL (by simp [c]);rw [this,List.getLast?_cons,eO,if_pos c]; simp
  ·have:(s :: l).filter (fun s=>s.b == 1)=l.filter (fun s=>s.b == 1):=ia (by simp [c]);rw [this,eO,if_neg c]
noncomputable def fu:Rows->Nat->List (T2×T2)
 | [],_=>[]
 | r :: rs,k=>kc r (k:Int)++fu rs (k+1)
theorem qL:∀ (a b:Rows) (k:Nat),fu (a++b) k=fu a k++fu b (k+a.length)
 | [],b,k=>by simp [fu]
 | r :: a,b,k=>by rw [aP,fu,fu,qL a b (k+1),cK,ak]; congr 3; lia
theorem iH:∀ (rs:Rows) (k:Nat),(fu rs k).map (·.1)=dS rs k
 | [],_=>rfl
 | r :: rs,k=>by rw [fu,dS,aA,iH rs,kc,l7]
theorem OT(rs:Rows)(k:Nat):(fu rs k).length=(dS rs k).length:=by have:=congrArg cV (iH rs k); rwa [ag] at this
noncomputable def RP(r:List T3)(k:Int):List T2:=(bS r k).filter fun s=>s.b == 1
noncomputable def Ra(r:List T3)(k:Int):List T2:=if RP r k=[] then [⟨k,2⟩] else RP r k
noncomputable def ye:Rows->Nat->List T2
 | [],_=>[]
 | r :: rs,k=>Ra r (k:Int)++ye rs (k+1)
theorem oY(r:List T3)(k:Int):bS r k≠[]:=by
 unfold bS;split
 ·simp
 ·rename_i h; simpa using h
theorem A8(b s:T2):(s.b=1/\eO b s=s)\/(s.b≠1/\eO b s=b):=by
 unfold eO;by_cases c:s.b=1
 ·exact .inl ⟨c,if_pos c⟩
 ·exact .inr ⟨c,if_neg c⟩
theorem Fv:∀ (a:List T2) (b y:T2),y∈(lR b a).map (·.2)->(y∈a/\y.b=1)\/y=b
 | [],b,y,h=>by cases h
 | s :: a,b,y,h=>by
  rw [lR,av] at h;rcases List.mem_cons.mp h with e | h
  ·rcases A8 b s with ⟨c,e2⟩ | ⟨_,e2⟩
   ·exact .inl ⟨by rw [e,e2]; exact aB,by rw [e,e2]; exact c⟩
   ·exact .inr (e.trans e2)
  ·rcases Fv a _ y h with ⟨h1,h2⟩ | h1
   ·exact .inl ⟨ao _ h1,h2⟩
   ·rcases A8 b s with ⟨c,e2⟩ | ⟨_,e2⟩
    ·exact .inl ⟨by rw [h1,e2]; exact aB,by rw [h1,e2]; exact c⟩
    ·exact .inr (h1.trans e2)
theorem Fw:∀ (a:List T2) (b y:T2),y∈a->y.b=1->y∈(lR b a).map (·.2)
 | [],b,y,h,_=>by cases h
 | s :: a,b,y,h,hy=>by
  rw [lR,av];rcases List.mem_cons.mp h with e | h
  ·subst e;rw [show eO b y=y from if_pos hy]; exact aB
  ·exact ao _ (Fw a _ y h hy)
theorem Mx:∀ (a:List T2) (b:T2),a≠[]->(a.filter fun s=>s.b == 1)=[]->b∈(lR b a).map (·.2)
 | [],b,h,_=>absurd rfl h
 | s :: a,b,_,h=>by
  have c:s.b≠1:=fun z=>by
   rw [fL (by simp [z])] at h; cases h
  rw [lR,av,show eO b s=b from if_neg c]; exact aB
theorem KS(l:List T2)(b:T2):(l.foldl eO b∈l.filter fun s=>s.b == 1)\/((l.filter fun s=>s.b == 1)=[]/\l.foldl eO b=b):=by
 rw [fold_filter];cases h:(l.filter fun s=>s.b == 1).getLast? with
 | none=>exact .inr ⟨List.getLast?_eq_none_iff.mp h,rfl⟩
 | some t=>exact .inl (RD h)
theorem LZ(r:List T3)(k:Int)(y:T2):y∈(kc r k).map (·.2)↔y∈Ra r k:=by
 unfold kc Ra RP;have j8:=oY r k;generalize bS r k=ss at j8;constructor
 ·intro h;rcases Fv ss _ y h with ⟨h1,h2⟩ | h1
  ·have:y∈ss.filter fun s=>s.b == 1:=List.mem_filter.mpr ⟨h1,by simp [h2]⟩;rw [if_neg (fun z=>by rw [z] at this; cases this)]; exact this
  ·unfold jA at h1;rcases KS ss ⟨k,2⟩ with h2 | ⟨h2,h3⟩
   ·rw [if_neg (fun z=>by rw [z] at h2; cases h2),h1]; exact h2
   ·rw [if_pos h2,h1,h3]; exact List.mem_singleton_self _
 ·intro h;by_cases c:(ss.filter fun s=>s.b == 1)=[]
  ·rw [if_pos c] at h;rw [List.mem_singleton.mp h];have:=Mx ss (jA ss k) j8 c;rcases KS ss ⟨k,2⟩ with h2 | ⟨h2,h3⟩
   ·rw [c] at h2; cases h2
   ·unfold jA at this ⊢; rw [h3] at this ⊢; exact this
  ·rw [if_neg c] at h;obtain⟨h1,h2⟩:=List.mem_filter.mp h;exact Fw ss _ y h1 (by simpa using h2)
theorem my:∀ (rs:Rows) (k:Nat) (y:T2),y∈(fu rs k).map (·.2)↔y∈ye rs k
 | [],_,_=>Iff.rfl
 | r :: rs,k,y=>by rw [fu,ye,aA,vG,vG,LZ,my rs]
theorem Uv{r:List T3}{k:Int}{y:T2}(h:y∈RP r k):y∈r.map T3.s/\y.b=1:=by
 obtain⟨h1,h2⟩:=List.mem_filter.mp h;have h2:y.b=1:=by simpa using h2
 unfold bS at h1;split at h1
 ·rw [List.mem_singleton.mp h1] at h2; exact absurd (show (2:Int)=1 from h2) (by decide)
 ·exact⟨h1,h2⟩
theorem Ob{r:List T3}{k:Int}{y:T2}(h:y∈Ra r k):(y∈r.map T3.s/\y.b=1)\/y=⟨k,2⟩:=by
 unfold Ra at h;split at h
 ·exact .inr (List.mem_singleton.mp h)
 ·exact .inl (Uv h)
theorem Cm:∀ (rs:Rows) (k:Nat) (y:T2),y∈ye rs k->(y∈rs.flatten.map T3.s/\y.b=1)\/(y.b=2/\(k:Int)<=y.a)
 | [],_,_,h=>by cases h
 | r :: rs,k,y,h=>by
  rw [ye] at h;rw [bz,aA];rcases List.mem_append.mp h with h | h
  ·rcases Ob h with ⟨h1,h2⟩ | rfl
   ·exact .inl ⟨bW _ h1,h2⟩
   ·exact .inr ⟨rfl,yb _⟩
  ·rcases Cm rs (k+1) y h with ⟨h1,h2⟩ | ⟨h1,h2⟩
   ·exact .inl ⟨bb _ h1,h2⟩
   ·exact .inr ⟨h1,by lia⟩
theorem Uu{r:List T3}(k:Int)(h:(r.map T3.s).Nodup):(RP r k).Nodup:=by
 unfold RP bS;split
 ·exact(D1 _ (by simp))
 ·exact h.filter _
theorem Ux{r:List T3}(k:Int)(h:(r.map T3.s).Nodup):(Ra r k).Nodup:=by
 unfold Ra;split
 ·simp
 ·exact Uu k h
theorem Ck:∀ (rs:Rows) (k:Nat),(rs.flatten.map T3.s).Nodup->(ye rs k).Nodup
 | [],_,_=>cY
 | r :: rs,k,h=>by
  rw [bz,aA,cj] at h;rw [ye,cj];refine⟨Ux _ h.1,Ck rs (k+1) h.2.1,fun a ha b hb e=>?_⟩;subst e;rcases Ob ha with ⟨h1,h2⟩ | h1
  ·rcases Cm rs _ _ hb with ⟨h3,h4⟩ | ⟨h3,h4⟩
   ·exact h.2.2 a h1 a h3 rfl
   ·rw [h2] at h3; exact absurd h3 (by decide)
  ·rcases Cm rs _ _ hb with ⟨h3,h4⟩ | ⟨h3,h4⟩
   ·rw [h1] at h4; exact absurd h4 (by show ¬ (2:Int)=1; decide)
   ·rw [h1] at h4;have h4:((k+1:Nat):Int)<=(k:Int):=h4;lia
noncomputable def cT(rows:Rows):List T2:=LK (ye rows 0)
theorem Tp{rows:Rows}(d:Dr rows){m:List T2}(nd:m.Nodup)(h:∀ y,y∈m↔y∈(fu rows 0).map (·.2)):LK m=cT rows :=
 UL ((Hf nd (Ck rows 0 d.nd)).mpr fun y=>(h y).trans (my rows 0 y))
noncomputable def cnt(r:List T3):Nat:=max 1 (r.filter fun p=>p.b == 1).length
theorem RQ(r:List T3)(k:Int):(Ra r k).length=cnt r:=by
 have e:(RP r k).length=(r.filter fun p=>p.b == 1).length:=by
  unfold RP bS;split
  ·rename_i h; subst h; rfl
  ·rw [List.filter_map,ag]; rfl
 unfold Ra cnt;split
 ·rename_i h;rw [h] at e;have e:0=(r.filter fun p=>p.b == 1).length:=e;rw [<-e]; rfl
 ·rename_i h;rw [e];have:(r.filter fun p=>p.b == 1).length≠0:=fun z=>h (List.length_eq_zero_iff.mp (e.trans z));lia
theorem Em:∀ (rs:Rows) (k:Nat),(ye rs k).length=(rs.map cnt).sum
 | [],_=>rfl
 | r :: rs,k=>by rw [ye,aw,RQ,Em rs,av,Nf]
theorem QO(rows:Rows):(cT rows).length=(rows.map cnt).sum:=by unfold cT; rw [JQ,Em]
noncomputable def Ut(r:List T3)(j:Nat):List T3:=(r.take (j+1)).reverse++(r.drop (j+1)).reverse
noncomputable def sS(r:List T3)(k:Int)(j:Nat):T2:=(((Ut r j).find? fun p=>p.b == 1).map T3.s).getD ⟨k,2⟩
theorem Qd(l:List T3):(l.map T3.s).find? (fun s=>s.b == 1)=(l.find? fun p=>p.b == 1).map T3.s:=by
 rw [List.find?_map]; rfl
theorem jx(r:List T3)(k:Int)(j:Nat)(hr:r≠[]):sS r k j=((bS r k).take (j+1)).foldl eO (jA (bS r k) k):=by
 have e:bS r k=r.map T3.s:=by unfold bS; rw [if_neg hr]
 rw [e];unfold sS Ut jA;rw [wu,wu,A1,<-Ni,<-List.map_reverse,Qd,<-List.map_reverse,Qd];have e2:r.reverse=(r.drop (j+1)).reverse++(r.take (j+1)).reverse:=by rw [<-List.reverse_append,c9]
 rw [e2,A1];cases h1:(r.take (j+1)).reverse.find? fun p=>p.b == 1 with
 | some t=>rfl
 | none =>
  cases h2:(r.drop (j+1)).reverse.find? fun p=>p.b == 1 with
  | some t=>rfl
  | none=>rfl
end vP
end K2
end
section
namespace K2
open PySem (Str)
open Enc (enc)
namespace vP
open K2.P K2.QZ
theorem eq_int(i j:Int):ic (.int i) (.int j)=decide (i=j):=Enc.eqv i j
theorem lu{c:x2}{a b:iO}{E:lb}{K:mL}{τ:gS}{G:Gp}:kY c a b E K τ G=c E τ G fun k G1=>if k=true then a E K τ G1 else b E K τ G1:=rfl
noncomputable def yD:iO :=
 (cw (bK (cE nq (aI (au 0) (aI (au 1) bx))) (aM 2))
 (cw (bK (fm 1 [] (nY (au 2)) (aM 0) (some (iI (br (GN false) (br j6 (au 0) (dC (.int 1))) (dC (.int 1))))) (au 0)) (aM 3))
 (cw (bK (QD (iI (au 3)) (br j6 (au 3) (Jd HL (dC (.int 1)))) (mH (aI (au 1) (aI (dC (.int 2)) bx)))) (aM 4))
 (cw (bK xq (aM 5))
 (cw (gO (nY (au 2)) (aM 6) (cw (kY (iI (br (GN false) (br j6 (au 6) (dC (.int 1))) (dC (.int 1)))) (bK (au 6) (aM 4)) gx)
 (bK (au 4) (lA (au 5) (au 6)))))
 (dN (gB (au 5))))))))
noncomputable def o3:om:=fun ds G Q _=>∃ (r:List T3) (k:Int),ds=[enc r,.int k]/\((bS r k).Nodup/\r.length<=24)/\Q (.kh (bD (kc r k))) G
theorem Er(r:List T3)(k:Int):(bS r k).length<=r.length+1:=by
 unfold bS; split
 ·simp
 ·rw [ag]; lia
theorem Jq(ds:List D)(G:Gp)(Q:DK)(h:o3 ds G Q fun _ _=>False):yD (fun _ _=>False) (ends Q) (bG 7 ds) G:=by
 obtain⟨r,k,rfl,⟨nd,hl⟩,q⟩:=h;have sl:=Er r k;have j8:=oY r k;unfold yD;simp only [ends,bG,av,bc,ak,aG,aK,aP,aW,cQ,bK,cE,aI,au,aa,af,bx,aM,ay,aq,fm,xq,fA];refine⟨r,k,rfl,by lia,?_⟩;unfold kc at q;generalize bS r k=ss at nd sl j8 q;refine kG ⟨Cu (by rw [ag]; lia),?_⟩;refine iy (xs:=ss) (fun pre acc τ G'=>G=G'/\(∃ a,τ=[a])/\acc=(pre.filter fun s=>s.b == 1).map enc) ⟨rfl,⟨_,rfl⟩,rfl⟩ (fun _ _ _ _ _=>trivial) ?_ ?_
 ·rintro pre x post acc τ G' N e ⟨rfl,⟨a,rfl⟩,rfl⟩ hN;simp only [aM,zB,aq,au,aa,eC,br,dC,i6,Uk];refine⟨_,_,.int _,.int _,?_⟩;rw [eq_int];by_cases c:x.b=1
  ·simp only [aQ,c,decide_true,cS,if_false,cH,if_true];refine hN _ _ _ ⟨rfl,⟨_,rfl⟩,?_⟩;rw [cZ,aA,fL (by simp [c])];simp only [oQ,av,bc,zB,c]
  ·simp only [aQ,c,decide_false,fN,if_false,cH];refine hN _ _ _ ⟨rfl,⟨_,rfl⟩,?_⟩;rw [cZ,ia (by simp [c])]; simp
 ·rintro acc τ G' ⟨rfl,⟨a,rfl⟩,rfl⟩ p3 f3;have fl:=fold_filter ss ⟨k,2⟩;have ul:(ss.filter fun s=>s.b == 1).length<=ss.length:=je _ _;generalize (ss.filter fun s=>s.b == 1)=us at fl ul;have g3:(c6 G p3 (.lst (us.map enc))) p3=some (.lst (us.map enc)):=aH;have l3:gz G (c6 G p3 (.lst (us.map enc))):=.new f3;generalize c6 G p3 (.lst (us.map enc))=G3 at g3 l3;have pick:∀ (Q2:DK) (E:lb),Q2 (enc (jA ss k)) G3->QD (iI (au 3)) (br j6 (au 3) (Jd HL (dC (D.int 1)))) (mH (aI (au 1) (aI (dC (D.int 2)) bx))) E [some (enc r),some (D.int k),some (enc ss),some (D.ref p3),none,none,none] G3 Q2:=by
   intro Q2 E q2;simp only [QD,br,au,af,aa,Jd,dC,qK,mH,aI,bx,ak,aG,eC];refine yj (IsL.ref g3) ?_;cases hu:us with
   | nil =>
    simp only [bc,sJ,cS,aQ,if_false];refine⟨by decide,?_⟩;have:jA ss k=⟨k,2⟩:=by unfold jA; rw [fl,hu]; rfl
    rw [this] at q2; exact q2
   | cons u Zm =>
    simp only [av,List.isEmpty_cons,fN,if_true];refine mx (IsL.ref g3) (x:=enc (jA ss k)) ?_ q2;unfold jA;rw [fl,List.getLast?_eq_getElem?,hu];unfold pJ Fh;rw [if_neg (by decide),if_pos (by simp only [ag,ak]; lia)];show (((u :: Zm).map enc))[((-1:Int)+(((u :: Zm).map (enc:T2->D)).length:Int)).toNat]?=_;rw [ag,show ((-1:Int)+(((u :: Zm).length:Nat):Int)).toNat=(u :: Zm).length - 1 by simp only [ak]; lia,aX,ai (by simp)]; rfl
  refine pick _ _ ?_;simp only [jb];intro p5 f5;have n5:G p5=none:=l3.free f5;refine fO (fun τ G'=>gz G G'/\G' p5=some (.ja (bD (lR (jA ss k) ss)))/\∃ a b c d e f,τ=[a,b,c,d,e,some (.ref p5),f]) ?_ ?_
  ·intro N hN;simp only [gO,fA,au,af,aa];refine kG ?_;refine gh (xs:=ss) (fun pre τ G'=>gz G G'/\G' p5=some (.ja (bD (lR (jA ss k) pre)))/\∃ f,τ=[some (enc r),some (.int k),some (enc ss),some (.ref p3),some (enc (pre.foldl eO (jA ss k))),some (.ref p5),f]) ⟨l3.trans (.new f5),aH,_,rfl⟩ (fun _ _ _ _=>trivial) ?_ ?_
   ·rintro pre s post τ G' N2 e ⟨le,gp,f,rfl⟩ lQ;have hlp:pre.length < ss.length:=by have:=congrArg cV e; simp at this; lia
    have abX:s∉(lR (jA ss k) pre).map (·.1):=fun z=>by
     rw [l7] at z;rw [e,cj] at nd;exact nd.2.2 s z s aB rfl
    have gl:=zg pre (jA ss k);refine fO (fun τ G2=>G'=G2/\τ=[some (enc r),some (.int k),some (enc ss),some (.ref p3),some (enc (eO (pre.foldl eO (jA ss k)) s)),some (.ref p5),some (enc s)]) ?_ ?_
    ·intro N3 Ro;simp only [zB,ay,aq,lu,bK,au,af,aa,aM,gx,eC,br,dC,i6,Uk];refine⟨_,_,.int _,.int _,?_⟩;rw [eq_int];by_cases c:s.b=1
     ·simp only [aQ,c,decide_true,cS,if_false,cH,if_true];refine Ro _ _ ⟨rfl,?_⟩;rw [show eO (pre.foldl eO (jA ss k)) s=s from if_pos c];simp only [zB,c]
     ·simp only [aQ,c,decide_false,fN,if_false,cH];refine Ro _ _ ⟨rfl,?_⟩;rw [show eO (pre.foldl eO (jA ss k)) s=pre.foldl eO (jA ss k) from if_neg c];simp only [zB]
    ·rintro _ _ ⟨rfl,rfl⟩;simp only [bK,au,af,aa,lA];refine P.lX (k:=s) (v:=eO (pre.foldl eO (jA ss k)) s) gp (by lia) ?_;refine lQ _ _ ⟨le.put n5,?_,some (enc s),?_⟩
     ·rw [aH,zh,zM abX]; rfl
     ·rw [e9]; rfl
   ·rintro τ G' ⟨le,gp,f,rfl⟩;exact hN _ _ ⟨le,gp,_,_,_,_,_,_,rfl⟩
  ·rintro _ G' ⟨le,gp,a,b,c,d,e,f,rfl⟩;simp only [dN,gB,au,af,aa];exact zi le n5 gp q
noncomputable def Br:iO :=
 (cw (bK xq (aM 1))
 (cw (gO (Fo (au 0)) (uV (iN (aM 2) (iN (aM 3) sX))) (fF (tN Zn Pc (au 1) (aI (gB (cE o3 (aI (au 3) (aI (au 2) bx)))) bx))))
 (dN (gB (au 1)))))
noncomputable def NB(rows:Rows):Prop:=∀ p∈rows.flatten,1<=p.a/\p.a<=999
noncomputable def gr:om:=fun ds G Q _=>∃ rows:Rows,ds=[enc rows]/\(Dr rows/\NB rows)/\Q (.kh (bD (fu rows 0))) G
theorem HJ{rows:Rows}(d:Dr rows){r:List T3}(h:r∈rows):(r.map T3.s).Nodup:=by
 obtain⟨a,b,e⟩:=pW h;have:=d.nd;rw [e,oP,bz,aA,aA,cj,cj] at this;exact this.2.1.1
theorem JX{rows:Rows}(d:Dr rows){r:List T3}(h:r∈rows):r.length<=24:=by
 obtain⟨a,b,e⟩:=pW h;have:=d.nH;rw [e,oP,bz,aw,aw] at this;lia
theorem HC{r:List T3}(k:Int)(h:(r.map T3.s).Nodup):(bS r k).Nodup:=by
 unfold bS; split
 ·simp
 ·exact h
theorem CM{rows:Rows}(d:Dr rows):(fu rows 0).length<=27:=by
 rw [OT];have:=HD rows;have:=d.nH;have:=d.str;lia
theorem U4{rows:Rows}(d:Dr rows)(nb:NB rows){r:List T3}(h:r∈rows)(k:Int):((kc r k).map fun p=>h2 p.1).Nodup:=by
 have e:((kc r k).map fun p=>h2 p.1)=(bS r k).map h2:=by
  rw [<-l7 (bS r k) (jA (bS r k) k),bA]; rfl
 rw [e];by_cases c:r=[]
 ·subst c;exact List.nodup_cons.mpr ⟨fD,cY⟩
 ·have es:bS r k=r.map T3.s:=by unfold bS; rw [if_neg c]
  rw [es];refine Ud _ (HJ d h) fun s hs=>?_;obtain⟨p,hp,rfl⟩:=List.mem_map.mp hs;have ZH:p∈rows.flatten:=List.mem_flatten.mpr ⟨r,h,hp⟩;exact⟨nb p ZH,d.way p ZH⟩
theorem M8(ds:List D)(G:Gp)(Q:DK)(h:gr ds G Q fun _ _=>False):Br (fun _ _=>False) (ends Q) (bG 4 ds) G:=by
 obtain⟨rows,rfl,⟨d,nb⟩,q⟩:=h;have nH:=CM d;unfold Br;simp only [ends,bG,av,bc,ak,aG,aK,aP,aW,cQ,bK,xq,jb,aM,ay,aq];intro p hp;refine fO (fun τ G'=>(∃ a b,τ=[some (enc rows),some (.ref p),a,b])/\gz G G'/\G' p=some (.ja (bD (fu rows 0)))) ?_ ?_
 ·intro N hN;simp only [gO,Fo,au,aa];refine w5 ?_;rw [Qn];refine gh (xs:=rows.zipIdx 0) (fun pre τ G'=>(∃ a b,τ=[some (enc rows),some (.ref p),a,b])/\gz G G'/\G' p=some (.ja (bD (fu (pre.map (·.1)) 0)))) ⟨⟨_,_,rfl⟩,.new hp,aH⟩ (fun _ _ _ _=>trivial) ?_ ?_
  ·rintro pre x post τ G' N2 e ⟨⟨a,b,rfl⟩,l,gp⟩ lQ;obtain⟨mO,Xn,e1,e2,e3⟩:=Cg e;have hx:x.1∈rows:=by rw [e1]; simp
   have ep:pre.map (·.1)=mO:=by rw [e3,ka]
   rw [ep] at gp;have eL:fu rows 0=(fu mO 0++kc x.1 (x.2:Int))++fu Xn (mO.length+1):=by
    rw [e1,qL,fu,e2,hV,cK]
   have hlen:(fu mO 0).length+(kc x.1 (x.2:Int)).length<=27:=by
    rw [eL,aw,aw] at nH; lia
   have knd:((fu mO 0++kc x.1 (x.2:Int)).map (·.1)).Nodup:=by
    have:=Ba d;rw [<-iH,eL,aA,cj] at this;exact this.1
   simp only [uV,iN,aM,sX,fF,tN,au,ay,aq,af,aa,JH,gp,aI,gB,cE,bx,true_and];refine⟨x.1,_,rfl,⟨HC _ (HJ d hx),JX d hx⟩,sE ?_⟩;refine⟨fu mO 0,kc x.1 (x.2:Int),gp,rfl,⟨by lia,knd,fun _=>U4 d nb hx _⟩,?_⟩;refine lQ _ _ ⟨⟨_,_,rfl⟩,l.put hp,?_⟩;rw [aH,aA,ep];simp only [av,bc];rw [qL,fu,fu,bU,e2,hV]
  ·rintro τ G' ⟨⟨a,b,rfl⟩,l,gp⟩;rw [ka] at gp;exact hN _ _ ⟨⟨_,_,rfl⟩,l,gp⟩
 ·rintro _ G' ⟨⟨a,b,rfl⟩,l,gp⟩;simp only [dN,gB,au,af,aa];exact zi l hp gp q
noncomputable def J0:iO :=
 (dN (gB (sG wC (aI (Jf (cE gr (aI (au 0) bx))) bx))))
noncomputable def jI:om:=fun ds G Q _=>∃ rows:Rows,ds=[enc rows]/\(Dr rows/\NB rows/\rows≠[])/\Q (enc (cT rows)) G
theorem Ke{rows:Rows}(h:rows≠[]):1<=(fu rows 0).length:=by
 cases rows with
 | nil=>exact absurd rfl h
 | cons r rs =>
  rw [fu,aw,kc,zg];have:=List.length_pos_iff.mpr (oY r ((0:Nat):Int));lia
theorem Tx(ds:List D)(G:Gp)(Q:DK)(h:jI ds G Q fun _ _=>False):J0 (fun _ _=>False) (ends Q) (bG 1 ds) G:=by
 obtain⟨rows,rfl,⟨d,nb,j8⟩,q⟩:=h;have nH:=CM d;have pos:=Ke j8;unfold J0;simp only [dN,gB,sG,aI,Jf,cE,au,bG,av,bc,ak,aG,aP,aW,aa,bx,ends];refine⟨rows,rfl,⟨d,nb⟩,⟨fu rows 0,rfl,by lia,fun p1 f1=>?_⟩⟩;refine⟨(fu rows 0).map (·.2),?_,by rw [ag]; lia,fun m nd hm p2 f2=>?_⟩
 ·unfold oA; simp only [aH]; rw [bA]; rfl
 ·rw [Tp d nd hm];refine jo ((gz.new f1).trans (.new f2)) ((gz.new f1).free f2) aH q
end vP
end K2
end
section
namespace K2
open PySem (Str)
open Enc (enc)
namespace vP
open K2.P
open K2.QZ
theorem yH{rows:Rows}(d:Dr rows):((fu rows 0).map (·.1)).Nodup:=by rw [iH]; exact Ba d
theorem mI{rows:Rows}(d:Dr rows):(cT rows).length<=27:=by
 rw [QO];have h1:=d.nH;have h2:=d.str;have go:∀ rs:Rows,(rs.map cnt).sum<=rs.flatten.length+rs.length:=fun rs=>by
  induction rs with
  | nil=>exact aC _
  | cons r rs ih =>
   rw [av,Nf,bz,aw,ak];have:cnt r<=r.length+1:=by
    unfold cnt;have:=je (fun p:T3=>p.b == 1) r;lia
   lia
 have:=go rows;lia
end vP
end K2
end
section
namespace K2
open PySem (Str)
open Enc (enc)
namespace NC
open K2.P
open K2.vP (NB jI gr fu kc lR zh l7 zg jA eO cT ye Ra RP sS jx Ut yH CM iH qL my mI JX HJ eq_int lu oY Ke)
variable {rows:Rows}
noncomputable def hm(rows:Rows)(s:T2):T2:=(pL (fu rows 0) s).getD s
theorem uQ(d:Dr rows){s:T2}(h:s∈dS rows 0):pL (fu rows 0) s=some (hm rows s)/\hm rows s∈cT rows:=by
 rw [<-iH] at h;obtain⟨p,hp,rfl⟩:=List.mem_map.mp h;have e:=fU (yH d) hp;have e2:hm rows p.1=p.2:=by unfold hm; rw [e]; rfl
 refine⟨by rw [e2]; exact e,?_⟩;rw [e2];unfold cT;exact Cv.mpr ((my rows 0 _).mp (bq hp))
theorem gX:∀ (rs:Rows) (k:Nat) {p:T3},p∈rs.flatten->p.s∈dS rs k
 | [],_,_,h=>by cases h
 | r :: rs,k,p,h=>by
  rw [bz] at h;rw [dS];rcases List.mem_append.mp h with h | h
  ·refine bW _ ?_;unfold bS;rw [if_neg (fun z=>by rw [z] at h; cases h)];exact bq h
  ·exact bb _ (gX rs (k+1) h)
theorem lO(d:Dr rows){n:Int}(h:n∈names rows)(w:Int)(hw:w=0\/w=1):∃ p∈rows.flatten,p.s=⟨n,w⟩:=by
 obtain⟨p,hp,e1,e2⟩:=wd.mp h;rcases hw with rfl | rfl
 ·exact⟨p,hp,by rw [<-e2,<-e1]; rfl⟩
 ·refine⟨_,d.Sy p hp,?_⟩;rw [e1,e2]; rfl
theorem KR:∀ (a:List T2) (b:T2) (j:Nat) (h:j < a.length),(a[j],(a.take (j+1)).foldl eO b)∈lR b a
 | [],_,_,h=>absurd h (bV _)
 | s :: a,b,0,h=>aB
 | s :: a,b,j+1,h=>ao _ (KR a (eO b s) j (by simpa using h))
theorem uw{mO Xn:Rows}{r:List T3}{x:T2×T2}(h:x∈kc r (mO.length:Int)):x∈fu (mO++r :: Xn) 0:=by
 rw [qL,fu];refine bb _ (bW _ ?_);rw [hV]; exact h
theorem wm(d:Dr rows){mO Xn:Rows}{r:List T3}(e:rows=mO++r :: Xn){j:Nat}(hj:j < r.length):hm rows (r[j]).s=sS r (mO.length:Int) j:=by
 have hr:r≠[]:=fun z=>by rw [z] at hj; exact absurd hj (bV _)
 have es:bS r (mO.length:Int)=r.map T3.s:=by unfold bS; rw [if_neg hr]
 have m:((r[j]).s,sS r (mO.length:Int) j)∈fu rows 0:=by
  rw [e];refine uw ?_;rw [jx r _ j hr];have:=KR (bS r (mO.length:Int)) (jA (bS r (mO.length:Int)) (mO.length:Int)) j (by rw [es,ag]; exact hj);have e2:(bS r (mO.length:Int))[j]'(by rw [es,ag]; exact hj)=(r[j]).s:=by simp [es]
  rw [e2] at this;exact this
 unfold hm;rw [fU (yH d) m]; rfl
noncomputable def ix(rows:Rows)(s:T2):Int:=((cT rows).idxOf s:Nat)
noncomputable def A7(rows:Rows)(n:Int):T3:=⟨ix rows (hm rows ⟨n,0⟩),ix rows (hm rows (Tg rows ⟨n,1⟩)),ix rows (hm rows ⟨n,1⟩)⟩
theorem Fg{s:T2}(h:s∈cT rows):0<=ix rows s/\ix rows s < (cT rows).length:=by
 unfold ix;have:=jf h;lia
theorem yP{x:D}{G:Gp}{l:List T2}{n:T2}{Q:DK}(h:IsL G x (l.map enc))(hn:n∈l)(q:Q (.int ((l.idxOf n:Nat):Int)) G):qN x [enc n] G Q:=by
 refine⟨yg h,l.map enc,enc n,l.map enc,sU h,Enc.sn _ _ _ (by decide),sM (α:=T2) _ 7 (by decide) l,?_⟩;have e:(l.map enc).findIdx? (ic · (enc n))=some (l.idxOf n):=by
  rw [List.findIdx?_map];have:((fun x=>ic x (enc n))∘(enc:T2->D))=fun y=>y == n:=by
   funext y;show ic (enc y) (enc n)=(y == n);rw [Enc.eqv]; rfl
  rw [this,List.findIdx?_eq_some_iff_getElem];have hi:=jf hn;exact⟨hi,by simp,fun j hj=>by
   have:=List.not_of_lt_findIdx (p:=(· == n)) (xs:=l) hj;simpa using this⟩
 rw [e];exact q
theorem acD(a b c:D):pJ [a,b,c] 2=some c:=rfl
theorem B0(d:Dr rows){p:T3}(h:p∈rows.flatten):pL (lT (i7 (pairsOf rows))) p.s=some (Tg rows p.s)/\Tg rows p.s∈dS rows 0:=by
 obtain⟨q,hq,hqf⟩:=Fu h;rw [Jg d];have:=Jh d hq;exact⟨by rw [this.2]; exact this.1,by rw [this.2]; exact gX rows 0 hqf⟩
noncomputable def ug:iO :=
 (cw (bK (cE jI (aI (au 0) bx)) (aM 1))
 (cw (bK (cE gr (aI (au 0) bx)) (aM 2))
 (cw (bK (cE lM (aI (au 0) bx)) (aM 3))
 (cw (bK (ku bx) (aM 4))
 (cw (gO (nY (cE nv (aI (au 0) bx))) (aM 5) (cw (bK (mH (aI (br j6 (au 2) (mH (aI (au 5) (aI (dC (.int 0)) bx)))) (aI (br j6 (au 2) (br j6 (au 3) (mH (aI (au 5) (aI (dC (.int 1)) bx))))) (aI (br j6 (au 2) (mH (aI (au 5) (aI (dC (.int 1)) bx)))) bx)))) (aM 6))
 (fF (tN vN jO (au 4) (aI (mH (aI (tN vN qN (au 1) (aI (br j6 (au 6) (dC (.int 0))) bx)) (aI (tN vN qN (au 1) (aI (br j6 (au 6) (dC (.int 1))) bx)) (aI (tN vN qN (au 1) (aI (br j6 (au 6) (dC (.int 2))) bx)) bx)))) bx)))))
 (dN (gB (au 4))))))))
noncomputable def iF:om:=fun ds G Q _=>∃ rows:Rows,ds=[enc rows]/\(Dr rows/\NB rows/\rows≠[])/\Q (enc ((names rows).map (A7 rows))) G
theorem we(d:Dr rows):(names rows).length<=24:=by
 unfold names;rw [JQ,ag];exact cC (je _ _) d.nH
theorem DO(ds:List D)(G:Gp)(Q:DK)(h:iF ds G Q fun _ _=>False):ug (fun _ _=>False) (ends Q) (bG 7 ds) G:=by
 obtain⟨rows,rfl,⟨d,nb,j8⟩,q⟩:=h;have nH:=d.nH;have nf:=we d;unfold ug;simp only [ends,bG,av,bc,ak,aG,aK,aP,aW,cQ,bK,cE,aI,au,aa,bx,aM,ay,aq,ku];refine⟨rows,rfl,⟨d,nb,j8⟩,?_⟩;refine⟨rows,rfl,⟨d,nb⟩,?_⟩;refine⟨rows,rfl,by lia,?_⟩;simp only [gB,bG,ends,eC,br,Jd,au,sG,tN,aI,bx,dN,Y1,fF,bK,aM,dC,gx,mH,ku,xq,K9,acA,dOr,AO,zG,Ta,FY,Je,oI,iJ,fA,kU,cE,fm,kR,OO,yG,ur,kP,kQ,i5,v5,qK,CL,xI,uo,Sb,i6,yF,CJ,CK,J1,zK,QK,MV,jw,kS,EX,xl,nj,JH,RS,RR,true_and,and_true,uO,SQ,mC,cH,ju,Fj,SK,Py,av,bc,aP,aW,aa,af,aq,ay,ak,aG,aK,if_true,if_false,cS,fN,aQ,cQ,qx];refine⟨by decide,fun p hp=>?_⟩;refine fO (fun τ G'=>gz G G'/\G' p=some (.lst (((names rows).map (A7 rows)).map enc))/\∃ a b c e f g,τ=[a,b,c,e,some (.ref p),f,g]) ?_ ?_
 ·intro N hN;simp only [gO,fA,cE,aI,au,aa,bx];refine⟨rows,rfl,(show rows.flatten.length < 64 by lia),?_⟩;refine kG ?_;refine gh (xs:=names rows) (f:=D.int) (fun pre τ G'=>gz G G'/\G' p=some (.lst ((pre.map (A7 rows)).map enc))/\∃ f g,τ=[some (enc rows),some (enc (cT rows)),some (.kh (bD (fu rows 0))),some (.kh (bD (lT (i7 (pairsOf rows))))),some (.ref p),f,g]) ⟨.new hp,aH,_,_,rfl⟩ (fun _ _ _ _=>trivial) ?_ ?_
  ·rintro pre n post τ G' N2 e ⟨le,gp,f,g,rfl⟩ lQ;have hn:n∈names rows:=by rw [e]; simp
   have hlp:pre.length < (names rows).length:=by have:=congrArg cV e; simp at this; lia
   obtain⟨p0,m0,e0⟩:=lO d hn 0 (.inl rfl);obtain⟨p1,m1,e1⟩:=lO d hn 1 (.inr rfl);have a0:=uQ d (s:=⟨n,0⟩) (by rw [<-e0]; exact gX rows 0 m0);have a1:=uQ d (s:=⟨n,1⟩) (by rw [<-e1]; exact gX rows 0 m1);obtain⟨c1,c2⟩:=B0 d m1;rw [e1] at c1 c2;have a2:=uQ d c2;have l0:look (bD (fu rows 0)) (.tup [.int n,.int 0])=some (enc (hm rows ⟨n,0⟩)):=by
    have:=kT (fu rows 0) (⟨n,0⟩:T2);rw [a0.1] at this; exact this
   have l1:look (bD (fu rows 0)) (.tup [.int n,.int 1])=some (enc (hm rows ⟨n,1⟩)):=by
    have:=kT (fu rows 0) (⟨n,1⟩:T2);rw [a1.1] at this; exact this
   have l2:look (bD (lT (i7 (pairsOf rows)))) (.tup [.int n,.int 1])=some (enc (Tg rows ⟨n,1⟩)):=by
    have:=kT (lT (i7 (pairsOf rows))) (⟨n,1⟩:T2);rw [c1] at this; exact this
   have l3:look (bD (fu rows 0)) (enc (Tg rows ⟨n,1⟩))=some (enc (hm rows (Tg rows ⟨n,1⟩))):=by
    have:=kT (fu rows 0) (Tg rows ⟨n,1⟩);rw [a2.1] at this; exact this
   simp only [aM,ay,aq,cQ,bK,mH,aI,br,au,af,aa,dC,bx,ak,aG,fF,tN,nj,jw,i6,um,l1,l2,l3,l0];refine⟨by decide,fY (fu rows 0) (⟨n,0⟩:T2),by decide,fY (lT (i7 (pairsOf rows))) (⟨n,1⟩:T2),fY _ _,by decide,fY (fu rows 0) (⟨n,1⟩:T2),by decide,?_⟩;simp only [gp,true_and];have il:IsL G' (enc (cT rows)) ((cT rows).map enc):=IsL.enc _;refine⟨yg il,?_⟩;simp only [ZW,Uk,acD];refine yP il a0.2 ⟨yg il,yP il a2.2 ⟨yg il,yP il a1.2 ⟨by decide,?_⟩⟩⟩;simp only [gp];refine⟨Hw (by rw [ag,ag]; lia),lQ _ _ ⟨le.put hp,?_,_,_,rfl⟩⟩;rw [aH,aA,aA]; rfl
  ·rintro τ G' ⟨le,gp,f,g,rfl⟩;exact hN _ _ ⟨le,gp,_,_,_,_,_,_,rfl⟩
 ·rintro _ G' ⟨le,gp,a,b,c,e,f,g,rfl⟩;simp only [dN,gB,au,af,aa];exact jo le hp gp q
end NC
end K2
end
section
namespace K2
open PySem (Str)
open Enc (enc)
namespace NC
open K2.P
open K2.vP (NB jI gr cT eq_int lu)
variable {rows:Rows}
noncomputable def P3(p:Int):Prop:=p=3\/p=5\/p=7
theorem Zg{p:Int}:([3,5,7]:List Int).contains p=true↔P3 p:=by
 unfold P3;simp
noncomputable def pN:iO :=
 (kY (iI (Tc true [3,5,7] (au 0))) zF gx)
noncomputable def fP:om:=fun ds G Q _=>∃ p:Int,ds=[.int p]/\P3 p/\Q .cL G
theorem xy(ds:List D)(G:Gp)(Q:DK)(h:fP ds G Q fun _ _=>False):pN (fun _ _=>False) (ends Q) (bG 1 ds) G:=by
 obtain⟨p,rfl,hp,q⟩:=h;unfold pN;simp only [ends,bG,av,bc,ak,aG,aP,aW,lu,gx,eC,Tc,au,aa,if_true,cH];refine⟨p,rfl,?_⟩;rw [Zg.mpr hp];simp only [cS,aQ,if_false];exact q
noncomputable def num(ns:List Int)(i:Int):Int:=ns.getD i.toNat 0
noncomputable def kp(ns:List Int)(p:Int)(t:T3):Bool:=decide ((2 * num ns t.a - num ns t.b - num ns t.c) % p=0)
structure In(ns:List Int)(t:T3):Prop where
 a:0<=t.a/\t.a < ns.length
 b:0<=t.b/\t.b < ns.length
 c:0<=t.c/\t.c < ns.length
theorem Cr(d:Dr rows){ns:List Int}(hl:ns.length=(cT rows).length){n:Int}(hn:n∈names rows):In ns (A7 rows n):=by
 obtain⟨p0,m0,e0⟩:=lO d hn 0 (.inl rfl);obtain⟨p1,m1,e1⟩:=lO d hn 1 (.inr rfl);have a0:=uQ d (s:=⟨n,0⟩) (by rw [<-e0]; exact gX rows 0 m0);have a1:=uQ d (s:=⟨n,1⟩) (by rw [<-e1]; exact gX rows 0 m1);have c2:=(B0 d m1).2;rw [e1] at c2;have a2:=uQ d c2;exact⟨by rw [hl]; exact Fg a0.2,by rw [hl]; exact Fg a2.2,by rw [hl]; exact Fg a1.2⟩
end NC
end K2
end
section
namespace K2
namespace vO
noncomputable def vs(p:Nat):Nat->List (List Int)
 | 0=>[[]]
 | n+1=>(aU p).flatMap fun a:Nat=>(vs p n).map ((a:Int) :: ·)
noncomputable def dot:List Int->List Int->Int
 | a :: x,b :: y=>a * b+dot x y
 | _,_=>0
noncomputable def el(e:List Int)(q:Int):Int:=e.getD q.toNat 0
noncomputable def Pr(p:Nat):Prop:=p=3\/p=5\/p=7
theorem yd{p:Nat}:∀ {n:Nat} {y:List Int},y∈vs p n->y.length=n
 | 0,y,h=>by
  have:y=[]:=by simpa [vs] using h
  rw [this]; rfl
 | n+1,y,h=>by
  rw [vs,List.mem_flatMap] at h;obtain⟨a,_,h⟩:=h;obtain⟨z,hz,rfl⟩:=List.mem_map.mp h;rw [ak,yd hz]
theorem xE{p:Nat}:∀ n,vs p (n+1)=(vs p n).flatMap fun y=>(aU p).map fun a:Nat=>y++[(a:Int)]
 | 0=>by
  rw [vs,vs];simp only [av,bc,eM,List.flatMap_nil,bU,aW];induction aU p with
  | nil=>rfl
  | cons a l ih=>rw [eM,ih]; rfl
 | n+1=>by
  have e:=xE (p:=p) n;rw [show vs p (n+1+1)=(aU p).flatMap (fun a:Nat=>(vs p (n+1)).map ((a:Int) :: ·)) from rfl]
  conv=>lhs; rw [e]
  rw [show vs p (n+1)=(aU p).flatMap (fun a:Nat=>(vs p n).map ((a:Int) :: ·)) from rfl];rw [List.flatMap_assoc];congr 1;funext b;rw [List.map_flatMap,List.flatMap_map];congr 1;funext y;rw [bA];rfl
theorem Oh{α:Type}{c:Nat}{f:α->Nat}{P:α->Bool}:∀ {l:List α},(∀ y∈l,f y=if P y=true then c else 0)->(l.map f).sum=c * l.countP P
 | [],_=>by simp
 | y :: l,h=>by
  rw [av,Nf,Oh (fun z hz=>h z (ao _ hz)),h y aB,List.countP_cons];split <;> simp [Nat.mul_add,Nat.add_comm]
theorem Ge{p n:Nat}{P P':List Int->Bool}{c:Nat}(h:∀ y∈vs p n,((aU p).countP fun a:Nat=>P (y++[(a:Int)]))=if P' y=true then c else 0):(vs p (n+1)).countP P=c * (vs p n).countP P':=by
 rw [xE,List.countP_flatMap,<-Oh h];congr 1;apply oN;intro y _;simp only [wK,List.countP_map];rfl
theorem Ss:∀ p∈[3,5,7],∀ u∈aU p,∀ c∈aU p,u≠0->((aU p).countP fun a:Nat=>decide ((u * a+c) % p=0))=1:=by decide
theorem Vn:∀ p∈[3,5,7],∀ u∈aU p,∀ t∈aU p,u≠0->(u * t) % p=0->t=0:=by decide
theorem Pr.mem{p:Nat}(h:Pr p):p∈[3,5,7]:=by rcases h with rfl | rfl | rfl <;> simp
theorem Pr.pos{p:Nat}(h:Pr p):0 < p:=by rcases h with rfl | rfl | rfl <;> decide
theorem xN{p:Nat}(hp:Pr p)(u:Int):∃ m,m∈aU p/\u % p=(m:Nat):=by
 have:=hp.pos;refine⟨(u % p).toNat,List.mem_range.mpr ?_,?_⟩
 ·have h1:=c7 u (show (0:Int) < p by lia);have h2:=dP u (show (p:Int)≠0 by lia);lia
 ·have h2:=dP u (show (p:Int)≠0 by lia);lia
theorem fit{p:Nat}(hp:Pr p){u c:Int}(hu:u % p≠0):((aU p).countP fun a:Nat=>decide ((u * (a:Int)+c) % p=0))=1:=by
 obtain⟨m,hm,em⟩:=xN hp u;obtain⟨k,hk,ek⟩:=xN hp c;rw [<-Ss p hp.mem m hm k hk (fun z=>hu (by rw [em,z]; rfl))];apply rj;intro a _;rw [decide_eq_true_iff,decide_eq_true_iff,kA,ft,em,ek];have e:((m:Int) * ((a:Int) % p) % p+k) % p=(((m * a+k) % p:Nat):Int):=by
  rw [Int.emod_add_emod];rw [kA,ft,NX,<-ft,<-kA]
  norm_cast
 rw [e]
 norm_cast
theorem W5{p:Nat}(hp:Pr p){u t:Int}(hu:u % p≠0)(h:(u * t) % p=0):t % p=0:=by
 obtain⟨m,hm,em⟩:=xN hp u;obtain⟨k,hk,ek⟩:=xN hp t;rw [ft,em,ek] at h;rw [ek,Vn p hp.mem m hm k hk (fun z=>hu (by rw [em,z]; rfl)) (by exact_mod_cast h)];rfl
theorem nI(x:List Int):dot x []=0:=by cases x <;> rfl
theorem oH:∀ (y e:List Int) (a:Int),dot e (y++[a])=dot e y+e.getD y.length 0 * a
 | [],[],a=>by simp [dot]
 | [],b :: e,a=>by simp [dot,nI]
 | c :: y,[],a=>by simp [dot]
 | c :: y,b :: e,a=>by
  rw [aP,dot,dot,oH y e a,ak,xA];lia
theorem K1(p u v:Int):∀ (x a b:List Int),a.length=b.length->dot (Ca (fun f l=>(f * u - l * v) % p) a b) x % p=(dot a x * u - dot b x * v) % p
 | [],a,b,_=>by rw [nI,nI,nI]; simp
 | c :: x,[],[],_=>by simp [dot]
 | c :: x,f :: a,l :: b,h=>by
  rw [List.zipWith_cons_cons,dot,dot,dot];have ih:=K1 p u v x a b (by simpa using h);rw [kA,ih,ft,NX,<-ft,<-kA];congr 1;simp only [Int.sub_mul,Int.add_mul];rw [Aj f u c,Aj l v c];lia
structure Red(p n:Nat)(R:List (Int×List Int)):Prop where
 nd:(R.map (·.1)).Nodup
 ok:∀ r∈R,(0<=r.1/\r.1 < n)/\r.2.length=n/\∀ v∈r.2,0<=v/\v < p
 one:∀ r∈R,el r.2 r.1=1
 top:∀ r∈R,∀ j:Int,r.1 < j->el r.2 j=0
 red:∀ r∈R,∀ q∈R,q.1≠r.1->el r.2 q.1=0
noncomputable def Lm(p:Nat)(es:List (List Int))(x:List Int):Prop:=∀ e∈es,dot e x % p=0
noncomputable instance (p:Nat) (es:List (List Int)) (x:List Int):Decidable (Lm p es x):=by unfold Lm; infer_instance
noncomputable def frees(R:List (Int×List Int))(k:Nat):List Nat:=(aU k).filter fun j=>decide ((j:Int)∉R.map (·.1))
theorem Vo{R:List (Int×List Int)}(h:(R.map (·.1)).Nodup){a b:Int×List Int}(ha:a∈R)(hb:b∈R)(e:a.1=b.1):a=b:=by
 induction R with
 | nil=>cases ha
 | cons r R ih =>
  rw [av,cF] at h;rcases List.mem_cons.mp ha with e1 | WJ
  ·rcases List.mem_cons.mp hb with e2 | uS
   ·rw [e1,e2]
   ·subst e1; exact absurd (e ▸ bq uS) h.1
  ·rcases List.mem_cons.mp hb with e2 | uS
   ·subst e2; exact absurd (e ▸ bq WJ) h.1
   ·exact ih h.2 WJ uS
theorem Bm{p n:Nat}(hp:Pr p){R:List (Int×List Int)}(h:Red p n R):∀ k,(vs p k).countP (fun y=>decide (∀ r∈R,r.1 < (k:Nat)->dot r.2 y % p=0))=p ^ (frees R k).length
 | 0=>by
  rw [vs];have:∀ r∈R,r.1 < ((0:Nat):Int)->dot r.2 [] % (p:Int)=0:=fun r _ _=>by rw [nI]; simp
  simp [frees,List.countP_cons,nI]
 | k+1=>by
  have ih:=Bm hp h k;by_cases hk:((k:Nat):Int)∈R.map (·.1)
  ·obtain⟨r0,hr0,e0⟩:=List.mem_map.mp hk;have ef:frees R (k+1)=frees R k:=by
    unfold frees;rw [k8,cZ];simp only [iz,oQ];rw [if_neg (by simpa using hk)];simp
   rw [ef,<-ih,<-Nat.one_mul ((vs p k).countP _)];refine Ge fun y hy=>?_;have ly:=yd hy;split
   ·rename_i hP;rw [decide_eq_true_iff] at hP;refine Eq.trans (rj fun a _=>?_) (fit hp (u:=1) (c:=dot r0.2 y) (by rcases hp with rfl | rfl | rfl <;> decide));rw [decide_eq_true_iff,decide_eq_true_iff];have d0:dot r0.2 (y++[(a:Int)])=1 * a+dot r0.2 y:=by
     rw [oH,ly];have:=h.one r0 hr0;unfold el at this;rw [e0,aS] at this;rw [this]; lia
    refine⟨fun z=>d0 ▸ z r0 hr0 (by lia),fun z r hr oj=>?_⟩;by_cases he:r.1=(k:Nat)
    ·have:=Vo h.nd hr hr0 (he.trans e0.symm);rw [this,d0]; exact z
    ·have t:=h.top r hr (k:Nat) (by lia);unfold el at t;rw [aS] at t;rw [oH,ly,t,D3,vV];exact hP r hr (by lia)
   ·rename_i hP;rw [List.countP_eq_zero];intro a _ z;rw [decide_eq_true_iff] at z hP;refine hP fun r hr oj=>?_;have t:=h.top r hr (k:Nat) (by lia);unfold el at t;rw [aS] at t;have:=z r hr (by lia);rw [oH,ly,t,D3,vV] at this;exact this
  ·have ef:(frees R (k+1)).length=(frees R k).length+1:=by
    unfold frees;rw [k8,cZ];simp only [iz,oQ];rw [if_pos (by simpa using hk)];simp
   rw [ef,Rz,<-ih,RA];refine Ge fun y hy=>?_;have ly:=yd hy;have key:∀ a:Nat,decide (∀ r∈R,r.1 < ((k+1:Nat):Int)->dot r.2 (y++[(a:Int)]) % (p:Int)=0)=decide (∀ r∈R,r.1 < (k:Nat)->dot r.2 y % (p:Int)=0):=fun a=>by
    rw [decide_eq_decide];refine⟨fun z r hr oj=>?_,fun z r hr oj=>?_⟩
    ·have t:=h.top r hr (k:Nat) (by lia);unfold el at t;rw [aS] at t;have:=z r hr (by lia);rw [oH,ly,t,D3,vV] at this;exact this
    ·have ne:r.1≠(k:Nat):=fun e=>hk (e ▸ bq hr);have t:=h.top r hr (k:Nat) (by lia);unfold el at t;rw [aS] at t;rw [oH,ly,t,D3,vV];exact z r hr (by lia)
   simp only [key];split
   ·rename_i hP;rw [hP];rw [List.countP_true]; exact e7
   ·rename_i hP;rw [Bool.not_eq_true] at hP;rw [hP]; exact List.countP_false ▸ rfl
theorem JZ{p n:Nat}(hp:Pr p){R:List (Int×List Int)}(h:Red p n R):(vs p n).countP (fun y=>decide (Lm p (R.map (·.2)) y))=p ^ (frees R n).length:=by
 rw [<-Bm hp h n];apply rj;intro y _;rw [decide_eq_true_iff,decide_eq_true_iff];refine⟨fun z r hr _=>z _ (bq hr),fun z e he=>?_⟩;obtain⟨r,hr,rfl⟩:=List.mem_map.mp he;exact z r hr (h.ok r hr).1.2
end vO
end K2
end
section
namespace K2
namespace vO
noncomputable def tx(p:Nat)(a:List Int)(q:Int)(b:List Int):List Int:=Ca (fun f l=>(f - el a q * l) % (p:Int)) a b
noncomputable def yt(p:Nat)(a:List Int)(i:Int):List Int:=a.map fun f=>f * i % (p:Int)
noncomputable def kZ(p n:Nat)(a:List Int):Prop:=a.length=n/\∀ v∈a,0<=v/\v < (p:Int)
theorem V5{f:Int->Int->Int}(h0:f 0 0=0){a b:List Int}(h:a.length=b.length)(j:Int):el (Ca f a b) j=f (el a j) (el b j):=by
 unfold el;rw [az,az,az,List.getElem?_zipWith];by_cases hj:j.toNat < a.length
 ·rw [ai hj,ai (h ▸ hj)]; rfl
 ·rw [eK (by lia),eK (by lia)];exact h0.symm
theorem Qo{p:Nat}{a b:List Int}{q:Int}(h:a.length=b.length)(j:Int):el (tx p a q b) j=(el a j - el a q * el b j) % (p:Int) :=
 V5 (f:=fun f l=>(f - el a q * l) % (p:Int)) (by simp) h j
theorem IW{p:Nat}{a:List Int}{i:Int}(j:Int):el (yt p a i) j=el a j * i % (p:Int):=by
 unfold el yt;rw [az,az,aX];cases a[j.toNat]? with
 | none=>simp
 | some v=>rfl
theorem kZ.tx{p n:Nat}(hp:Pr p){a b:List Int}{q:Int}(ha:kZ p n a)(hb:kZ p n b):kZ p n (tx p a q b):=by
 have:=hp.pos;refine⟨by unfold vO.tx; rw [List.length_zipWith,ha.1,hb.1]; simp,fun v hv=>?_⟩;unfold vO.tx at hv;rw [<-A0] at hv;obtain⟨x,_,rfl⟩:=List.mem_map.mp hv;exact⟨dP _ (by lia),c7 _ (by lia)⟩
theorem kZ.yt{p n:Nat}(hp:Pr p){a:List Int}{i:Int}(ha:kZ p n a):kZ p n (yt p a i):=by
 have:=hp.pos;refine⟨by unfold vO.yt; rw [ag]; exact ha.1,fun v hv=>?_⟩;obtain⟨x,_,rfl⟩:=List.mem_map.mp hv;exact⟨dP _ (by lia),c7 _ (by lia)⟩
theorem kZ.el{p n:Nat}(hp:Pr p){a:List Int}(ha:kZ p n a)(j:Int):0<=el a j/\el a j < (p:Int):=by
 have:=hp.pos;unfold vO.el;rw [az];cases e:a[j.toNat]? with
 | none=>exact⟨yb _,by simpa using this⟩
 | some v=>exact ha.2 v (eV e)
theorem K3{p:Nat}{a b:List Int}{q:Int}(h:a.length=b.length)(x:List Int):dot (tx p a q b) x % (p:Int)=(dot a x - el a q * dot b x) % (p:Int):=by
 have:=K1 (p:Int) 1 (el a q) x a b h;have e:Ca (fun f l=>(f * 1 - l * el a q) % (p:Int)) a b=tx p a q b:=by
  unfold tx; congr 1; funext f l; rw [ya,vU l]
 rw [e,ya,vU (dot b x)] at this;exact this
theorem Du{p:Nat}{i:Int}:∀ (a x:List Int),dot (yt p a i) x % (p:Int)=(dot a x * i) % (p:Int)
 | [],x=>by simp [yt,dot]
 | a :: as,[]=>by rw [nI,nI]; simp
 | a :: as,b :: x=>by
  have ih:=Du (p:=p) (i:=i) as x;unfold yt at ih ⊢;rw [av,dot,dot,kA,ih,ft,NX,<-ft,<-kA,Int.add_mul,Aj]
theorem FP:∀ (a x:List Int),(∀ v∈a,v=0)->dot a x=0
 | [],_,_=>rfl
 | a :: as,[],_=>rfl
 | a :: as,b :: x,h=>by
  rw [dot,FP as x fun v hv=>h v (ao _ hv),h a aB]; simp
noncomputable def mO(p:Nat)(R:List (Int×List Int))(e:List Int):List Int:=R.foldl (fun a r=>tx p a r.1 r.2) e
theorem C1{p n:Nat}(hp:Pr p)(R0:List (Int×List Int))(h:Red p n R0):∀ (R1 R:List (Int×List Int)) (e:List Int),R0=R1++R->kZ p n e->(∀ r∈R1,el e r.1=0) ->
  kZ p n (mO p R e)/\(∀ r∈R0,el (mO p R e) r.1=0)/\∀ x,Lm p (R0.map (·.2)) x->dot (mO p R e) x % (p:Int)=dot e x % (p:Int)
 | R1,[],e,hR,he,hz=>⟨he,fun r hr=>hz r (by rw [hR,bU] at hr; exact hr),fun _ _=>rfl⟩
 | R1,r :: R,e,hR,he,hz=>by
  have hr:r∈R0:=by rw [hR]; exact bb _ aB
  have hv:kZ p n r.2:=(h.ok r hr).2;have hl:e.length=r.2.length:=by rw [he.1,hv.1]
  obtain⟨i1,i2,i3⟩:=C1 hp R0 h (R1++[r]) R (tx p e r.1 r.2) (by rw [hR,cK]; rfl) (he.tx hp hv) (fun q hq=>by
   rw [Qo hl];rcases List.mem_append.mp hq with hq | hq
   ·have Yj:q∈R0:=by rw [hR]; exact bW _ hq
    have ne:q.1≠r.1:=fun z=>by
     have nd:=h.nd;rw [hR,aA,av,cj] at nd;exact nd.2.2 q.1 (bq hq) r.1 aB z
    rw [hz q hq,h.red r hr q Yj ne]; simp
   ·have:q=r:=by simpa using hq
    rw [this,h.one r hr]; simp)
  refine⟨i1,i2,fun x hx=>?_⟩;show dot (mO p R (tx p e r.1 r.2)) x % (p:Int)=_;rw [i3 x hx,K3 hl,p7,ft,hx r.2 (bq hr)];simp
noncomputable def pf(e:List Int):Option Nat:=((aU e.length).filter fun j=>e.getD j 0 != 0).getLast?
theorem Fb{e:List Int}(h:pf e=none):∀ v∈e,v=0:=by
 unfold pf at h;rw [JC,NV] at h;intro v hv;obtain⟨j,hj,rfl⟩:=e8 hv;have:=h j (List.mem_range.mpr hj);rw [az,ai hj] at this;simpa using this
theorem E9:∀ {l:List Nat} {x:Nat},l.Pairwise (· < ·)->l.getLast?=some x->∀ y∈l,y<=x
 | [],_,_,h=>by cases h
 | [a],x,_,h=>by
  intro y hy;have:a=x:=by simpa using h
  have:y=a:=by simpa using hy
  lia
 | a :: b :: l,x,hp,h=>by
  intro y hy;rw [List.getLast?_cons_cons] at h;rw [List.pairwise_cons] at hp;have ih:=E9 hp.2 h;rcases List.mem_cons.mp hy with rfl | hy
  ·have:=hp.1 b aB; have:=ih b aB; lia
  ·exact ih y hy
theorem w4{e:List Int}{l:Nat}(h:pf e=some l):l < e.length/\el e (l:Nat)≠0/\∀ j:Int,(l:Int) < j->el e j=0:=by
 unfold pf at h;have m:=RD h;rw [List.mem_filter,JB] at m;refine⟨m.1,?_,fun j hj=>?_⟩
 ·unfold el; rw [aS]; simpa using m.2
 ·unfold el;by_cases hz:e.getD j.toNat 0=0
  ·exact hz
  ·exfalso;have hl:j.toNat < e.length:=by
    apply cg;intro hn;exact hz (by rw [az,eK (by lia)]; rfl)
   have:=E9 (D1 _ NS) h j.toNat (by rw [List.mem_filter,JB]; exact⟨hl,by simpa using hz⟩);lia
noncomputable def inv1(p:Nat)(u:Int):Int:=(((aU p).filter fun (k:Nat)=>(k:Int) * u % (p:Int) == 1).headD 0:Nat)
theorem inv_one:∀ p∈[3,5,7],∀ u∈aU p,u≠0->(((aU p).filter fun k=>k * u % p == 1).headD 0) * u % p=1/\((aU p).filter fun k=>k * u % p == 1)≠[]:=by decide
theorem KI{p:Nat}(hp:Pr p){u:Int}(h:0 < u/\u < p):(u * inv1 p u) % (p:Int)=1/\((aU p).filter fun (k:Nat)=>(k:Int) * u % (p:Int) == 1)≠[]:=by
 obtain⟨m,rfl⟩:∃ m:Nat,u=m:=⟨u.toNat,by lia⟩;obtain⟨h1,h2⟩:=inv_one p hp.mem m (List.mem_range.mpr (by lia)) (by lia);have e:((aU p).filter fun (k:Nat)=>(k:Int) * (m:Int) % (p:Int) == 1)=(aU p).filter fun k=>k * m % p == 1:=by
  apply List.filter_congr;intro k _;rw [Bool.eq_iff_iff,beq_iff_eq,beq_iff_eq]
  norm_cast
 unfold inv1;rw [e];refine⟨?_,h2⟩;rw [vU]
 exact_mod_cast h1
noncomputable def rW(p:Nat)(R:List (Int×List Int))(e:List Int):List (Int×List Int) :=
 match pf (mO p R e) with
 | none=>R
 | some l=>(R.map fun r=>(r.1,tx p r.2 (l:Nat) (yt p (mO p R e) (inv1 p (el (mO p R e) (l:Nat))))))++[((l:Int),yt p (mO p R e) (inv1 p (el (mO p R e) (l:Nat))))]
theorem JN{p n:Nat}(hp:Pr p){R:List (Int×List Int)}(h:Red p n R){e:List Int}(he:kZ p n e):Red p n (rW p R e)/\∀ x,Lm p ((rW p R e).map (·.2)) x↔(Lm p (R.map (·.2)) x/\dot e x % (p:Int)=0):=by
 obtain⟨i1,i2,i3⟩:=C1 hp R h [] R e rfl he (fun r hr=>by cases hr);unfold rW;cases hl:pf (mO p R e) with
 | none =>
  refine⟨h,fun x=>⟨fun z=>⟨z,?_⟩,fun z=>z.1⟩⟩;rw [<-i3 x z,FP _ _ (Fb hl)]; simp
 | some l =>
  obtain⟨l1,l2,l3⟩:=w4 hl;dsimp only;have ub:=i1.el hp (l:Nat);obtain⟨iv,_⟩:=KI hp (u:=el (mO p R e) (l:Nat)) (by lia);generalize hg:inv1 p (el (mO p R e) (l:Nat))=g at *;have v2:kZ p n (yt p (mO p R e) g):=i1.yt hp;have z1:el (yt p (mO p R e) g) (l:Nat)=1:=by rw [IW]; exact iv
  have z2:∀ j:Int,(l:Int) < j->el (yt p (mO p R e) g) j=0:=fun j hj=>by rw [IW,l3 j hj]; simp
  have z3:∀ r∈R,el (yt p (mO p R e) g) r.1=0:=fun r hr=>by rw [IW,i2 r hr]; simp
  have z4:∀ x,Lm p (R.map (·.2)) x->(dot (yt p (mO p R e) g) x % (p:Int)=0↔dot e x % (p:Int)=0):=fun x hx=>by
   rw [Du,<-i3 x hx];refine⟨fun z=>?_,fun z=>by rw [ft,z]; simp⟩;refine W5 hp (u:=g) (fun q=>?_) (by rw [vU]; exact z);rw [ft,q] at iv;simp at iv
  generalize yt p (mO p R e) g=s at *;have ne:∀ r∈R,r.1≠(l:Int):=fun r hr z=>l2 (z ▸ i2 r hr);have ec:∀ r∈R,∀ j,el (tx p r.2 (l:Nat) s) j=(el r.2 j - el r.2 (l:Nat) * el s j) % (p:Int):=fun r hr j=>Qo (by rw [v2.1,(h.ok r hr).2.1]) j;have pm:∀ r∈R,∀ j,el r.2 j % (p:Int)=el r.2 j:=fun r hr j=>by
   have:=kZ.el hp (h.ok r hr).2 j;exact Cd this.1 this.2
  refine⟨⟨?_,?_,?_,?_,?_⟩,fun x=>?_⟩
  ·rw [aA,bA];rw [cj];refine⟨h.nd,by simp,fun a ha b hb z=>?_⟩;obtain⟨r,hr,rfl⟩:=List.mem_map.mp ha;have:b=(l:Int):=by simpa using hb
   exact ne r hr (by rw [<-this,<-z]; rfl)
  ·intro r hr;rcases List.mem_append.mp hr with hr | hr
   ·obtain⟨q,hq,rfl⟩:=List.mem_map.mp hr;exact⟨(h.ok q hq).1,kZ.tx hp (h.ok q hq).2 v2⟩
   ·have:r=((l:Int),s):=by simpa using hr
    subst this;exact⟨⟨lh _,by rw [<-i1.1]; show (l:Int) < _; lia⟩,v2⟩
  ·intro r hr;rcases List.mem_append.mp hr with hr | hr
   ·obtain⟨q,hq,rfl⟩:=List.mem_map.mp hr;show el (tx p q.2 (l:Nat) s) q.1=1;rw [ec q hq,z3 q hq,Int.mul_zero,Int.sub_zero,pm q hq,h.one q hq]
   ·have:r=((l:Int),s):=by simpa using hr
    subst this;exact z1
  ·intro r hr j hj;rcases List.mem_append.mp hr with hr | hr
   ·obtain⟨q,hq,rfl⟩:=List.mem_map.mp hr;show el (tx p q.2 (l:Nat) s) j=0;rw [ec q hq,h.top q hq j hj];by_cases hlq:(l:Int) < q.1
    ·rw [z2 j (by have:q.1 < j:=hj; lia)]; simp
    ·have:=ne q hq;rw [h.top q hq (l:Nat) (by lia)]; simp
   ·have:r=((l:Int),s):=by simpa using hr
    subst this;exact z2 j hj
  ·intro r hr q hq j8;rcases List.mem_append.mp hr with hr | hr
   ·obtain⟨r,Rh,rfl⟩:=List.mem_map.mp hr;show el (tx p r.2 (l:Nat) s) q.1=0;rw [ec r Rh];rcases List.mem_append.mp hq with hq | hq
    ·obtain⟨q,VL,rfl⟩:=List.mem_map.mp hq;show (el r.2 q.1 - el r.2 (l:Nat) * el s q.1) % (p:Int)=0;rw [z3 q VL,h.red r Rh q VL j8]; simp
    ·have:q=((l:Int),s):=by simpa using hq
     subst this;show (el r.2 (l:Nat) - el r.2 (l:Nat) * el s (l:Nat)) % (p:Int)=0;rw [z1]; simp
   ·have:r=((l:Int),s):=by simpa using hr
    subst this;rcases List.mem_append.mp hq with hq | hq
    ·obtain⟨q,VL,rfl⟩:=List.mem_map.mp hq;exact z3 q VL
    ·have:q=((l:Int),s):=by simpa using hq
     subst this;exact absurd rfl j8
  ·have dc:∀ r∈R,dot (tx p r.2 (l:Nat) s) x % (p:Int)=(dot r.2 x - el r.2 (l:Nat) * dot s x) % (p:Int):=fun r hr=>K3 (by rw [v2.1,(h.ok r hr).2.1]) x;constructor
   ·intro z;have zs:dot s x % (p:Int)=0:=z s (List.mem_map.mpr ⟨((l:Int),s),bb _ (by simp),rfl⟩);have zr:Lm p (R.map (·.2)) x:=fun e' he'=>by
     obtain⟨r,hr,rfl⟩:=List.mem_map.mp he';have:=z (tx p r.2 (l:Nat) s) (List.mem_map.mpr ⟨(r.1,tx p r.2 (l:Nat) s),bW _ (List.mem_map.mpr ⟨r,hr,rfl⟩),rfl⟩);rw [dc r hr,p7,ft,zs] at this;simpa using this
    exact⟨zr,(z4 x zr).mp zs⟩
   ·rintro⟨zr,ze⟩ e' he';have zs:=(z4 x zr).mpr ze;obtain⟨r',Rh,rfl⟩:=List.mem_map.mp he';rcases List.mem_append.mp Rh with Rh | Rh
    ·obtain⟨r,hr,rfl⟩:=List.mem_map.mp Rh;show dot (tx p r.2 (l:Nat) s) x % (p:Int)=0;rw [dc r hr,p7,ft,zs,zr r.2 (bq hr)]; simp
    ·have:r'=((l:Int),s):=by simpa using Rh
     subst this;exact zs
theorem JY{p n:Nat}:Red p n []:=⟨cY,by simp,by simp,by simp,by simp⟩
theorem Ox{p n:Nat}(hp:Pr p):∀ (es:List (List Int)) (R:List (Int×List Int)),Red p n R->(∀ e∈es,kZ p n e)->Red p n (es.foldl (rW p) R)/\∀ x,Lm p ((es.foldl (rW p) R).map (·.2)) x↔(Lm p (R.map (·.2)) x/\Lm p es x)
 | [],R,h,_=>⟨h,fun x=>⟨fun z=>⟨z,fun e he=>by cases he⟩,fun z=>z.1⟩⟩
 | e :: es,R,h,hv=>by
  obtain⟨a1,a2⟩:=JN hp h (hv e aB);obtain⟨b1,b2⟩:=Ox hp es _ a1 fun e' h'=>hv e' (ao _ h');refine⟨b1,fun x=>?_⟩;rw [bT,b2,a2];constructor
  ·rintro⟨⟨z1,z2⟩,z3⟩;exact⟨z1,fun e' h'=>by rcases List.mem_cons.mp h' with rfl | h'; exact z2; exact z3 e' h'⟩
  ·rintro⟨z1,z2⟩;exact⟨⟨z1,z2 e aB⟩,fun e' h'=>z2 e' (ao _ h')⟩
end vO
end K2
end
section
namespace K2
namespace vO
theorem FQ:∀ (x y:List Int),dot x y=dot y x
 | [],[]=>rfl
 | [],_ :: _=>rfl
 | _ :: _,[]=>rfl
 | a :: x,b :: y=>by rw [dot,dot,FQ x y,vU]
theorem xV:∀ (e x:List Int) (j:Nat) (v:Int),j < x.length->dot e (x.set j v)=dot e x+e.getD j 0 * (v - x.getD j 0)
 | [],x,j,v,_=>by simp [dot]
 | a :: e,[],j,v,h=>absurd h (bV _)
 | a :: e,b :: x,0,v,_=>by
  rw [aq,dot,dot,oO,oO,Int.mul_sub];lia
 | a :: e,b :: x,j+1,v,h=>by
  rw [ay,dot,dot,xV e x j v (by simpa using h),xA,xA];lia
theorem PY{x:List Int}{j k:Nat}{v:Int}(h:j < x.length):(x.set j v).getD k 0=if j=k then v else x.getD k 0:=by
 rw [az,List.getElem?_set];split
 ·rename_i e; subst e; first | rfl | (rw [if_pos h]; rfl)
 ·rw [<-az]
noncomputable def fs(v:Int×List Int->Int)(R:List (Int×List Int))(x:List Int):List Int:=R.foldl (fun x r=>x.set r.1.toNat (v r)) x
theorem P6{v:Int×List Int->Int}:∀ {R:List (Int×List Int)} {x:List Int},(fs v R x).length=x.length
 | [],_=>rfl
 | r :: R,x=>by
  show (fs v R (x.set r.1.toNat (v r))).length=_;rw [P6,dO]
noncomputable def cf(p n:Nat)(R:List (Int×List Int))(f:Nat):List Int:=fs (fun r=>(-(el r.2 (f:Nat))) % (p:Int)) R ((aK n 0).set f 1)
theorem JF{n k:Nat}:(aK n (0:Int)).getD k 0=0:=by
 rw [az,h8]; split <;> rfl
theorem BW:∀ (e:List Int) (n:Nat),dot e (aK n 0)=0
 | [],_=>rfl
 | _ :: _,0=>rfl
 | a :: e,n+1=>by rw [List.replicate_succ,dot,BW e n]; simp
section
variable {p n f:Nat} (hp:Pr p) {R:List (Int×List Int)} (h:Red p n R)
include h
theorem VE{r:Int×List Int}(hr:r∈R):0<=r.1/\r.1.toNat < n:=by have:=(h.ok r hr).1; lia
include hp
end
noncomputable def Qm(n:Nat)(a b c:Nat):List Int :=
 let z:=(aK n (0:Int)).set a 2
 let y:=z.set b (z.getD b 0 - 1)
 y.set c (y.getD c 0 - 1)
theorem KW{n a b c:Nat}:(Qm n a b c).length=n:=by simp [Qm]
theorem S7{n a b c:Nat}(ha:a < n)(hb:b < n)(hc:c < n)(x:List Int):dot (Qm n a b c) x=2 * x.getD a 0 - x.getD b 0 - x.getD c 0:=by
 unfold Qm;rw [FQ,xV _ _ _ _ (by simp; exact hc),xV _ _ _ _ (by simp; exact hb),xV _ _ _ _ (by simp; exact ha),BW,JF];generalize x.getD a 0=u;generalize x.getD b 0=v;generalize x.getD c 0=w;have:∀ m t:Int,t * (m - 1 - m)=-t:=fun m t=>by rw [show m - 1 - m=-1 by lia]; lia
 rw [this,this];lia
noncomputable def eqv(p n:Nat)(a b c:Nat):List Int:=(Qm n a b c).map (· % (p:Int))
theorem KU{p n a b c:Nat}(hp:Pr p):kZ p n (eqv p n a b c):=by
 have:=hp.pos;refine⟨by unfold eqv; rw [ag,KW],fun v hv=>?_⟩;obtain⟨x,_,rfl⟩:=List.mem_map.mp hv;exact⟨dP _ (by lia),c7 _ (by lia)⟩
theorem S6{p n a b c:Nat}(x:List Int):dot (eqv p n a b c) x % (p:Int)=dot (Qm n a b c) x % (p:Int):=by
 have:=Du (p:=p) (i:=1) (Qm n a b c) x;rw [ya] at this;rw [<-this];unfold eqv yt;simp only [ya]
end vO
end K2
end
section
namespace K2
open PySem (Str)
open Enc (enc)
namespace vO
open K2.P
open K2.vP (NB jI gr cT eq_int lu)
theorem BV{a:List Int}{q:Int}(h:0<=q/\q < a.length):pJ (a.map D.int) q=some (.int (el a q)):=by
 rw [vq _ h.1 (by rw [ag]; exact h.2)];simp only [j4];unfold el;rw [az,ai (by lia)]; rfl
theorem Eh:∀ (a b:List Int),oW (a.map D.int) (b.map D.int)=(a.zip b).map fun x=>.tup [.int x.1,.int x.2]
 | [],_=>rfl
 | _ :: _,[]=>rfl
 | a :: as,b :: bs=>by
  show D.tup [.int a,.int b] :: oW (as.map D.int) (bs.map D.int)=_;rw [Eh as bs]; rfl
theorem BR:∀ (a:List Int) (k:Nat),iw k (a.map D.int)=(a.zipIdx k).map fun x=>.tup [.int (x.2:Nat),.int x.1]
 | [],_=>rfl
 | a :: as,k=>by
  show D.tup [.int (k:Nat),.int a] :: iw (k+1) (as.map D.int)=_;rw [BR as (k+1)]; rfl
theorem Vq{p n:Nat}(hp:Pr p){a:List Int}(ha:kZ p n a){j k:Int}:MulOk (el a j) k:=by
 have h:=ha.el hp j;have:p < 10:=by rcases hp with rfl | rfl | rfl <;> decide
 exact .inl ⟨by lia,by lia⟩
noncomputable def yC:iO :=
 (cw (bK (br j6 (au 0) (au 1)) (aM 4))
 (dN (gB (fm 2 [4,3] (PG (au 0) (au 2)) (uV (iN (aM 0) (iN (aM 1) sX))) none (br sO (br uk (au 0) (br v3 (au 2) (au 1))) (au 3))))))
noncomputable def ke:om:=fun ds G Q _=>∃ (p n:Nat) (a b:List Int) (q:Int),ds=[enc a,.int q,enc b,.int p]/\(Pr p/\n<=100/\kZ p n a/\kZ p n b/\0<=q/\q < n)/\Q (enc (tx p a q b)) G
theorem Jp(ds:List D)(G:Gp)(Q:DK)(h:ke ds G Q fun _ _=>False):yC (fun _ _=>False) (ends Q) (bG 5 ds) G:=by
 obtain⟨p,n,a,b,q,rfl,⟨hp,hn,ha,hb,q0,q1⟩,qq⟩:=h;have p0:=hp.pos;unfold yC;simp only [ends,bG,av,bc,ak,aG,aK,aP,aW,cQ,bK,br,au,aa,af,aM,dN,gB,fm,ay,aq];refine mx (IsL.enc a) (BV ⟨q0,by rw [ha.1]; exact q1⟩) ?_;simp only [PG,au,aa,af];refine Mm (IsL.enc a) (IsL.enc b) fun ok cz=>?_;rw [show a.map (enc:Int->D)=a.map D.int from rfl,show b.map (enc:Int->D)=b.map D.int from rfl,Eh];refine⟨Cu (by rw [ag,vH,ha.1,hb.1]; lia),?_⟩;refine iy (xs:=a.zip b) (fun pre acc τ G'=>G=G'/\(∃ u v,τ=[u,v,some (.int (el a q)),some (.int p)])/\acc=(pre.map fun x=>(x.1 - el a q * x.2) % (p:Int)).map D.int) ⟨rfl,⟨_,_,rfl⟩,rfl⟩ (fun _ _ _ G' h=>cz _ (h.1 ▸ gz.refl _)) ?_ ?_
 ·rintro pre x post acc τ G' N e ⟨rfl,⟨u,v,rfl⟩,rfl⟩ hN;simp only [uV,iN,aM,sX,br,au,aq,ay,aa,af,kQ,kP,i5];refine⟨Vq hp ha,by lia,hN _ _ _ ⟨rfl,⟨_,_,rfl⟩,?_⟩⟩;rw [aA,aA]; rfl
 ·rintro acc τ G' ⟨rfl,⟨u,v,rfl⟩,rfl⟩ pa fa;refine jo (xs:=(a.zip b).map fun x=>(x.1 - el a q * x.2) % (p:Int)) (.new fa) fa aH ?_;have e:(a.zip b).map (fun x=>(x.1 - el a q * x.2) % (p:Int))=tx p a q b:=by
   unfold tx;rw [<-A0]; rfl
  rw [e]; exact qq
noncomputable def sC:iO :=
 (cw (bK (fm 2 [] (Fo (au 0)) (uV (iN (aM 0) (iN (aM 1) sX))) (some (iI (br (GN true) (au 1) (dC (.int 0))))) (au 0)) (aM 1))
 (dN (gB (QD (iI (au 1)) (br j6 (au 1) (Jd HL (dC (.int 1)))) (dC .cL)))))
noncomputable def Po(e:List Int):D:=match pf e with
 | none=>.cL
 | some l=>.int (l:Nat)
noncomputable def kC:om:=fun ds G Q _=>∃ a:List Int,ds=[enc a]/\a.length<=100/\Q (Po a) G
theorem O4:∀ (a:List Int) (k:Nat),((a.zipIdx k).filter fun x=>x.1 != 0).map (·.2)=((aU a.length).filter fun j=>a.getD j 0 != 0).map (k+·)
 | [],_=>rfl
 | a :: as,k=>by
  rw [DX,ak,List.range_succ_eq_map];have ih:=O4 as (k+1);simp only [iz,oO,List.filter_map];have e:((fun j=>(a :: as).getD j 0 != 0)∘Nat.succ)=fun j=>as.getD j 0 != 0:=by funext j; rfl
  rw [e];split <;> simp [ih,Q6,Nat.add_assoc,Nat.add_comm 1]
theorem AV(ds:List D)(G:Gp)(Q:DK)(h:kC ds G Q fun _ _=>False):sC (fun _ _=>False) (ends Q) (bG 2 ds) G:=by
 obtain⟨a,rfl,hl,qq⟩:=h;unfold sC;simp only [ends,bG,av,bc,ak,aG,aK,aP,aW,cQ,bK,fm,Fo,au,aa,aM,dN,gB,ay,aq];refine w5 ?_;rw [show a.map (enc:Int->D)=a.map D.int from rfl,BR];refine⟨Cu (by rw [ag,List.length_zipIdx]; lia),?_⟩;refine iy (xs:=a.zipIdx 0) (fun pre acc τ G'=>G=G'/\(∃ u v,τ=[u,v])/\acc=((pre.filter fun x=>x.1 != 0).map (·.2)).map fun j:Nat=>D.int j) ⟨rfl,⟨_,_,rfl⟩,rfl⟩ (fun _ _ _ _ _=>trivial) ?_ ?_
 ·rintro pre x post acc τ G' N e ⟨rfl,⟨u,v,rfl⟩,rfl⟩ hN;simp only [uV,iN,aM,sX,aq,ay,au,aa,eC,br,af,dC];refine⟨_,_,.int _,.int _,?_⟩;rw [eq_int];by_cases c:x.1=0
  ·simp only [c,decide_true,cS,if_true,cH,aQ,if_false];refine hN _ _ _ ⟨rfl,⟨_,_,rfl⟩,?_⟩;rw [cZ]; simp [c]
  ·simp only [c,decide_false,fN,if_true,cH];refine hN _ _ _ ⟨rfl,⟨_,_,rfl⟩,?_⟩;rw [cZ]; simp [c]
 ·rintro acc τ G' ⟨rfl,⟨u,v,rfl⟩,rfl⟩ pa fa;rw [O4];have ez:((aU a.length).filter fun j=>a.getD j 0 != 0).map (0+·)=(aU a.length).filter fun j=>a.getD j 0 != 0:=by simp
  rw [ez];unfold Po pf at qq;generalize (aU a.length).filter (fun j=>a.getD j 0 != 0)=L at qq;simp only [QD,br,au,af,aa,Jd,dC,qK,eC];refine yj (IsL.ref aH) ?_;rcases List.eq_nil_or_concat L with rfl | ⟨L',l,rfl⟩
  ·simp only [bc,sJ,cS,aQ,if_false];exact Df (.new fa) qq
  ·simp only [List.isEmpty_map];have:(L'++[l]).isEmpty=false:=by simp
   simp only [Q5,this,fN,if_true];refine mx (x:=.int (l:Nat)) (IsL.ref aH) ?_ ?_
   ·unfold pJ Fh;simp only [ag,aw,bF];rw [if_neg (by lia),if_pos (by lia)];have:((-1:Int)+((L'.length+1:Nat):Int)).toNat=L'.length:=by lia
    rw [this];simp
   ·simp only [Q5,List.getLast?_concat] at qq;exact Df (.new fa) qq
noncomputable def Bp:iO :=
 (cw (bK (br j6 (fm 1 [0,1,2] (uM (au 2)) (aM 0) (some (iI (br (GN false) (br sO (br v3 (au 0) (br j6 (au 1) (au 2))) (au 3)) (dC (.int 1))))) (au 0)) (dC (.int 0))) (aM 3))
 (dN (gB (fm 1 [3,2] (nY (au 0)) (aM 0) none (br sO (br v3 (au 0) (au 1)) (au 2))))))
noncomputable def rq:om:=fun ds G Q _=>∃ (p n:Nat) (a:List Int) (l:Nat),ds=[enc a,.int (l:Nat),.int p]/\(Pr p/\n<=100/\kZ p n a/\l < n/\el a (l:Nat)≠0)/\Q (enc (yt p a (inv1 p (el a (l:Nat))))) G
theorem M6(ds:List D)(G:Gp)(Q:DK)(h:rq ds G Q fun _ _=>False):Bp (fun _ _=>False) (ends Q) (bG 4 ds) G:=by
 obtain⟨p,n,a,l,rfl,⟨hp,hn,ha,hl,hz⟩,qq⟩:=h;have p0:=hp.pos;have p1:p < 10:=by rcases hp with rfl | rfl | rfl <;> decide
 have ub:=ha.el hp (l:Nat);obtain⟨-,ne⟩:=KI hp (u:=el a (l:Nat)) (by lia);unfold Bp;simp only [ends,bG,av,bc,ak,aG,aK,aP,aW,cQ,bK,br,fm,dC,aM,dN,gB,ay,aq,fA,au,aa,kU,af,ju,aS];refine⟨by lia,by lia,Cu (by simp [dQ]; lia),?_⟩;refine xW (fun pre acc τ G'=>G=G'/\(∃ u,τ=[u,some (enc a),some (.int (l:Nat)),some (.int p)])/\acc=((aU pre.length).filter fun (k:Nat)=>(k:Int) * el a (l:Nat) % (p:Int) == 1).map fun j:Nat=>D.int j) ⟨rfl,⟨_,rfl⟩,rfl⟩ (fun _ _ _ _ _=>trivial) ?_ ?_
 ·rintro pre x post acc τ G' N e ⟨rfl,⟨u,rfl⟩,rfl⟩ hN;obtain⟨rfl,oj⟩:=sN e;simp only [aM,aq,au,aa,eC,br,af,dC];refine mx (IsL.enc a) (BV ⟨by lia,by rw [ha.1]; lia⟩) ?_;simp only [kQ,i5];refine⟨.inl ⟨by lia,by lia⟩,by lia,_,_,.int _,.int _,?_⟩;rw [eq_int];by_cases c:(pre.length:Int) * el a (l:Nat) % (p:Int)=1
  ·simp only [aQ,c,decide_true,cS,if_false,cH,if_true];refine hN _ _ _ ⟨rfl,⟨_,rfl⟩,?_⟩;rw [aw,bF,k8,cZ]; simp [c]
  ·simp only [aQ,c,decide_false,fN,if_false,cH];refine hN _ _ _ ⟨rfl,⟨_,rfl⟩,?_⟩;rw [aw,bF,k8,cZ]; simp [c]
 ·rintro acc τ G' ⟨rfl,⟨u,rfl⟩,rfl⟩ pa fa;have er:(dQ 0 p).length=p:=by simp [dQ]
  rw [er];have ei:inv1 p (el a (l:Nat))=(((aU p).filter fun (k:Nat)=>(k:Int) * el a (l:Nat) % (p:Int) == 1).headD 0:Nat):=rfl;generalize (aU p).filter (fun (k:Nat)=>(k:Int) * el a (l:Nat) % (p:Int) == 1)=L at ne ei;rw [ei] at qq;cases L with
  | nil=>exact absurd rfl ne
  | cons g L =>
   refine mx (x:=.int (g:Nat)) (IsL.ref aH) (by simp [pJ,Fh]) ?_;simp only [av];refine kG ⟨Cu (by rw [ag,ha.1]; lia),?_⟩;generalize hG:c6 G pa (.lst (D.int (g:Nat) :: L.map fun j:Nat=>D.int j))=G1;refine iy (xs:=a) (fun pre acc τ G'=>G1=G'/\(∃ u,τ=[u,some (.int (g:Nat)),some (.int p)])/\acc=(pre.map fun f=>f * (g:Int) % (p:Int)).map D.int) ⟨rfl,⟨_,rfl⟩,rfl⟩ (fun _ _ _ _ _=>trivial) ?_ ?_
   ·rintro pre x post acc τ G' N e ⟨rfl,⟨u,rfl⟩,rfl⟩ hN;have hx:=ha.2 x (by rw [e]; simp);simp only [aM,br,au,aq,aa,af];show v3 (.int x) (.int (g:Nat)) _ _;simp only [kQ,i5];refine⟨.inl ⟨by lia,by lia⟩,by lia,hN _ _ _ ⟨rfl,⟨_,rfl⟩,?_⟩⟩;rw [aA,aA]; rfl
   ·rintro acc τ G' ⟨rfl,⟨u,rfl⟩,rfl⟩ pb fb;subst hG;exact jo (xs:=yt p a (g:Nat)) ((gz.new fa).trans (.new fb)) (by
     cases e:G pb with
     | none=>rfl
     | some o=>have:=(gz.new (o:=.lst (D.int (g:Nat) :: L.map fun j:Nat=>D.int j)) fa) pb o e; rw [this] at fb; cases fb) aH qq
end vO
end K2
end
section
namespace K2
open PySem (Str)
open Enc (enc)
namespace vO
open K2.P
open K2.vP (NB jI gr cT eq_int lu mI)
open K2.NC (iF A7 Cr P3 fP In)
theorem kg{a:Nat}{xs:List D}{j:Nat}{v:D}{G:Gp}{Q:Gp->Prop}(h:G a=some (.lst xs))(hj:j < xs.length)(q:Q (c6 G a (.lst (xs.set j v)))):sr (.ref a) (.int (j:Int)) v G Q:=by
 unfold sr;simp only [h];have:Fh xs.length (j:Int)=some j:=by
  unfold Fh;rw [if_pos (by lia),if_pos (by lia),aS]
 rw [this]; exact q
theorem BL{a:List Int}{j:Nat}(h:j < a.length):pJ (a.map D.int) (j:Int)=some (.int (a.getD j 0)):=by
 rw [BV ⟨by lia,by lia⟩]; unfold el; rw [aS]
noncomputable def qJ:iO :=
 (cw (bK (fm 1 [] (uM (au 1)) (aM 0) none (dC (.int 0))) (aM 3))
 (cw (bK (br pX (br j6 (au 3) (br j6 (au 0) (dC (.int 0)))) (dC (.int 2))) (lA (au 3) (br j6 (au 0) (dC (.int 0)))))
 (cw (bK (br uk (br j6 (au 3) (br j6 (au 0) (dC (.int 1)))) (dC (.int 1))) (lA (au 3) (br j6 (au 0) (dC (.int 1)))))
 (cw (bK (br uk (br j6 (au 3) (br j6 (au 0) (dC (.int 2)))) (dC (.int 1))) (lA (au 3) (br j6 (au 0) (dC (.int 2)))))
 (dN (gB (fm 1 [2] (nY (au 3)) (aM 0) none (br sO (au 0) (au 1)))))))))
noncomputable def jH:om:=fun ds G Q _=>∃ (p n a b c:Nat),ds=[.tup [.int (a:Nat),.int (b:Nat),.int (c:Nat)],.int (n:Nat),.int (p:Nat)]/\(Pr p/\n<=100/\a < n/\b < n/\c < n)/\Q (enc (eqv p n a b c)) G
theorem zV(ds:List D)(G:Gp)(Q:DK)(h:jH ds G Q fun _ _=>False):qJ (fun _ _=>False) (ends Q) (bG 4 ds) G:=by
 obtain⟨p,n,a,b,c,rfl,⟨hp,hn,ha,hb,hc⟩,qq⟩:=h;have p0:=hp.pos;unfold qJ;simp only [ends,bG,av,bc,ak,aG,aK,aP,aW,cQ,bK,fm,aM,ay,aq,br,au,af,aa,dC,i6,kU,ju,aS];refine⟨by lia,by lia,Cu (by simp [dQ]; lia),?_⟩;refine xW (fun pre acc τ G'=>G=G'/\(∃ u,τ=[u])/\acc=(aK pre.length (0:Int)).map D.int) ⟨rfl,⟨_,rfl⟩,rfl⟩ (fun _ _ _ _ _=>trivial) ?_ ?_
 ·rintro pre x post acc τ G' N e ⟨rfl,⟨u,rfl⟩,rfl⟩ hN;simp only [aM,dC,aq];refine hN _ _ _ ⟨rfl,⟨_,rfl⟩,?_⟩;rw [aw,bF,RB,aA]; rfl
 rintro acc τ G' ⟨rfl,⟨u,rfl⟩,rfl⟩ pa fa;have er:(dQ 0 n).length=n:=by simp [dQ]
 rw [er];have ZW:∀ x y z:D,pJ [x,y,z] 0=some x:=fun _ _ _=>rfl;have Uk:∀ x y z:D,pJ [x,y,z] 1=some y:=fun _ _ _=>rfl;have at2:∀ x y z:D,pJ [x,y,z] 2=some z:=fun _ _ _=>rfl;simp only [ZW,lA,au,af,aa,br,dC,cQ,bK,dN,gB,fm,fA,i6,at2,Uk];refine mx (IsL.ref aH) (BL (a:=aK n 0) (by simp; exact ha)) ?_;simp only [JF,kR];refine kg aH (by simp; exact ha) ?_;rw [show (0:Int)+2=2 from rfl,<-pV (f:=D.int)];refine mx (IsL.ref aH) (BL (by simp; exact hb)) ?_;simp only [kP];refine kg aH (by simp; exact hb) ?_;rw [<-pV (f:=D.int)];refine mx (IsL.ref aH) (BL (by simp; exact hc)) ?_;simp only [kP];refine kg aH (by simp; exact hc) ?_;rw [<-pV (f:=D.int)];have ee:(((aK n (0:Int)).set a 2).set b (((aK n (0:Int)).set a 2).getD b 0 - 1)).set c ((((aK n (0:Int)).set a 2).set b (((aK n (0:Int)).set a 2).getD b 0 - 1)).getD c 0 - 1)=Qm n a b c:=rfl;rw [ee];refine PJ (IsL.ref aH) fun ok cz=>?_;have l0:=KW (n:=n) (a:=a) (b:=b) (c:=c);refine⟨Cu (by rw [ag,l0]; lia),?_⟩;have le:gz G (c6 (c6 (c6 (c6 G pa (.lst ((aK n (0:Int)).map D.int))) pa (.lst (((aK n (0:Int)).set a 2).map D.int))) pa (.lst ((((aK n (0:Int)).set a 2).set b (((aK n (0:Int)).set a 2).getD b 0 - 1)).map D.int))) pa (.lst ((Qm n a b c).map D.int))):=(((gz.new fa).put fa).put fa).put fa;generalize c6 (c6 (c6 (c6 G pa (.lst ((aK n (0:Int)).map D.int))) pa (.lst (((aK n (0:Int)).set a 2).map D.int))) pa (.lst ((((aK n (0:Int)).set a 2).set b (((aK n (0:Int)).set a 2).getD b 0 - 1)).map D.int))) pa (.lst ((Qm n a b c).map D.int))=G1 at *;refine iy (xs:=Qm n a b c) (f:=D.int) (fun pre acc τ G'=>G1=G'/\(∃ u,τ=[u,some (.int p)])/\acc=(pre.map (· % (p:Int))).map D.int) ⟨rfl,⟨_,rfl⟩,rfl⟩ (fun _ _ _ G' h=>cz _ (h.1 ▸ gz.refl _)) ?_ ?_
 ·rintro pre x post acc τ G' N e ⟨rfl,⟨u,rfl⟩,rfl⟩ hN;simp only [aM,br,au,aq,aa,af,i5];refine⟨by lia,hN _ _ _ ⟨rfl,⟨_,rfl⟩,?_⟩⟩;rw [aA,aA]; rfl
 ·rintro acc τ G' ⟨rfl,⟨u,rfl⟩,rfl⟩ pb fb;exact jo (xs:=eqv p n a b c) (le.trans (.new fb)) (le.free fb) aH qq
theorem Qc(a:List Int):FG (enc a)=true:=by
 show ((a.map D.int).all sP)=true;rw [vJ]; exact List.all_eq_true.mpr fun _ _=>rfl
theorem QT{κ β:Type} [DecidableEq κ]{A B:List (κ×β)}{k:κ}{x v:β}(hA:k∉A.map (·.1))(hB:k∉B.map (·.1)):mZ (A++(k,x) :: B) k v=A++(k,v) :: B:=by
 unfold mZ;rw [if_pos (by simp)];rw [aA,av];have e:∀ (l:List (κ×β)),k∉l.map (·.1)->l.map (fun p=>if p.1=k then (p.1,v) else p)=l:=fun l h=>by
  conv=>rhs; rw [<-GG l]
  apply oN;intro p hp;have ne:p.1≠k:=fun z=>h (z ▸ bq hp);rw [if_neg ne]; rfl
 rw [e A hA,e B hB];simp
theorem Pp(R:List (Int×List Int)):(bD R).map (·.1)=R.map fun r=>D.int r.1:=by
 unfold bD; rw [bA]; rfl
theorem KQ{p n:Nat}(hp:Pr p)(hn:n<=100){R0:List (Int×List Int)}(h:Red p n R0){Z:gS->Prop}{E:lb}{e1 e3:Option D}:∀ (R:List (Int×List Int)) (a:List Int) (G:Gp) (u5 u6:Option D),(∀ r∈R,r∈R0)->kZ p n a ->
  (∀ u5,Z [e1,some (.int (p:Nat)),some (.kh (bD R0)),e3,some (enc (mO p R a)),u5,u6]) ->
  YR 5 4 (cE ke (aI (au 4) (aI (au 5) (aI (br j6 (au 2) (au 5)) (aI (au 1) bx))))) (R.map fun r=>D.int r.1) E [e1,some (.int (p:Nat)),some (.kh (bD R0)),e3,some (enc a),u5,u6] G Z
 | [],a,G,u5,u6,_,_,z=>z u5
 | r :: R,a,G,u5,u6,hR,ha,z=>by
  have hr:=hR r aB;rw [av];unfold YR;simp only [cE,aI,au,ay,aq,af,aa,br,bx,um];refine⟨fY (κ:=Int) R0 r.1,?_⟩;have lk:look (bD R0) (.int r.1)=some (enc r.2):=by
   rw [show D.int r.1=enc r.1 from rfl,kT,fU h.nd hr]; rfl
  rw [lk];refine⟨p,n,a,r.2,r.1,rfl,⟨hp,hn,ha,(h.ok r hr).2,(h.ok r hr).1.1,(h.ok r hr).1.2⟩,?_⟩;exact KQ hp hn h R (tx p a r.1 r.2) G _ u6 (fun q hq=>hR q (ao _ hq)) (ha.tx hp (h.ok r hr).2) z
noncomputable def Bn:iO :=
 (cw (bK xq (aM 2))
 (cw (gO (nY (au 0)) (aM 3) (cw (bK (au 3) (aM 4))
 (cw (Ui 2 5 4 (cE ke (aI (au 4) (aI (au 5) (aI (br j6 (au 2) (au 5)) (aI (au 1) bx))))))
 (cw (bK (cE kC (aI (au 4) bx)) (aM 6))
 (kY (iI (Jd (LS true) (au 6))) (cw (bK (cE rq (aI (au 4) (aI (au 6) (aI (au 1) bx)))) (aM 4))
 (cw (gO (nY (sG DD (aI (au 2) bx))) (aM 5) (bK (cE ke (aI (br j6 (au 2) (au 5)) (aI (au 6) (aI (au 4) (aI (au 1) bx))))) (lA (au 2) (au 5))))
 (bK (au 4) (lA (au 2) (au 6))))) gx)))))
 (dN (gB (au 2)))))
noncomputable def rm:om:=fun ds G Q _=>∃ (p n:Nat) (es:List (List Int)),ds=[enc es,.int (p:Nat)]/\(Pr p/\n<=100/\es.length<=100/\∀ e∈es,kZ p n e)/\Q (.kh (bD (es.foldl (rW p) []))) G
theorem Oj{p:Nat}{R:List (Int×List Int)}{e:List Int}:(rW p R e).length<=R.length+1:=by
 unfold rW;split
 ·lia
 ·simp
theorem M4(ds:List D)(G:Gp)(Q:DK)(h:rm ds G Q fun _ _=>False):Bn (fun _ _=>False) (ends Q) (bG 7 ds) G:=by
 obtain⟨p,n,es,rfl,⟨hp,hn,he,hv⟩,qq⟩:=h;have p0:=hp.pos;unfold Bn;simp only [ends,bG,av,bc,ak,aG,aK,aP,aW,cQ,bK,xq,aM,ay,aq];intro pd fd;refine fO (fun τ G'=>(gz G G'/\G' pd=some (.ja (bD (es.foldl (rW p) []))))/\∃ a b c d,τ=[some (enc es),some (.int (p:Nat)),some (.ref pd),a,b,c,d]) ?_ ?_
 ·intro N hN;simp only [gO,fA,au,aa];refine kG ?_;refine gh (xs:=es) (fun pre τ G'=>(gz G G'/\G' pd=some (.ja (bD (pre.foldl (rW p) []))))/\(Red p n (pre.foldl (rW p) [])/\(pre.foldl (rW p) []).length<=pre.length)/\∃ a b c d,τ=[some (enc es),some (.int (p:Nat)),some (.ref pd),a,b,c,d]) ⟨⟨.new fd,aH⟩,⟨JY,aC _⟩,_,_,_,_,rfl⟩ (fun _ _ _ _=>trivial) ?_ ?_
  ·rintro pre e post τ G' N2 ee ⟨⟨le,gd⟩,⟨hR,S0⟩,a3,a4,a5,a6,rfl⟩ lQ;have BH:pre.length<=100:=by
    have:es.length=pre.length+(e :: post).length:=by rw [ee,aw]
    lia
   have hve:=hv e (by rw [ee]; simp);rw [e9,bT,md] at lQ;generalize hRR:pre.foldl (rW p) []=R at *;obtain⟨i1,i2,i3⟩:=C1 hp R hR [] R e rfl hve (fun r hr=>by cases hr);have hS:=JN hp hR hve;have hF:=Oj (p:=p) (R:=R) (e:=e);simp only [aM,ay,aq,cQ,bK,au,af,aa];refine fO (fun τ G2=>G'=G2/\τ=[some (enc es),some (.int (p:Nat)),some (.ref pd),some (enc e),some (enc (mO p R e)),none,a6]) ?_ ?_
   ·intro N3 Ro;refine⟨pd,bD R,rfl,gd,?_⟩;rw [Pp];exact KQ hp hn hR R e _ a5 a6 (fun _ h=>h) hve fun u5=>⟨enc (mO p R e),rfl,Qc _,Ro _ _ ⟨rfl,rfl⟩⟩
   ·rintro _ _ ⟨rfl,rfl⟩;simp only [cQ,bK,cE,aI,au,af,aa,bx,aM,ay,aq];refine⟨_,rfl,by rw [i1.1]; exact hn,?_⟩;unfold rW at lQ hS hF;unfold Po;cases hl:pf (mO p R e) with
    | none =>
     rw [hl] at lQ hS hF;simp only [lu,cQ,bK,cE,aI,au,af,aa,bx,aM,ay,aq,gx,eC,Jd,LS,cS,cH,aQ,if_false];exact lQ _ _ ⟨⟨le,gd⟩,⟨hR,by rw [aw]; exact cC S0 (eX _ _)⟩,_,_,_,_,rfl⟩
    | some l =>
     rw [hl] at lQ hS hF;obtain⟨l1,l2,l3⟩:=w4 hl;simp only [lu,cQ,bK,cE,aI,au,af,aa,bx,aM,ay,aq,gx,eC,Jd,LS,cH,if_true];refine⟨p,n,_,l,rfl,⟨hp,hn,i1,by rw [<-i1.1]; exact l1,l2⟩,?_⟩;have v2:kZ p n (yt p (mO p R e) (inv1 p (el (mO p R e) (l:Nat)))):=i1.yt hp;dsimp only at lQ hS hF;generalize yt p (mO p R e) (inv1 p (el (mO p R e) (l:Nat)))=s at *;have ne:∀ r∈R,r.1≠(l:Int):=fun r hr z=>l2 (z ▸ i2 r hr);refine fO (fun τ G2=>(gz G G2/\G2 pd=some (.ja (bD (R.map fun r=>(r.1,tx p r.2 (l:Nat) s)))))/\∃ u,τ=[some (enc es),some (.int (p:Nat)),some (.ref pd),some (enc e),some (enc s),u,some (.int (l:Nat))]) ?_ ?_
     ·intro N3 Ro;simp only [gO,fA,sG,aI,au,af,aa,bx,DD,gd];refine⟨by rw [BU]; lia,?_⟩;rw [Pp];intro pl fl;have npl:pl≠pd:=fun z=>by rw [z,gd] at fl; cases fl
      rw [SR,aH];refine gh (xs:=R) (f:=fun r=>D.int r.1) (fun pre τ G2=>(gz G G2/\G2 pl=some (.lst (R.map fun r=>D.int r.1)))/\G2 pd=some (.ja (bD (pre.map (fun r=>(r.1,tx p r.2 (l:Nat) s))++R.drop pre.length)))/\∃ u,τ=[some (enc es),some (.int (p:Nat)),some (.ref pd),some (enc e),some (enc s),u,some (.int (l:Nat))]) ⟨⟨le.trans (.new fl),aH⟩,by rw [dh (cW npl)]; exact gd,_,rfl⟩ (fun _ _ _ h=>h.1.2) ?_ ?_
      ·rintro pr r po τ G2 N4 e4 ⟨⟨X2,gl2⟩,Ug,u,rfl⟩ hN4;have hr:r∈R:=by rw [e4]; simp
       have nd:=hR.nd;rw [e4,aA,av,cj,cF] at nd;have k1:r.1∉(pr.map fun r=>(r.1,tx p r.2 (l:Nat) s)).map (·.1):=by
        rw [bA];exact fun z=>nd.2.2 r.1 z r.1 aB rfl
       have ed:R.drop pr.length=r :: po:=by rw [e4,List.drop_left]
       rw [ed] at Ug;simp only [aM,bK,cE,aI,br,au,ay,aq,af,aa,bx,lA];rw [J4];simp only [Ug];have lk:look (bD (pr.map (fun r=>(r.1,tx p r.2 (l:Nat) s))++r :: po)) (.int r.1)=some (enc r.2):=by
        rw [show D.int r.1=enc r.1 from rfl,kT,fU (p:=r) ?_ (by simp)]; rfl;rw [aA,bA,av,cj,cF];exact nd
       refine⟨fY (κ:=Int) _ r.1,?_⟩;rw [lk];refine⟨p,n,r.2,s,(l:Nat),rfl,⟨hp,hn,(hR.ok r hr).2,v2,by lia,by rw [<-i1.1]; lia⟩,?_⟩;refine K2.lX Ug (Hw (by
        have:R.length=pr.length+(r :: po).length:=by rw [e4,aw]
        rw [aw,ag]; lia)) ?_
       rw [show (r :: po)=(r.1,r.2) :: po from rfl,QT k1 nd.2.1.1];refine hN4 _ _ ⟨⟨X2.put fd,by rw [dh npl]; exact gl2⟩,?_,_,rfl⟩;rw [aH,aA,aw,bF];have:R.drop (pr.length+1)=po:=by rw [<-List.drop_drop,ed]; rfl
       rw [this,cK]; rfl
      ·rintro τ G2 ⟨⟨X2,_⟩,Ug,u,rfl⟩;rw [List.drop_length,bU] at Ug;exact Ro _ _ ⟨⟨X2,Ug⟩,_,rfl⟩
     ·rintro _ G2 ⟨⟨X2,Ug⟩,u,rfl⟩;simp only [bK,au,af,aa,lA];refine K2.lX Ug (Hw (by rw [ag]; lia)) ?_;rw [zM (by
       rw [bA];intro z;obtain⟨r,hr,e⟩:=List.mem_map.mp z;exact ne r hr e)]
      exact lQ _ _ ⟨⟨X2.put fd,aH⟩,⟨hS.1,by rw [aw,ag,aw]; exact Nat.add_le_add S0 (aC 1)⟩,_,_,_,_,rfl⟩
  ·rintro τ G2 ⟨h1,_,h3⟩;exact hN _ _ ⟨h1,h3⟩
 ·rintro _ G2 ⟨⟨le,gd⟩,a,b,c,d,rfl⟩;simp only [dN,gB,au,af,aa];exact zi le fd gd qq
end vO
end K2
end
section
namespace K2
open PySem (Str)
open Enc (enc)
namespace vO
open K2.P
open K2.vP (NB jI gr cT eq_int lu mI)
open K2.NC (we iF A7 Cr P3 fP In)
theorem Hv{p:Nat}(hp:Pr p):p < 10:=by rcases hp with rfl | rfl | rfl <;> decide
theorem SI{R:List (Int×List Int)}{G:Gp}{Z:List D->(Gp->Prop)->Gp->Prop}(h:Z (R.map fun r=>.tup [.int r.1,enc r.2]) (fun _=>True) G):Fn (.kh (bD R)) G Z:=by
 refine⟨Mg R,?_⟩;have:(bD R).map (fun p=>D.tup [p.1,p.2])=R.map fun r=>.tup [.int r.1,enc r.2]:=by unfold bD; rw [bA]; rfl
 rw [this]; exact h
noncomputable def nC:iO :=
 (cw (bK (fm 1 [] (uM (au 2)) (aM 0) none (dC (.int 0))) (aM 4))
 (cw (bK (dC (.int 1)) (lA (au 4) (au 1)))
 (cw (gO (Iw (au 0)) (uV (iN (aM 5) (iN (aM 6) sX))) (bK (br sO (Jd HL (br j6 (au 6) (au 1))) (au 3)) (lA (au 4) (au 5))))
 (dN (gB (au 4))))))
noncomputable def gY:om:=fun ds G Q _=>∃ (p n f:Nat) (R:List (Int×List Int)),ds=[.kh (bD R),.int (f:Nat),.int (n:Nat),.int (p:Nat)]/\(Pr p/\n<=100/\f < n/\Red p n R)/\Q (enc (cf p n R f)) G
theorem vA(ds:List D)(G:Gp)(Q:DK)(h:gY ds G Q fun _ _=>False):nC (fun _ _=>False) (ends Q) (bG 7 ds) G:=by
 obtain⟨p,n,f,R,rfl,⟨hp,hn,hf,hR⟩,qq⟩:=h;have p0:=hp.pos;unfold nC;simp only [ends,bG,av,bc,ak,aG,aK,aP,aW,cQ,bK,fm,aM,ay,aq,dC,kU,au,af,aa,ju,aS];refine⟨by lia,by lia,Cu (by simp [dQ]; lia),?_⟩;refine xW (fun pre acc τ G'=>G=G'/\(∃ u,τ=[u])/\acc=(aK pre.length (0:Int)).map D.int) ⟨rfl,⟨_,rfl⟩,rfl⟩ (fun _ _ _ _ _=>trivial) ?_ ?_
 ·rintro pre x post acc τ G' N e ⟨rfl,⟨u,rfl⟩,rfl⟩ hN;simp only [aM,dC,aq];refine hN _ _ _ ⟨rfl,⟨_,rfl⟩,?_⟩;rw [aw,bF,RB,aA]; rfl
 rintro acc τ G' ⟨rfl,⟨u,rfl⟩,rfl⟩ pa fa;have er:(dQ 0 n).length=n:=by simp [dQ]
 rw [er];simp only [lA,au,af,aa];refine kg aH (by simp; exact hf) ?_;rw [<-pV (f:=D.int)];refine fO (fun τ G'=>(gz G G'/\G' pa=some (.lst ((cf p n R f).map D.int)))/\∃ a b c d e g,τ=[a,b,c,d,some (.ref pa),e,g]) ?_ ?_
 ·intro N hN;simp only [gO,Iw,au,aa];refine SI ?_;refine gh (xs:=R) (f:=fun r=>D.tup [.int r.1,enc r.2]) (fun pre τ G'=>(gz G G'/\G' pa=some (.lst ((fs (fun r=>(-(el r.2 (f:Nat))) % (p:Int)) pre ((aK n 0).set f 1)).map D.int)))/\∃ e g,τ=[some (.kh (bD R)),some (.int (f:Nat)),some (.int (n:Nat)),some (.int (p:Nat)),some (.ref pa),e,g]) ⟨⟨(gz.new fa).put fa,aH⟩,_,_,rfl⟩ (fun _ _ _ _=>trivial) ?_ ?_
  ·rintro pre r post τ G' N2 e ⟨⟨le,gp⟩,e1,e2,rfl⟩ lQ;have hr:r∈R:=by rw [e]; simp
   have hv:=(hR.ok r hr).2;have kl:=VE hR hr;simp only [uV,iN,aM,sX,bK,br,Jd,au,ay,aq,af,aa,lA];refine mx (IsL.enc r.2) (BV ⟨by lia,by rw [hv.1]; lia⟩) ?_;simp only [qK,i5];refine⟨by lia,?_⟩;have ei:r.1=((r.1.toNat:Nat):Int):=by lia
   have go:∀ Z:Gp->Prop,Z (c6 G' pa (.lst (((fs (fun r=>(-(el r.2 (f:Nat))) % (p:Int)) pre ((aK n 0).set f 1)).map D.int).set r.1.toNat (.int (-(el r.2 (f:Nat)) % (p:Int))))))->sr (.ref pa) (.int r.1) (.int (-(el r.2 (f:Nat)) % (p:Int))) G' Z:=fun Z hZ=>by
    rw [ei];exact kg gp (by rw [ag,P6,dO,da]; exact kl.2) hZ
   refine go _ ?_;rw [<-pV (f:=D.int)];refine lQ _ _ ⟨⟨le.put fa,?_⟩,_,_,rfl⟩;rw [aH];unfold fs;rw [e9]; rfl
  ·rintro τ G' ⟨h1,e1,e2,rfl⟩;exact hN _ _ ⟨h1,_,_,_,_,_,_,rfl⟩
 ·rintro _ G' ⟨⟨le,gp⟩,a,b,c,d,e,g,rfl⟩;simp only [dN,gB,au,af,aa];exact jo (xs:=cf p n R f) le fa gp qq
theorem PB{R:List (Int×List Int)}{j:Int}{G:Gp}{Q:DK}(q:Q (.bl (decide (j∉R.map (·.1)))) G):LU true (.int j) (.kh (bD R)) G Q:=by
 cases hR:R with
 | nil =>
  subst hR;exact⟨⟨j,rfl⟩,by simpa using q⟩
 | cons r R' =>
  rw [<-hR];have ne:bD R≠[]:=by rw [hR]; simp [bD]
  rw [J8 (fun z=>ne (by injection z))];refine⟨ne,fY (κ:=Int) R j,?_⟩;have e:(!(look (bD R) (.int j)).isSome)=decide (j∉R.map (·.1)):=by
   rw [show D.int j=enc j from rfl,kT,lG];unfold pL;rw [lG,Bool.eq_iff_iff,decide_eq_true_iff,A3,<-Bool.not_eq_true,List.find?_isSome];simp
  rw [if_pos rfl,e]; exact q
noncomputable def eqT(p n:Nat)(t:T3):List Int:=eqv p n t.a.toNat t.b.toNat t.c.toNat
noncomputable def HG(p:Nat)(rows:Rows):List (Int×List Int):=(((names rows).map (A7 rows)).map (eqT p (cT rows).length)).foldl (rW p) []
noncomputable def ED:iO :=
 (cw (fF (cE fP (aI (au 1) bx)))
 (cw (bK (sG xx (aI (cE jI (aI (au 0) bx)) bx)) (aM 2))
 (cw (bK (cE rm (aI (gB (fm 1 [2,1] (nY (cE iF (aI (au 0) bx))) (aM 0) none (cE jH (aI (au 0) (aI (au 1) (aI (au 2) bx)))))) (aI (gB (au 1)) bx))) (aM 3))
 (dN (gB (fm 1 [3,2,1] (uM (au 2)) (aM 0) (some (iI (br (LU true) (au 0) (au 1)))) (cE gY (aI (au 1) (aI (au 0) (aI (au 2) (aI (au 3) bx)))))))))))
noncomputable def Ny(p:Nat)(rows:Rows):List (List Int):=(frees (HG p rows) (cT rows).length).map (cf p (cT rows).length (HG p rows))
theorem t7{p:Nat}(hp:Pr p)(rows:Rows):Red p (cT rows).length (HG p rows)/\∀ x,Lm p ((HG p rows).map (·.2)) x↔Lm p (((names rows).map (A7 rows)).map (eqT p (cT rows).length)) x:=by
 obtain⟨a,b⟩:=Ox hp (((names rows).map (A7 rows)).map (eqT p (cT rows).length)) [] JY fun e he=>by
  obtain⟨t,_,rfl⟩:=List.mem_map.mp he;exact KU hp
 exact⟨a,fun x=>(b x).trans ⟨fun z=>z.2,fun z=>⟨fun e he=>(by cases he),z⟩⟩⟩
noncomputable def t6:om:=fun ds G Q _=>∃ (rows:Rows) (p:Nat),ds=[enc rows,.int (p:Nat)]/\(Dr rows/\NB rows/\rows≠[])/\Pr p/\Q (enc (Ny p rows)) G
theorem QX(ds:List D)(G:Gp)(Q:DK)(h:t6 ds G Q fun _ _=>False):ED (fun _ _=>False) (ends Q) (bG 4 ds) G:=by
 obtain⟨rows,p,rfl,⟨dr,nb,j8⟩,hp,qq⟩:=h;have p0:=hp.pos;have p1:=Hv hp;have bf:=mI dr;have nf:=we dr;unfold ED;simp only [ends,bG,av,bc,ak,aG,aK,aP,aW,qx,fF,cE,aI,au,af,aa,bx,cQ,bK,sG,aM,ay,aq,gB,fm,dN,kU,fA];refine⟨p,rfl,by rcases hp with rfl | rfl | rfl <;> simp [P3],?_⟩;refine⟨rows,rfl,⟨dr,nb,j8⟩,?_⟩;refine DE (IsL.enc (cT rows)) ?_;simp only [ag,ju];refine⟨rows,rfl,⟨dr,nb,j8⟩,?_⟩;obtain⟨hR,_⟩:=t7 hp rows;unfold Ny at qq;have rH:∀ t∈(names rows).map (A7 rows),(0<=t.a/\t.a < (cT rows).length)/\(0<=t.b/\t.b < (cT rows).length)/\(0<=t.c/\t.c < (cT rows).length):=fun t ht=>by
  obtain⟨m,hm,rfl⟩:=List.mem_map.mp ht;have:=Cr dr (ns:=aK (cT rows).length 0) (by simp) hm;have a:=this.a;have b:=this.b;have c:=this.c;rw [da] at a b c;exact⟨a,b,c⟩
 have es:HG p rows=(((names rows).map (A7 rows)).map (eqT p (cT rows).length)).foldl (rW p) []:=rfl;have ll:((names rows).map (A7 rows)).length<=100:=by rw [ag]; lia
 have hn:(cT rows).length<=100:=by lia
 generalize HG p rows=R at *;generalize (names rows).map (A7 rows)=ts at *;generalize (cT rows).length=n at *;refine kG ⟨Cu (by rw [ag]; lia),?_⟩;refine iy (xs:=ts) (fun pre acc τ G'=>G=G'/\(∃ u,τ=[u,some (.int (n:Nat)),some (.int (p:Nat))])/\acc=(pre.map (eqT p n)).map enc) ⟨rfl,⟨_,rfl⟩,rfl⟩ (fun _ _ _ _ _=>trivial) ?_ ?_
 ·rintro pre t post acc τ G' N e ⟨rfl,⟨u,rfl⟩,rfl⟩ hN;obtain⟨t1,t2,t3⟩:=rH t (by rw [e]; simp);simp only [aM,cE,aI,au,Ds,aq,aa,af,bx];refine⟨p,n,t.a.toNat,t.b.toNat,t.c.toNat,?_,⟨hp,hn,by lia,by lia,by lia⟩,hN _ _ _ ⟨rfl,⟨_,rfl⟩,?_⟩⟩
  ·rw [oV t1.1,oV t2.1,oV t3.1]
  ·rw [aA,aA]; rfl
 rintro acc τ G' ⟨rfl,⟨u,rfl⟩,rfl⟩ pa fa;refine jo (xs:=ts.map (eqT p n)) (.new fa) fa aH ?_;refine sE ?_;refine⟨p,n,_,rfl,⟨hp,hn,by rw [ag]; exact ll,fun e he=>?_⟩,?_⟩
 ·obtain⟨t,_,rfl⟩:=List.mem_map.mp he;exact KU hp
 rw [<-es];simp only [aS];refine⟨by lia,by lia,Cu (by simp [dQ]; lia),?_⟩;refine xW (fun pre acc τ G'=>G=G'/\(∃ u,τ=[u,some (.kh (bD R)),some (.int (n:Nat)),some (.int (p:Nat))])/\acc=((frees R pre.length).map (cf p n R)).map enc) ⟨rfl,⟨_,rfl⟩,rfl⟩ (fun _ _ _ _ _=>trivial) ?_ ?_
 ·rintro pre x post acc τ G' N e ⟨rfl,⟨u,rfl⟩,rfl⟩ hN;obtain⟨rfl,oj⟩:=sN e;simp only [aM,aq,cE,aI,au,af,aa,bx,eC,br];refine PB ?_;have ef:frees R (pre.length+1)=frees R pre.length++(if (pre.length:Int)∉R.map (·.1) then [pre.length] else []):=by
   unfold frees;rw [k8,cZ,iz,oQ];simp only [decide_eq_true_iff]
  by_cases c:(pre.length:Int)∈R.map (·.1)
  ·simp only [c,not_true_eq_false,decide_false,cH,aQ,if_false];refine hN _ _ _ ⟨rfl,⟨_,rfl⟩,?_⟩;rw [aw,bF,ef,if_neg (fun z=>z c),bU]
  ·simp only [c,not_false_eq_true,decide_true,cH,if_true];refine⟨p,n,pre.length,R,rfl,⟨hp,hn,by lia,hR⟩,hN _ _ _ ⟨rfl,⟨_,rfl⟩,?_⟩⟩;rw [aw,bF,ef,if_pos c,aA,aA]; rfl
 ·rintro acc τ G' ⟨rfl,⟨u,rfl⟩,rfl⟩ pb fb;have er:(dQ 0 n).length=n:=by simp [dQ]
  rw [er];exact jo (xs:=(frees R n).map (cf p n R)) (.new fb) fb aH qq
noncomputable def wU:iO :=
 (cw (bK (dC (.int 1)) (aM 2))
 (cw (gO (uM (au 1)) (aM 3) (bK (br v3 (au 2) (au 0)) (aM 2)))
 (dN (gB (au 2)))))
noncomputable def nu:om:=fun ds G Q _=>∃ p k:Nat,ds=[.int (p:Nat),.int (k:Nat)]/\(Pr p/\k<=1000)/\Q (.int ((p:Int) ^ k)) G
theorem Gx(ds:List D)(G:Gp)(Q:DK)(h:nu ds G Q fun _ _=>False):wU (fun _ _=>False) (ends Q) (bG 4 ds) G:=by
 obtain⟨p,k,rfl,⟨hp,hk⟩,qq⟩:=h;have p1:=Hv hp;unfold wU;simp only [ends,bG,av,bc,ak,aG,aK,aP,aW,cQ,bK,dC,aM,ay,aq];refine fO (fun τ G'=>G=G'/\∃ a b c,τ=[a,b,some (.int ((p:Int) ^ k)),c]) ?_ ?_
 ·intro N hN;simp only [gO,kU,au,af,aa,ju,aS];refine⟨by lia,by lia,?_⟩;refine P7 (fun pre τ G'=>G=G'/\∃ c,τ=[some (.int (p:Nat)),some (.int (k:Nat)),some (.int ((p:Int) ^ pre.length)),c]) ⟨rfl,_,rfl⟩ (fun _ _ _ _=>trivial) ?_ ?_
  ·rintro pre x post τ G' N2 e ⟨rfl,c,rfl⟩ lQ;simp only [aM,bK,br,au,ay,aq,af,aa,kQ];refine⟨.inr ⟨by lia,by lia⟩,lQ _ _ ⟨rfl,some x,?_⟩⟩;rw [aw,bF,Int.pow_succ]
  ·rintro τ G' ⟨rfl,c,rfl⟩;refine hN _ _ ⟨rfl,some (.int (p:Nat)),some (.int (k:Nat)),c,?_⟩;simp [dQ]
 ·rintro _ _ ⟨rfl,a,b,c,rfl⟩;simp only [dN,gB,au,af,aa];exact sE qq
noncomputable def lH:iO :=
 (dN (gB (cE nu (aI (au 1) (aI (sG xx (aI (cE t6 (aI (au 0) (aI (au 1) bx))) bx)) bx)))))
noncomputable def eQ:om:=fun ds G Q _=>∃ (rows:Rows) (p:Nat),ds=[enc rows,.int (p:Nat)]/\(Dr rows/\NB rows/\rows≠[])/\Pr p/\Q (.int ((p:Int) ^ (Ny p rows).length)) G
theorem Ts{p:Nat}{rows:Rows}(dr:Dr rows):(Ny p rows).length<=100:=by
 unfold Ny frees;rw [ag];refine cC (je _ _) ?_;rw [e7];have:=mI dr;lia
theorem sf(ds:List D)(G:Gp)(Q:DK)(h:eQ ds G Q fun _ _=>False):lH (fun _ _=>False) (ends Q) (bG 2 ds) G:=by
 obtain⟨rows,p,rfl,hd,hp,qq⟩:=h;have bf:=Ts (p:=p) hd.1;unfold lH;simp only [dN,gB,cE,aI,au,bG,av,bc,ak,aG,aP,aW,af,aa,sG,bx,ends];refine⟨rows,p,rfl,hd,hp,?_⟩;refine DE (IsL.enc (Ny p rows)) ?_;rw [ag];exact⟨p,_,rfl,⟨hp,by lia⟩,sE qq⟩
end vO
end K2
end
section
namespace K2
namespace pR
noncomputable def ab(c:Int):Int:=if c < 0 then -c else c
noncomputable def eO(p c:Int):Int:=if p=ab c then ab c+1 else if p=ab c+1 then ab c else p
noncomputable def iC(n c p:Int):T3:=⟨n,if decide (p=ab c+1)=decide (c > 0) then 0 else 1,if c > 0 then 1 else -1⟩
noncomputable def fT(n:Int):List Int->Int->List T3
 | [],_=>[]
 | c :: cs,p=>(if p=ab c\/p=ab c+1 then [iC n c p] else [])++fT (n+1) cs (eO p c)
noncomputable def i8:List Int->Int->Int
 | [],p=>p
 | c :: cs,p=>i8 cs (eO p c)
theorem RW(c:Int){p q:Int}(h:eO p c=eO q c):p=q:=by
 unfold eO at h;split at h <;> split at h <;> (try split at h) <;> lia
theorem C3:∀ (cs:List Int) {p q:Int},i8 cs p=i8 cs q->p=q
 | [],_,_,h=>h
 | c :: cs,_,_,h=>RW c (C3 cs h)
theorem Hy{n c p:Int}(h1:1<=ab c)(h2:ab c < n)(hp:1<=p/\p<=n):1<=eO p c/\eO p c<=n:=by
 unfold eO;split
 ·lia
 ·split <;> lia
theorem y7{n:Int}:∀ (cs:List Int) {p:Int},(∀ c∈cs,1<=ab c/\ab c < n)->1<=p/\p<=n->1<=i8 cs p/\i8 cs p<=n
 | [],_,_,hp=>hp
 | c :: cs,p,h,hp=>y7 cs (fun x hx=>h x (ao _ hx)) (Hy (h c (by simp)).1 (h c (by simp)).2 hp)
theorem xU:∀ (cs:List Int) (n p:Int),(fT n cs p).length<=cs.length
 | [],_,_=>aC _
 | c :: cs,n,p=>by
  unfold fT;rw [aw,ak];have:=xU cs (n+1) (eO p c);split <;> simp <;> lia
variable {α:Type}
noncomputable def yy(f:Int->Int)(r:Int->List α):Nat->Int->List Int->List α->List α×List Int
 | 0,_,fk,ps=>(ps,fk)
 | k+1,p,fk,ps=>if p∈fk then (ps,fk) else yy f r k (f p) (fk++[p]) (ps++r p)
noncomputable def cls(f:Int->Int)(r:Int->List α):List Int->List (List α)->List Int->List (List α)
 | [],rows,_=>rows
 | t :: ts,rows,met=>if t∈met then cls f r ts rows met else
  let s:=yy f r 4 t [] []
  cls f r ts (rows++[s.1]) (met++s.2)
theorem sD:∀ (xs ys:List Int),xs.Nodup->(∀ x∈xs,x∈ys)->xs.length<=ys.length
 | [],_,_,_=>cb _
 | x :: xs,ys,hn,h=>by
  rw [cF] at hn;have:=sD xs (ys.erase x) hn.2 fun y hy=>(wI (show y≠x from fun z=>hn.1 (by rw [<-z]; exact hy))).mpr (h y (ao _ hy));have hx:=h x (by simp);rw [qZ hx] at this;have:=tL hx;rw [ak]; lia
theorem O6{xs:List Int}(h:xs.Nodup)(hx:∀ x∈xs,1<=x/\x<=3):xs.length<=3 :=
 sD xs [1,2,3] h fun x m=>by
  have:=hx x m;have:x=1\/x=2\/x=3:=by lia
  simpa using this
end pR
end K2
end
section
namespace K2
open PySem (Str)
open Enc (enc)
namespace pR
open K2.P
theorem vn{i:Int}{G:Gp}{Q:DK}:cAbs [.int i] G Q=Q (.int (ab i)) G:=rfl
theorem Sa{α:Type} [DecidableEq α] [Enc α]{neg:Bool}{x:α}{xs:List α}{G:Gp}{Q:DK}(hd:Enc.dep α<=7)(q:Q (.bl (if neg then !decide (x∈xs) else decide (x∈xs))) G):HM neg (enc x) (.tup (xs.map enc)) G Q:=by
 refine⟨enc x,xs.map enc,Enc.sn _ _ _ (by unfold SN; lia),sM G 7 hd xs,?_⟩;rw [Lj]; exact q
noncomputable def kB:om:=fun ds G Q _=>∃ n c p:Int,ds=[.int n,.int c,.int p]/\Q (enc (iC n c p)) G
noncomputable def sA:iO :=
 (cw (bK (br (GN false) (au 2) (br pX (sG cAbs (aI (au 1) bx)) (dC (.int 1)))) (aM 3))
 (cw (bK (QD (iI (br (GN false) (au 3) (br TN (au 1) (dC (.int 0))))) (dC (.int 0)) (dC (.int 1))) (aM 4))
 (dN (gB (mH (aI (au 0) (aI (au 4) (aI (QD (iI (br TN (au 1) (dC (.int 0)))) (dC (.int 1)) (Jd HL (dC (.int 1)))) bx))))))))
theorem AU(ds:List D)(G:Gp)(Q:DK)(h:kB ds G Q fun _ _=>False):sA (fun _ _=>False) (ends Q) (bG 5 ds) G:=by
 obtain⟨n,c,p,rfl,q⟩:=h;unfold sA;simp only [ends,bG,av,bc,ak,aG,aK,aP,aW,cQ,bK,br,au,af,aa,sG,aI,bx,dC,aM,ay,aq,dN,gB,mH];rw [vn,kR];refine uq (α:=Int) (by decide) ?_;simp only [QD,eC,br,au,dC,uo,cH,af,aa,aQ,if_false];refine uq (α:=Bool) (by decide) ?_;simp only [cH,Jd,qK,dC,aQ,if_false];unfold iC at q;have k:∀ (P1 P2:Bool),(if P1=P2 then (if P2=true then Q (.tup [.int n,.int 0,.int 1]) G else Q (.tup [.int n,.int 0,.int (-1)]) G) else (if P2=true then Q (.tup [.int n,.int 1,.int 1]) G else Q (.tup [.int n,.int 1,.int (-1)]) G)) ->
   (if decide (P1=P2)=true then (if P2=true then 0+1+1+1<=SZ/\ND G (.tup [.int n,.int 0,.int 1]) Q else 0+1+1+1<=SZ/\ND G (.tup [.int n,.int 0,.int (-1)]) Q) else (if P2=true then 0+1+1+1<=SZ/\ND G (.tup [.int n,.int 1,.int 1]) Q else 0+1+1+1<=SZ/\ND G (.tup [.int n,.int 1,.int (-1)]) Q)):=by
  intro P1 P2 h;cases P1 <;> cases P2 <;> exact⟨by decide,sE h⟩
 refine k _ _ ?_;by_cases h1:decide (p=ab c+1)=decide (c > 0) <;> by_cases h2:c > 0
 ·rw [if_pos h1,if_pos (decide_eq_true h2)]; rw [if_pos h1,if_pos h2] at q; exact q
 ·rw [if_pos h1,if_neg (by simp [h2])]; rw [if_pos h1,if_neg h2] at q; exact q
 ·rw [if_neg h1,if_pos (decide_eq_true h2)]; rw [if_neg h1,if_pos h2] at q; exact q
 ·rw [if_neg h1,if_neg (by simp [h2])]; rw [if_neg h1,if_neg h2] at q; exact q
noncomputable def jG:om:=fun ds G Q _=>∃ (cs:List Int) (p:Int),ds=[.dJ (cs.map D.int),.int p]/\cs.length<=1000/\Q (.tup [enc (fT 1 cs p),.int (i8 cs p)]) G
theorem Dt:∀ (xs ys:List Int) (n p:Int),fT n (xs++ys) p=fT n xs p++fT (n+xs.length) ys (i8 xs p)
 | [],ys,n,p=>by simp [fT,i8]
 | c :: xs,ys,n,p=>by
  show _++fT (n+1) (xs++ys) (eO p c)=_;rw [Dt xs ys];show _=(_++fT (n+1) xs (eO p c))++_;rw [cK];have:n+1+(xs.length:Int)=n+((c :: xs).length:Int):=by rw [ak]; lia
  rw [this]; rfl
theorem Kx:∀ (xs ys:List Int) (p:Int),i8 (xs++ys) p=i8 ys (i8 xs p)
 | [],_,_=>rfl
 | c :: xs,ys,p=>Kx xs ys (eO p c)
theorem MM(xs:List Int):iw 1 (xs.map D.int)=(xs.zipIdx 1).map fun p=>D.tup [.int (p.2:Int),.int p.1]:=by
 have:∀ (xs:List Int) (k:Nat),iw k (xs.map D.int)=(xs.zipIdx k).map fun p=>D.tup [.int (p.2:Int),.int p.1]:=by
  intro xs;induction xs with
  | nil=>intro k; rfl
  | cons x xs ih=>intro k; rw [av,DX,av,<-ih]; rfl
 exact this xs 1
theorem RL{xs:List Int}{pre post:List (Int×Nat)}{x:Int×Nat}(h:xs.zipIdx 1=pre++x :: post):x.2=1+pre.length:=by
 have hx:(xs.zipIdx 1)[pre.length]?=some x:=by rw [h]; simp
 rw [RE] at hx;cases q:xs[pre.length]? with
 | none=>rw [q] at hx; cases hx
 | some y=>rw [q] at hx; simp at hx; rw [<-hx]
noncomputable def ui:iO :=
 (cw (bK (ku bx) (aM 2))
 (cw (bK (au 1) (aM 3))
 (cw (gO (Iy (au 0) 1) (uV (iN (aM 4) (iN (aM 5) sX))) (cw (bK (sG cAbs (aI (au 5) bx)) (aM 6))
 (kY (iI (br (HM false) (au 3) (mH (aI (au 6) (aI (br pX (au 6) (dC (.int 1))) bx))))) (cw (fF (tN vN jO (au 2) (aI (cE kB (aI (au 4) (aI (au 5) (aI (au 3) bx)))) bx)))
 (bK (QD (iI (br (GN false) (au 3) (au 6))) (br pX (au 6) (dC (.int 1))) (au 6)) (aM 3))) gx)))
 (dN (gB (mH (aI (au 2) (aI (au 3) bx))))))))
theorem DQ(ds:List D)(G:Gp)(Q:DK)(h:jG ds G Q fun _ _=>False):ui (fun _ _=>False) (ends Q) (bG 7 ds) G:=by
 obtain⟨cs,p0,rfl,hl,q⟩:=h;unfold ui;simp only [ends,bG,av,bc,ak,aG,aK,aP,aW,cQ,bK,ku,bx,aM,ay,aq,au,af,aa];refine⟨by decide,fun a ha=>?_⟩;refine fO (fun τ G'=>(∃ x y z,τ=[some (.dJ (cs.map D.int)),some (.int p0),some (.ref a),some (.int (i8 cs p0)),x,y,z])/\gz G G'/\G' a=some (.lst ((fT 1 cs p0).map enc))) ?_ ?_
 ·intro N hN;simp only [gO,Iy,au,aa,qP];rw [MM];refine gh (xs:=cs.zipIdx 1) (fun pre τ G'=>(∃ x y z,τ=[some (.dJ (cs.map D.int)),some (.int p0),some (.ref a),some (.int (i8 (pre.map (·.1)) p0)),x,y,z])/\gz G G'/\G' a=some (.lst ((fT 1 (pre.map (·.1)) p0).map enc))) ⟨⟨_,_,_,rfl⟩,.new ha,aH⟩ (fun _ _ _ _=>trivial) ?_ ?_
  ·rintro pre ⟨c,i⟩ post τ G' N2 e ⟨⟨x,y,z,rfl⟩,l,ga⟩ lQ;have ei:=RL e;simp only [uV,iN,aM,sX,ay,aq,cQ,bK,sG,aI,au,af,aa,bx];have ei:i=1+pre.length:=ei;have e0:(pre++[(c,i)]).map (·.1)=pre.map (·.1)++[c]:=by simp
   rw [e0] at lQ;have e1:i8 (pre.map (·.1)++[c]) p0=eO (i8 (pre.map (·.1)) p0) c:=by rw [Kx]; rfl
   have e2:fT 1 (pre.map (·.1)++[c]) p0=fT 1 (pre.map (·.1)) p0++(if i8 (pre.map (·.1)) p0=ab c\/i8 (pre.map (·.1)) p0=ab c+1 then [iC (i:Int) c (i8 (pre.map (·.1)) p0)] else []):=by
    rw [Dt,ag,ei];simp [fT]
   rw [e1,e2] at lQ;have hlen:(fT 1 (pre.map (·.1)) p0).length<=1000:=by
    have h1:=xU (pre.map (·.1)) 1 p0;have h2:=congrArg cV e;simp at h1 h2;lia
   generalize i8 (pre.map (·.1)) p0=u at *;generalize fT 1 (pre.map (·.1)) p0=ps at *;rw [vn];simp only [kY,qx,fF,tN,au,af,aa,nj,aI,cE,bx,bK,aM,ay,aq,jw,gx,eC,br,mH,dC,ak,aG,kR];refine⟨by decide,Sa (α:=Int) (xs:=[ab c,ab c+1]) (by decide) ?_⟩;rw [cH,if_neg eT];by_cases hm:u=ab c\/u=ab c+1
   ·rw [if_pos (decide_eq_true (by simpa using hm))];simp only [ga];refine⟨trivial,i,c,u,rfl,?_⟩;simp only [ga];refine⟨by rw [ag]; exact pZ hlen (by decide),?_⟩;simp only [QD,eC,br,au,dC,af,aa];refine uq (α:=Int) (by decide) ?_;rw [cH,if_neg eT];have gq:c6 G' a (.lst (ps.map enc++[enc (iC (i:Int) c u)])) a=some (.lst ((ps++if u=ab c\/u=ab c+1 then [iC (i:Int) c u] else []).map enc)):=by
     rw [aH,if_pos hm,aA]; rfl
    by_cases h1:u=ab c
    ·rw [if_pos (decide_eq_true h1),kR];exact lQ _ _ ⟨⟨_,_,_,by unfold eO; rw [if_pos h1]⟩,l.put ha,gq⟩
    ·rw [if_neg (by simp [h1])];exact lQ _ _ ⟨⟨_,_,_,by unfold eO; rw [if_neg h1,if_pos (hm.resolve_left h1)]⟩,l.put ha,gq⟩
   ·rw [if_neg (by simpa using hm)];have es:eO u c=u:=by unfold eO; rw [if_neg (fun z=>hm (.inl z)),if_neg (fun z=>hm (.inr z))]
    rw [es] at lQ;exact lQ _ _ ⟨⟨_,_,_,rfl⟩,l,by rw [if_neg hm,bU]; exact ga⟩
  ·rintro τ G' ⟨⟨x,y,z,rfl⟩,l,ga⟩;rw [ka] at ga;exact hN _ _ ⟨⟨_,_,_,by rw [ka]⟩,l,ga⟩
 ·rintro _ G' ⟨⟨x,y,z,rfl⟩,l,ga⟩;simp only [dN,gB,mH,aI,au,af,aa,bx,ak,aG];refine⟨by decide,?_⟩;refine P4 (t:=.tup [enc (fT 1 cs p0),.int (i8 cs p0)]) l ?_ q;exact .tup (.cons (.ref ga (by rw [ha]; rfl) (DS.same _)) (.cons (.same _) .nil))
end pR
end K2
end
section
namespace K2
open PySem (Str)
open Enc (enc)
namespace pR
open K2.P
theorem J7{α:Type} [DecidableEq α] [Enc α]{neg:Bool}{x:α}{xs:List α}{a:Nat}{G:Gp}{Q:DK}(hd:Enc.dep α<=7)(h:G a=some (.lst (xs.map enc)))(q:Q (.bl (if neg then !decide (x∈xs) else decide (x∈xs))) G):HM neg (enc x) (.ref a) G Q:=by
 unfold HM;simp only [h];refine⟨_,_,Enc.sn G 8 x (by lia),sM G 7 hd xs,?_⟩;rw [Lj]; exact q
noncomputable def Ok(n:Int)(cs:List Int):Prop:=n<=3/\cs.length<=40/\∀ c∈cs,1<=ab c/\ab c < n
noncomputable def ik:om:=fun ds G Q _=>∃ (n:Int) (cs:List Int) (t:Int),ds=[.dJ (cs.map D.int),.int t]/\(Ok n cs/\1<=t/\t<=n)/\Q (.tup [enc (yy (i8 cs) (fT 1 cs) 4 t [] []).1,enc (yy (i8 cs) (fT 1 cs) 4 t [] []).2]) G
noncomputable def qE:iO :=
 (cw (bK (ku bx) (aM 2))
 (cw (bK (ku bx) (aM 3))
 (cw (bK (au 1) (aM 4))
 (cw (QB (iI (br (HM true) (au 4) (au 3))) (cw (fF (tN vN jO (au 3) (aI (au 4) bx)))
 (cw (bK (cE jG (aI (au 0) (aI (au 4) bx))) (aM 5))
 (cw (fF (tN vN lP (au 2) (aI (br j6 (au 5) (dC (.int 0))) bx)))
 (bK (br j6 (au 5) (dC (.int 1))) (aM 4))))))
 (dN (gB (mH (aI (au 2) (aI (au 3) bx)))))))))
theorem zQ(ds:List D)(G:Gp)(Q:DK)(h:ik ds G Q fun _ _=>False):qE (fun _ _=>False) (ends Q) (bG 6 ds) G:=by
 obtain⟨n,cs,t,rfl,⟨⟨hn,hl,hc⟩,t1,t2⟩,q⟩:=h;unfold qE;simp only [ends,bG,av,bc,ak,aG,aK,aP,aW,cQ,bK,ku,bx,aM,ay,aq,au,af,aa];refine⟨by decide,fun a ha=>⟨by decide,fun b hb=>?_⟩⟩;have IE:a≠b:=fun z=>by rw [<-z,aH] at hb; cases hb
 have ZP:G b=none:=by rw [dh (cW IE)] at hb; exact hb
 generalize hR:yy (i8 cs) (fT 1 cs) 4 t [] []=R at q;refine fO (fun τ G'=>(∃ u x,τ=[some (.dJ (cs.map D.int)),some (.int t),some (.ref a),some (.ref b),u,x])/\gz G G'/\G' a=some (.lst (R.1.map enc))/\G' b=some (.lst (R.2.map enc))) ?_ ?_
 ·intro N hN;have main:∀ (k:Nat) (u:Int) (fk:List Int) (ps:List T3) (G':Gp) (x:Option D),4<=fk.length+k->fk.Nodup->(∀ y∈fk,1<=y/\y<=n)->1<=u/\u<=n->ps.length<=fk.length * 40->yy (i8 cs) (fT 1 cs) k u fk ps=R ->
    gz G G'->G' a=some (.lst (ps.map enc))->G' b=some (.lst (fk.map enc)) ->
    Hk (iI (br (HM true) (au 4) (au 3))) (cw (fF (tN vN jO (au 3) (aI (au 4) bx)))
     (cw (bK (cE jG (aI (au 0) (aI (au 4) bx))) (aM 5))
     (cw (fF (tN vN lP (au 2) (aI (br j6 (au 5) (dC (.int 0))) bx)))
     (bK (br j6 (au 5) (dC (.int 1))) (aM 4))))) k (fun _ _=>False) { ends Q with nx:=N } [some (.dJ (cs.map D.int)),some (.int t),some (.ref a),some (.ref b),some (.int u),x] G':=by
   intro k;induction k with
   | zero =>
    intro u fk ps G' x h1 h2 h3;have:=O6 h2 fun y hy=>⟨(h3 y hy).1,by have:=(h3 y hy).2; lia⟩;lia
   | succ k ih =>
    intro u fk ps G' x h1 h2 h3 h4 h5 h6 l ga gb;have hl3:=O6 h2 fun y hy=>⟨(h3 y hy).1,by have:=(h3 y hy).2; lia⟩;rw [Hk];simp only [eC,br,au,af,aa];refine J7 (x:=u) (xs:=fk) (by decide) gb ?_;rw [cH,if_pos rfl];rw [yy] at h6;by_cases hm:u∈fk
    ·rw [if_pos hm] at h6;subst h6;rw [if_neg (by simp [hm])];exact hN _ _ ⟨⟨_,_,rfl⟩,l,ga,gb⟩
    ·rw [if_neg hm] at h6;rw [if_pos (by simp [hm])];have hlen:=xU cs 1 u;have ZC:=ih (i8 cs u) (fk++[u]) (ps++fT 1 cs u) (c6 (c6 G' b (.lst (fk.map enc++[.int u]))) a (.lst (ps.map enc++(fT 1 cs u).map enc))) (some (.tup [enc (fT 1 cs u),.int (i8 cs u)]))
      (by rw [aw]; simp; lia) (List.nodup_append.mpr ⟨h2,by simp,fun y hy z hz=>by rw [List.mem_singleton.mp hz]; exact fun e=>hm (e ▸ hy)⟩)
      (fun y hy=>(List.mem_append.mp hy).elim (h3 y) fun hy=>by rw [List.mem_singleton.mp hy]; exact h4) (y7 cs hc h4)
      (by rw [aw,aw]; simp; lia) h6 ((l.put ZP).put ha)
      (by rw [aH,aA]) (by rw [dh (cW IE),aH,aA]; rfl)
     generalize Hk _ _ k=W at ZC ⊢;have ga2:c6 G' b (.lst (fk.map enc++[.int u])) a=some (.lst (ps.map enc)):=by rw [dh IE]; exact ga
     simp only [cw,fF,tN,au,af,aa,nj,gb,aI,bx,bK,cE,aM,ay,aq,br,dC,ends,kS,jw,true_and];refine⟨Hw (by simp only [ag]; lia),cs,u,rfl,by lia,?_⟩;simp only [ga2,i6,true_and];rw [show pJ [enc (fT 1 cs u),D.int (i8 cs u)] 0=some (enc (fT 1 cs u)) from rfl,show pJ [enc (fT 1 cs u),D.int (i8 cs u)] 1=some (D.int (i8 cs u)) from rfl];simp only [mF (IsL.enc _)];exact⟨Cu (by simp only [ag]; lia),ZC⟩
  have:=main 4 t [] [] (c6 (c6 G a (.lst [])) b (.lst [])) none (by simp) (by simp) (by simp) ⟨t1,t2⟩ (by simp) hR ((gz.new ha).trans (.new hb)) (by rw [dh IE,aH]; rfl) (by rw [aH]; rfl);exact⟨4,this⟩
 ·rintro _ G' ⟨⟨u,x,rfl⟩,l,ga,gb⟩;simp only [dN,gB,mH,aI,au,af,aa,bx,ak,aG];refine⟨by decide,?_⟩;refine P4 (t:=.tup [enc R.1,enc R.2]) l ?_ q;exact .tup (.cons (.ref ga (by rw [ha]; rfl) (DS.same _)) (.cons (.ref gb (by rw [ZP]; rfl) (DS.same _)) .nil))
end pR
end K2
end
section
namespace K2
open PySem (Str)
open Enc (enc)
namespace pR
open K2.P
noncomputable def Good(n:Int)(cs:List Int):Prop:=(1<=n/\n<=3)/\cs.length<=12/\∀ c∈cs,1<=ab c/\ab c < n
noncomputable instance (n:Int) (cs:List Int):Decidable (Good n cs):=by unfold Good; exact inferInstance
noncomputable def gH:om:=fun ds G Q _=>∃ (cs:List Int) (n:Int),ds=[.dJ (cs.map D.int),.int n]/\Good n cs/\Q .cL G
theorem Wf{ta tb tc:fC}{E:lb}{τ:gS}{G:Gp}{x y z:Int}{Q:Bool->Gp->Prop}(ha:∀ Q,ta E τ G Q=Q (.int x) G)(hb:∀ Q,tb E τ G Q=Q (.int y) G)(hc:∀ Q,tc E τ G Q=Q (.int z) G)(q:Q (decide (x<=y)&&decide (y<=z)) G):pz TM TM ta tb tc E τ G Q:=by
 unfold pz;rw [ha,hb,xI];refine⟨_,rfl,?_⟩;by_cases h:x<=y
 ·rw [if_pos (decide_eq_true h),hc,xI];rw [decide_eq_true h,Ad] at q;exact⟨_,rfl,q⟩
 ·rw [if_neg (by simp [h])];rw [decide_eq_false h,p8] at q;exact q
theorem We{ta tb tc:fC}{E:lb}{τ:gS}{G:Gp}{x y z:Int}{Q:Bool->Gp->Prop}(ha:∀ Q,ta E τ G Q=Q (.int x) G)(hb:∀ Q,tb E τ G Q=Q (.int y) G)(hc:∀ Q,tc E τ G Q=Q (.int z) G)(q:Q (decide (x<=y)&&decide (y < z)) G):pz TM Xs ta tb tc E τ G Q:=by
 unfold pz;rw [ha,hb,xI];refine⟨_,rfl,?_⟩;by_cases h:x<=y
 ·rw [if_pos (decide_eq_true h),hc,CL];rw [decide_eq_true h,Ad] at q;exact⟨_,rfl,q⟩
 ·rw [if_neg (by simp [h])];rw [decide_eq_false h,p8] at q;exact q
noncomputable def mw:iO :=
 (cw (kY (AO (pz TM TM (dC (.int 1)) (au 1) (dC (.int 3)))) zF gx)
 (cw (kY (iI (br TN (sG xx (aI (au 0) bx)) (dC (.int 12)))) zF gx)
 (gO (nY (au 0)) (aM 2) (kY (AO (pz TM Xs (dC (.int 1)) (sG cAbs (aI (au 2) bx)) (au 1))) zF gx))))
theorem tG(ds:List D)(G:Gp)(Q:DK)(h:gH ds G Q fun _ _=>False):mw (fun _ _=>False) (ends Q) (bG 3 ds) G:=by
 obtain⟨cs,n,rfl,⟨hn,hk,hc⟩,q⟩:=h;unfold mw;refine fO (fun τ G'=>G=G'/\τ=[some (.dJ (cs.map D.int)),some (.int n),none]) ?_ ?_
 ·intro N hN;unfold kY AO;refine Wf (fun _=>rfl) (fun _=>rfl) (fun _=>rfl) ?_;have e:(!(decide (1<=n)&&decide (n<=3)))=false:=by simp [hn.1,hn.2]
  rw [e];exact hN _ _ ⟨rfl,rfl⟩
 ·rintro _ _ ⟨rfl,rfl⟩;refine fO (fun τ G'=>G=G'/\τ=[some (.dJ (cs.map D.int)),some (.int n),none]) ?_ ?_
  ·intro N hN;simp only [kY,ends,gx,eC,br,sG,aI,au,aa,bx,dC,zK,uo,cH];rw [if_neg (by simp; lia)];exact hN _ _ ⟨rfl,rfl⟩
  ·rintro _ _ ⟨rfl,rfl⟩;simp only [gO,ends,fA,au,aa,uO];refine gh (xs:=cs) (fun pre τ G'=>G=G'/\∃ x,τ=[some (.dJ (cs.map D.int)),some (.int n),x]) ⟨rfl,_,rfl⟩ (fun _ _ _ _=>trivial) ?_ ?_
   ·rintro pre c post τ G' N2 e ⟨rfl,x,rfl⟩ lQ;simp only [aM,ay,aq];unfold kY AO;refine We (x:=1) (y:=ab c) (z:=n) (fun _=>rfl) (fun _=>rfl) (fun _=>rfl) ?_;have h:=hc c (by rw [e]; simp);have e:(!(decide (1<=ab c)&&decide (ab c < n)))=false:=by simp [h.1,h.2]
    rw [e];exact lQ _ _ ⟨rfl,_,rfl⟩
   ·rintro τ G' ⟨rfl,x,rfl⟩;exact q
end pR
end K2
end
section
namespace K2
open PySem (Str)
open Enc (enc)
namespace pR
open K2.P
noncomputable def qO:List T3->T3
 | []=>⟨0,0,0⟩
 | a :: r=>r.foldl (fun m x=>if bY.lt x m=true then x else m) a
theorem E4{r:List T3}(h:r≠[]):qO r∈r:=by
 cases r with
 | nil=>exact absurd rfl h
 | cons a r=>exact(kq r a).1
theorem SE{r:List T3}{y:T3}(hy:y∈r):Ag (qO r) y=true:=by
 cases r with
 | nil=>cases hy
 | cons a r=>exact(kq r a).2 y hy
noncomputable def kb(r:List T3):List T3:=r.drop (r.idxOf (qO r))++r.take (r.idxOf (qO r))
theorem QI{x:D}{G:Gp}{r:List T3}{Q:DK}(hi:itemsOf x G=some (r.map enc))(j8:r≠[])(q:Q (enc (qO r)) G):QJ [x] G Q :=
 DT.mn hi j8 fun m hm hl=>by
  have:m=qO r:=E7 _ _ (hl _ (E4 j8)) (SE hm);rw [this]; exact q
theorem Ih{x:D}{G:Gp}{r:List T3}{Q:DK}(ht:vN x G)(hi:itemsOf x G=some (r.map enc))(j8:r≠[])(q:Q (.int ((r.idxOf (qO r):Nat):Int)) G):qN x [enc (qO r)] G Q:=by
 refine⟨ht,r.map enc,enc (qO r),r.map enc,hi,Enc.sn G 8 _ (by decide),sM G 7 (by decide) r,?_⟩;have e:(r.map enc).findIdx? (ic · (enc (qO r)))=some (r.idxOf (qO r)):=by
  have hf:(fun y:T3=>ic (enc y) (enc (qO r)))=fun y=>y == qO r:=by
   funext y;rw [Enc.eqv];by_cases h:y=qO r <;> simp [h]
  rw [List.findIdx?_map];show List.findIdx? (fun y=>ic (enc y) (enc (qO r))) r=_;rw [hf];have hm:=E4 j8;rw [List.idxOf];rw [List.findIdx?_eq_some_iff_findIdx_eq];exact⟨List.findIdx_lt_length.mpr ⟨_,hm,by simp⟩,rfl⟩
 rw [e]; exact q
noncomputable def rn:om:=fun ds G Q _=>∃ r:List T3,ds=[enc r]/\r.length<=1000/\Q (enc (kb r)) G
noncomputable def Bo:iO :=
 (cw (kY (AO (iI (au 0))) (dN (gB (ku bx))) gx)
 (cw (bK (tN vN qN (au 0) (aI (sG QJ (aI (au 0) bx)) bx)) (aM 1))
 (dN (gB (br pX (Je (au 0) (qW (au 1)) iJ) (Je (au 0) iJ (qW (au 1))))))))
theorem M5(ds:List D)(G:Gp)(Q:DK)(h:rn ds G Q fun _ _=>False):Bo (fun _ _=>False) (ends Q) (bG 2 ds) G:=by
 obtain⟨r,rfl,hl,q⟩:=h;unfold Bo;refine fO (fun τ G'=>G=G'/\r≠[]/\τ=[some (enc r),none]) ?_ ?_
 ·intro N hN;simp only [kY,AO,bG,av,bc,ak,aG,aK,aP,aW,dN,gB,ku,bx,ends,gx,eC,au,aa];cases r with
  | nil=>exact⟨by decide,fun p hp=>jo (xs:=([]:List T3)) (.new hp) hp aH q⟩
  | cons a t=>exact hN _ _ ⟨rfl,by simp,rfl⟩
 ·rintro _ _ ⟨rfl,j8,rfl⟩;simp only [ends,cQ,bK,tN,au,aa,aI,sG,bx,aM,dN,gB,br,Je,ay,aq,iJ,oI,af];refine⟨trivial,QI rfl j8 (Ih trivial rfl j8 ?_)⟩;generalize hk:r.idxOf (qO r)=k;have hkl:k<=r.length:=by rw [<-hk]; exact List.idxOf_le_length
  rw [show (enc r:D)=.dJ (r.map enc) from rfl];simp only [HS,CK];rw [pA,Ga r k hkl];intro p hp;rw [pA,QE r k hkl];intro p2 Rk;have abY:p≠p2:=fun z=>by rw [<-z,aH] at Rk; cases Rk
  have g1:c6 (c6 G p (.lst ((r.drop k).map enc))) p2 (.lst ((r.take k).map enc)) p=some (.lst ((r.drop k).map enc)):=by rw [dh abY,aH]
  have gl:gz G (c6 (c6 G p (.lst ((r.drop k).map enc))) p2 (.lst ((r.take k).map enc))):=(gz.new hp).trans (.new Rk);show DL _ _ _ _;unfold DL;rw [mF (IsL.ref (ds:=(r.drop k).map enc) g1),mF (IsL.ref (ds:=(r.take k).map enc) aH)];refine⟨Cu (by simp; lia),fun p3 hp3=>?_⟩;refine jo (xs:=kb r) (gl.trans (.new hp3)) (gl.free hp3) ?_ q;rw [aH];unfold kb;rw [hk,aA]
noncomputable def ip:om:=fun ds G Q _=>∃ (d:D) (rows:List (List T3)),ds=[d]/\IsL G d (rows.map enc)/\(rows.length<=1000/\∀ r∈rows,r.length<=1000)/\Q (enc (rows.map kb)) G
noncomputable def qF:iO :=
 (dN (gB (fm 1 [] (nY (au 0)) (aM 0) none (cE rn (aI (au 0) bx)))))
theorem zR(ds:List D)(G:Gp)(Q:DK)(h:ip ds G Q fun _ _=>False):qF (fun _ _=>False) (ends Q) (bG 1 ds) G:=by
 obtain⟨d,rows,rfl,hd,⟨hl,hr⟩,q⟩:=h;unfold qF;simp only [dN,gB,fm,bG,av,bc,ak,aG,aP,aW,ends,fA,au,aa];refine PJ hd fun ok cz=>⟨Cu (by rw [ag]; exact hl),?_⟩;refine iy (xs:=rows) (fun pre acc τ G'=>G=G'/\acc=(pre.map kb).map enc/\∃ x,τ=[x]) ⟨rfl,rfl,_,rfl⟩ (fun _ _ _ _ h=>by rw [<-h.1]; exact cz _ (.refl _)) ?_ ?_
 ·rintro pre r post acc τ G' N e ⟨rfl,rfl,x,rfl⟩ hN;simp only [aM,cE,aI,au,aq,aa,bx];refine⟨r,rfl,hr r (by rw [e]; simp),hN _ _ _ ⟨rfl,by simp,_,rfl⟩⟩
 ·rintro acc τ G' ⟨rfl,rfl,x,rfl⟩ p hp;exact jo (xs:=rows.map kb) (.new hp) hp aH q
end pR
end K2
end
section
namespace K2
open PySem (Str)
open Enc (enc)
namespace pR
open K2.P
section
variable {α:Type} {f:Int->Int} {r:Int->List α}
noncomputable def cst(f:Int->Int)(r:Int->List α)(s:List (List α)×List Int)(t:Int):List (List α)×List Int :=
 if t∈s.2 then s else (s.1++[(yy f r 4 t [] []).1],s.2++(yy f r 4 t [] []).2)
theorem zI:∀ (ts:List Int) (rows:List (List α)) (met:List Int),cls f r ts rows met=(ts.foldl (cst f r) (rows,met)).1
 | [],_,_=>rfl
 | t :: ts,rows,met=>by
  rw [cls,bT];unfold cst;by_cases h:t∈met
  ·rw [if_pos h,if_pos h]; exact zI ts rows met
  ·rw [if_neg h,if_neg h]; exact zI ts _ _
theorem CG{b:Nat}(hr:∀ p,(r p).length<=b):∀ (k:Nat) (p:Int) (fk:List Int) (ps:List α),(yy f r k p fk ps).1.length<=ps.length+k * b/\(yy f r k p fk ps).2.length<=fk.length+k
 | 0,_,_,_=>by simp [yy]
 | k+1,p,fk,ps=>by
  rw [yy];split
  ·exact⟨eX _ _,eX _ _⟩
  ·obtain⟨h1,h2⟩:=CG hr k (f p) (fk++[p]) (ps++r p);have:=hr p;rw [aw] at h1 h2;rw [Nat.succ_mul];simp at h2;lia
theorem La{b:Nat}(hr:∀ p,(r p).length<=b):∀ (ts:List Int),(ts.foldl (cst f r) ([],[])).1.length<=ts.length/\(ts.foldl (cst f r) ([],[])).2.length<=ts.length * 4/\∀ row∈(ts.foldl (cst f r) ([],[])).1,row.length<=4 * b:=by
 intro ts;have main:∀ (ts:List Int) (s:List (List α)×List Int),(∀ row∈s.1,row.length<=4 * b)->(ts.foldl (cst f r) s).1.length<=s.1.length+ts.length/\(ts.foldl (cst f r) s).2.length<=s.2.length+ts.length * 4/\∀ row∈(ts.foldl (cst f r) s).1,row.length<=4 * b:=by
  intro ts;induction ts with
  | nil=>intro s h; simpa using h
  | cons t ts ih =>
   intro s h;rw [bT];obtain⟨l1,l2⟩:=CG (f:=f) hr 4 t [] [];have hs:∀ row∈(cst f r s t).1,row.length<=4 * b:=by
    unfold cst;split
    ·exact h
    ·intro row hm;rcases List.mem_append.mp hm with hm | hm
     ·exact h row hm
     ·rw [List.mem_singleton.mp hm]; simpa using l1
   obtain⟨h1,h2,h3⟩:=ih (cst f r s t) hs;have a1:(cst f r s t).1.length<=s.1.length+1/\(cst f r s t).2.length<=s.2.length+4:=by
    unfold cst;split
    ·lia
    ·simp; simpa using l2
   refine⟨?_,?_,h3⟩ <;> simp only [ak] <;> lia
 simpa using main ts ([],[]) (by simp)
end
noncomputable def fk(n:Int):List Int:=(aU n.toNat).map fun (i:Nat)=>1+(i:Int)
noncomputable def lJ(n:Int)(cs:List Int):List (List T3):=(cls (i8 cs) (fT 1 cs) (fk n) [] []).map kb
noncomputable def lW:om:=fun ds G Q _=>∃ (cs:List Int) (n:Int),ds=[.dJ (cs.map D.int),.int n]/\Good n cs/\Q (enc (lJ n cs)) G
theorem ON{x y:D}{G:Gp}{Q:DK}:j6 (.tup [x,y]) (.int 0) G Q=Q x G:=rfl
theorem OM{x y:D}{G:Gp}{Q:DK}:j6 (.tup [x,y]) (.int 1) G Q=Q y G:=rfl
theorem QG{E:lb}{K:mL}{cs:List Int}{n:Int}{a b:Nat}{G:Gp}(g:Good n cs)(ha:G a=none)(hb:c6 G a (GO.lst []) b=none)(q:K.rt (enc (lJ n cs)) G) :
  cw
  (gO (KJ (dC (D.int 1)) (br pX (au 1) (dC (D.int 1)))) (aM 4)
   (kY (iI (br (HM true) (au 4) (au 3)))
    (cw (bK (cE ik (aI (au 0) (aI (au 4) bx))) (aM 5))
     (cw (fF (tN vN jO (au 2) (aI (br j6 (au 5) (dC (D.int 0))) bx)))
      (fF (tN vN lP (au 3) (aI (br j6 (au 5) (dC (D.int 1))) bx)))))
    gx))
  (dN (gB (cE ip (aI (au 2) bx)))) E K
  [some (D.dJ (List.map D.int cs)),some (D.int n),some (D.ref a),some (D.ref b),none,none]
  (c6 (c6 G a (GO.lst [])) b (GO.lst [])):=by
 obtain⟨⟨n1,n2⟩,hl,hc⟩:=id g;have IE:a≠b:=fun z=>by rw [<-z,aH] at hb; cases hb
 have ZP:G b=none:=by rw [dh (cW IE)] at hb; exact hb
 have hdw:∀ p,(fT 1 cs p).length<=12:=fun p=>cC (xU cs 1 p) hl;refine fO (fun τ G'=>(∃ x y,τ=[some (D.dJ (List.map D.int cs)),some (D.int n),some (D.ref a),some (D.ref b),x,y])/\gz G G'/\G' a=some (.lst (((fk n).foldl (cst (i8 cs) (fT 1 cs)) ([],[])).1.map enc))) ?_ ?_
 ·intro N hN;simp only [gO,KJ,dC,br,au,af,aa,kR];refine⟨by lia,?_⟩;unfold dQ;rw [show (n+1 - 1).toNat=n.toNat by congr 1; lia];refine gh (xs:=aU n.toNat) (fun pre τ G'=>(∃ x y,τ=[some (D.dJ (List.map D.int cs)),some (D.int n),some (D.ref a),some (D.ref b),x,y])/\gz G G'/\G' a=some (.lst (((pre.map fun (i:Nat)=>1+(i:Int)).foldl (cst (i8 cs) (fT 1 cs)) ([],[])).1.map enc))/\G' b=some (.lst (((pre.map fun (i:Nat)=>1+(i:Int)).foldl (cst (i8 cs) (fT 1 cs)) ([],[])).2.map enc)))
   ⟨⟨_,_,rfl⟩,(gz.new ha).trans (.new hb),by rw [dh IE,aH]; rfl,by rw [aH]; rfl⟩ (fun _ _ _ _=>trivial) ?_ ?_
  ·rintro pre i post τ G' N2 e ⟨⟨x,y,rfl⟩,l,ga,gb⟩ lQ;have hi:(i:Int) < n:=by
    have:i∈aU n.toNat:=by rw [e]; simp
    have:=List.mem_range.mp this;lia
   have BH:pre.length<=3:=by
    have:=congrArg cV e;simp at this;lia
   rw [aA,e9] at lQ;obtain⟨c1,c2,_⟩:=La (f:=i8 cs) hdw (pre.map fun (i:Nat)=>1+(i:Int));rw [ag] at c1 c2;generalize (pre.map fun (i:Nat)=>1+(i:Int)).foldl (cst (i8 cs) (fT 1 cs)) ([],[])=st at *;obtain⟨rs,mt⟩:=st;dsimp only at ga gb c1 c2;simp only [aM,kY,ay,aq,cQ,bK,cE,aI,au,aa,af,bx,qx,fF,tN,nj,br,dC,kS,jw,gx,eC];refine J7 (x:=(1+(i:Int))) (xs:=mt) (by decide) gb ?_;rw [cH,if_pos rfl];simp only [av,bc,bT,md] at lQ;unfold cst at lQ;by_cases hm:(1+(i:Int))∈mt
   ·rw [if_neg (by simp [hm])];rw [if_pos hm] at lQ;exact lQ _ _ ⟨⟨_,_,rfl⟩,l,ga,gb⟩
   ·rw [if_pos (by simp [hm])];rw [if_neg hm] at lQ;obtain⟨l1,l2⟩:=CG (f:=i8 cs) hdw 4 (1+(i:Int)) [] [];refine⟨n,cs,1+(i:Int),rfl,⟨⟨n2,by lia,hc⟩,by lia,by lia⟩,?_⟩;generalize yy (i8 cs) (fT 1 cs) 4 (1+(i:Int)) [] []=R at *;have gb2:c6 G' a (.lst (rs.map enc++[enc R.1])) b=some (.lst (mt.map enc)):=by rw [dh (cW IE)]; exact gb
    simp only [ga];refine⟨trivial,?_⟩;rw [ON];simp only [ga,gb2];refine⟨Hw (by rw [ag]; lia),trivial,?_⟩;rw [OM];simp only [gb2,mF (IsL.enc _)];simp only [aG] at l2;refine⟨Cu (by simp only [ag]; lia),lQ _ _ ⟨⟨_,_,rfl⟩,(l.put ha).put ZP,?_,?_⟩⟩
    ·rw [dh IE,aH,aA]; rfl
    ·rw [aH,aA]
  ·rintro τ G' ⟨⟨x,y,rfl⟩,l,ga,gb⟩;exact hN _ _ ⟨⟨_,_,rfl⟩,l,ga⟩
 ·rintro _ G' ⟨⟨x,y,rfl⟩,l,ga⟩;simp only [dN,gB,cE,aI,au,af,aa,bx];obtain⟨c1,c2,c3⟩:=La (f:=i8 cs) hdw (fk n);have ht:(fk n).length<=3:=by unfold fk; simp; lia
  refine⟨.ref a,_,rfl,IsL.ref ga,⟨by lia,fun r hr=>by have:=c3 r hr; lia⟩,?_⟩;refine Df l ?_;unfold lJ at q;rw [zI] at q;exact q
noncomputable def Bq:iO :=
 (cw (fF (cE gH (aI (au 0) (aI (au 1) bx))))
 (cw (bK (ku bx) (aM 2))
 (cw (bK (ku bx) (aM 3))
 (cw (gO (KJ (dC (.int 1)) (br pX (au 1) (dC (.int 1)))) (aM 4) (kY (iI (br (HM true) (au 4) (au 3))) (cw (bK (cE ik (aI (au 0) (aI (au 4) bx))) (aM 5))
 (cw (fF (tN vN jO (au 2) (aI (br j6 (au 5) (dC (.int 0))) bx)))
 (fF (tN vN lP (au 3) (aI (br j6 (au 5) (dC (.int 1))) bx))))) gx))
 (dN (gB (cE ip (aI (au 2) bx))))))))
theorem M7(ds:List D)(G:Gp)(Q:DK)(h:lW ds G Q fun _ _=>False):Bq (fun _ _=>False) (ends Q) (bG 6 ds) G:=by
 obtain⟨cs,n,rfl,g,q⟩:=h;obtain⟨⟨n1,n2⟩,hl,hc⟩:=id g;unfold Bq;simp only [ends,bG,av,bc,ak,aG,aK,aP,aW,qx,fF,cE,aI,au,aa,af,bx,cQ,bK,ku,aM,ay,aq];refine⟨cs,n,rfl,g,⟨by decide,fun a ha=>⟨by decide,fun b hb=>?_⟩⟩⟩;exact QG g ha hb q
end pR
end K2
end
section
namespace K2
open PySem (Str)
open Enc (enc)
namespace pR
open K2.P
noncomputable def GP(n c:Int):Int:=(1+c / 2 % (n - 1)) * (1 - 2 * (c % 2))
noncomputable def Ii(n:Int)(ns:List Int):List Int:=if n > 1 then ns.map (GP n) else []
noncomputable def gm:om:=fun ds G Q _=>∃ (d:D) (ns:List Int) (n:Int),ds=[d,.int n]/\IsL G d (ns.map D.int)/\(ns.length<=1000/\n<=1000)/\∀ p,G p=none->Q (.ref p) (c6 G p (.lst ((Ii n ns).map D.int)))
noncomputable def qH:iO :=
 (cw (bK (ku bx) (aM 2))
 (cw (gO (nY (au 0)) (aM 3) (kY (iI (br TN (au 1) (dC (.int 1)))) (fF (tN vN jO (au 2) (aI (br v3 (br pX (dC (.int 1)) (br sO (br EF (au 3) (dC (.int 2))) (br uk (au 1) (dC (.int 1))))) (br uk (dC (.int 1)) (br v3 (dC (.int 2)) (br sO (au 3) (dC (.int 2)))))) bx))) gx))
 (dN (gB (au 2)))))
theorem zT(ds:List D)(G:Gp)(Q:DK)(h:gm ds G Q fun _ _=>False):qH (fun _ _=>False) (ends Q) (bG 4 ds) G:=by
 obtain⟨d,ns,n,rfl,hd,⟨hl,hn⟩,q⟩:=h;unfold qH;simp only [ends,bG,av,bc,ak,aG,aK,aP,aW,cQ,bK,ku,bx,aM,ay,aq];refine⟨by decide,fun a ha=>?_⟩;have hd2:IsL (c6 G a (.lst [])) d (ns.map D.int):=hd.mono (.new ha);refine fO (fun τ G'=>(∃ x,τ=[some d,some (.int n),some (.ref a),x])/\gz G G'/\G' a=some (.lst ((Ii n ns).map D.int))) ?_ ?_
 ·intro N hN;simp only [gO,fA,au,aa];have key:∀ ok:Gp->Prop,(∀ G',gz G G'->ok G')->qU (aM 3) (kY (iI (br TN (au 1) (dC (.int 1)))) (fF (tN vN jO (au 2) (aI (br v3 (br pX (dC (.int 1)) (br sO (br EF (au 3) (dC (.int 2))) (br uk (au 1) (dC (.int 1))))) (br uk (dC (.int 1)) (br v3 (dC (.int 2)) (br sO (au 3) (dC (.int 2)))))) bx))) gx) ok (ns.map D.int) (fun _ _=>False) { ends Q with nx:=N } [some d,some (.int n),some (.ref a),none] (c6 G a (.lst [])):=by
   intro ok cz;refine gh (xs:=ns) (fun pre τ G'=>(∃ x,τ=[some d,some (.int n),some (.ref a),x])/\gz G G'/\G' a=some (.lst ((Ii n pre).map D.int))) ⟨⟨_,rfl⟩,.new ha,by rw [aH]; unfold Ii; split <;> rfl⟩ (fun _ _ _ h=>cz _ h.2.1) ?_ ?_
   ·rintro pre c post τ G' N2 e ⟨⟨x,rfl⟩,l,ga⟩ lQ;have BH:pre.length<=1000:=by
     have:=congrArg cV e;simp at this;lia
    simp only [aM,kY,ay,aq,fF,tN,au,af,aa,nj,aI,br,dC,bx,jw,i5,kQ,kP,v5,kR,gx,eC,uo,cH];by_cases h:n > 1
    ·rw [if_pos (decide_eq_true h)];have el:Ii n (pre++[c])=Ii n pre++[GP n c]:=by unfold Ii; rw [if_pos h,if_pos h,aA]; rfl
     rw [el] at lQ;simp only [ga];refine⟨trivial,by decide,by decide,by lia,by decide,.inl (by decide),.inr ?_,?_⟩
     ·lia
     ·refine⟨Hw ?_,lQ _ _ ⟨⟨_,rfl⟩,l.put ha,?_⟩⟩
      ·unfold Ii; rw [if_pos h]; simp; exact BH
      ·rw [aH,aA]; rfl
    ·rw [if_neg (by simp; lia)];refine lQ _ _ ⟨⟨_,rfl⟩,l,?_⟩;rw [ga]; unfold Ii; rw [if_neg h,if_neg h]
   ·rintro τ G' ⟨⟨x,rfl⟩,l,ga⟩;exact hN _ _ ⟨⟨_,rfl⟩,l,ga⟩
  rcases hd with rfl | ⟨b,rfl,e⟩
  ·exact key _ fun _ _=>trivial
  ·have hba:b≠a:=fun z=>by rw [z,ha] at e; cases e
   rw [KL (show c6 G a (.lst []) b=some (.lst (ns.map D.int)) by rw [dh hba]; exact e)];exact key _ fun G' l=>l b _ e
 ·rintro _ G' ⟨⟨x,rfl⟩,l,ga⟩;simp only [dN,gB,au,af,aa];exact V1 l ha ga (q a ha)
end pR
end K2
end
section
namespace K2
open PySem (Str)
open Enc (enc)
namespace Jr
open K2.P K2.pR K2.Z1
noncomputable def GP(cs:List Int)(k:Int):Int:=cs.getD (k.toNat - 1) 0
theorem Vw{cs pre post:List Int}{c:Int}(h:cs=pre++c :: post):GP cs (pre.length+1)=c:=by
 unfold GP;rw [show ((pre.length:Int)+1).toNat - 1=pre.length by lia,h];simp
noncomputable def rl(W:Int->Bool)(q:T3):T3:=if W q.a=true then ⟨q.a,1 - q.b,-q.c⟩ else q
theorem JL(W:Int->Bool)(q:T3):(rl W q).a=q.a:=by unfold rl; split <;> rfl
noncomputable def Zh(q:T3):Prop:=(q.b=0\/q.b=1)/\(q.c=1\/q.c=-1)
theorem JK(W:Int->Bool){q:T3}(h:Zh q):fst (rl W q)=fst q:=by
 obtain⟨h1,h2⟩:=h;unfold rl;split
 ·unfold fst;rcases h1 with e | e <;> rcases h2 with f | f <;> simp [e,f]
 ·rfl
theorem Hx(W:Int->Bool){q:T3}(h:Zh q):Zh (rl W q):=by
 obtain⟨h1,h2⟩:=h;unfold rl;split
 ·exact⟨by dsimp only; lia,by dsimp only; lia⟩
 ·exact⟨h1,h2⟩
theorem v8(n c p:Int):Zh (iC n c p):=by
 unfold Zh iC;dsimp only;constructor
 ·split <;> simp
 ·split <;> simp
theorem Kc{n c p:Int}(hp:p=ab c\/p=ab c+1):fst (iC n c p)=decide (p=ab c+1):=by
 unfold fst iC;dsimp only;by_cases h:p=ab c+1
 ·by_cases g:c > 0
  ·simp [h,g]
  ·simp [h,g]
 ·by_cases g:c > 0
  ·simp [h,g]
  ·simp [h,g]
noncomputable def Lc(f:Int->Int)(t:Int):Int->List Int->Prop
 | x,[]=>f x=t
 | x,y :: g=>f x=y/\Lc f t y g
noncomputable def tw(f:Int->Int):List Int->Prop
 | []=>False
 | t :: g=>Lc f t t g
theorem Y5{f:Int->Int}(r:Int->List T3){n:Int}(hn:1<=n/\n<=3)(hf:∀ p,1<=p/\p<=n->1<=f p/\f p<=n)(inj:∀ p q,f p=f q->p=q) :
  ∃ gs:List (List Int),cls f r (fk n) [] []=gs.map (fun g=>g.flatMap r)/\(∀ g∈gs,tw f g)/\gs.flatten.Perm (fk n):=by
 have ne:∀ p q,p≠q->f p≠f q:=fun p q h e=>h (inj p q e);have acr:n=1\/n=2\/n=3:=by lia
 rcases acr with rfl | rfl | rfl
 ·have a1:f 1=1:=by have:=hf 1 (by lia); lia
  refine⟨[[1]],?_,?_,.refl _⟩
  ·show cls f r [1] [] []=_;simp [cls,yy,a1]
  ·simp [tw,Lc,a1]
 ·have i1:=hf 1 (by lia);have i2:=hf 2 (by lia);have Vp:=ne 1 2 (by lia);have a1:f 1=1\/f 1=2:=by lia
  rcases a1 with a1 | a1
  ·have a2:f 2=2:=by lia
   refine⟨[[1],[2]],?_,?_,.refl _⟩
   ·show cls f r [1,2] [] []=_;simp [cls,yy,a1,a2]
   ·simp [tw,Lc,a1,a2]
  ·have a2:f 2=1:=by lia
   refine⟨[[1,2]],?_,?_,.refl _⟩
   ·show cls f r [1,2] [] []=_;simp [cls,yy,a1,a2]
   ·simp [tw,Lc,a1,a2]
 ·have i1:=hf 1 (by lia);have i2:=hf 2 (by lia);have i3:=hf 3 (by lia);have Vp:=ne 1 2 (by lia);have n13:=ne 1 3 (by lia);have n23:=ne 2 3 (by lia);have go:∀ gs:List (List Int),cls f r [1,2,3] [] []=gs.map (fun g=>g.flatMap r)->(∀ g∈gs,tw f g)->gs.flatten.Perm [1,2,3]->∃ gs:List (List Int),cls f r (fk 3) [] []=gs.map (fun g=>g.flatMap r)/\(∀ g∈gs,tw f g)/\gs.flatten.Perm (fk 3):=fun gs h1 h2 h3=>⟨gs,h1,h2,h3⟩;have ex:∀ x y z w:Int,(x=y\/x=z\/x=w)->x≠w->x=y\/x=z:=fun x y z w h n=>h.elim .inl fun h=>h.elim .inr fun h=>absurd h n;have a1:f 1=1\/f 1=2\/f 1=3:=by lia
  have a2:f 2=1\/f 2=2\/f 2=3:=by lia
  have a3:f 3=1\/f 3=2\/f 3=3:=by lia
  rcases a1 with a1 | a1 | a1
  ·rw [a1] at Vp n13;rcases ex _ 3 2 1 (a2.elim (fun h=>.inr (.inr h)) fun h=>h.elim (fun h=>.inr (.inl h)) .inl) (cW Vp) with a2 | a2 <;> rw [a2] at n23
   ·have a3:f 3=2:=by clear hn hf i1 i2 i3; lia
    refine go [[1],[2,3]] ?_ ?_ (by decide) <;> simp [cls,yy,tw,Lc,a1,a2,a3]
   ·have a3:f 3=3:=by clear hn hf i1 i2 i3; lia
    refine go [[1],[2],[3]] ?_ ?_ (by decide) <;> simp [cls,yy,tw,Lc,a1,a2,a3]
  ·rw [a1] at Vp n13;rcases ex _ 1 3 2 (a2.elim .inl fun h=>h.elim (fun h=>.inr (.inr h)) fun h=>.inr (.inl h)) (cW Vp) with a2 | a2 <;> rw [a2] at n23
   ·have a3:f 3=3:=by clear hn hf i1 i2 i3; lia
    refine go [[1,2],[3]] ?_ ?_ (by decide) <;> simp [cls,yy,tw,Lc,a1,a2,a3]
   ·have a3:f 3=1:=by clear hn hf i1 i2 i3; lia
    refine go [[1,2,3]] ?_ ?_ (by decide) <;> simp [cls,yy,tw,Lc,a1,a2,a3]
  ·rw [a1] at Vp n13;rcases ex _ 1 2 3 a2 (cW Vp) with a2 | a2 <;> rw [a2] at n23
   ·have a3:f 3=2:=by clear hn hf i1 i2 i3; lia
    refine go [[1,3,2]] ?_ ?_ (by decide) <;> simp [cls,yy,tw,Lc,a1,a2,a3]
   ·have a3:f 3=1:=by clear hn hf i1 i2 i3; lia
    refine go [[1,3],[2]] ?_ ?_ (by decide) <;> simp [cls,yy,tw,Lc,a1,a2,a3]
end Jr
end K2
end
section
namespace K2
open PySem (Str)
open Enc (enc)
namespace Jr
open K2.P K2.pR K2.Z1
variable {cs:List Int} {n:Int} {W:Int->Bool}
noncomputable def Rp(W:Int->Bool)(n:Int)(cs:List Int):Rows:=(lJ n cs).map fun r=>r.map (rl W)
noncomputable def j7(p c:Int):Prop:=p=ab c\/p=ab c+1
theorem xO{x:T3}:∀ (cs:List Int) (k t:Int),x∈fT k cs t↔∃ pre c post,cs=pre++c :: post/\j7 (i8 pre t) c/\x=iC (k+pre.length) c (i8 pre t):=by
 intro cs;induction cs with
 | nil =>
  intro k t;constructor
  ·intro h; cases h
  ·rintro⟨pre,c,post,e,_⟩; cases pre <;> cases e
 | cons c cs ih =>
  intro k t;rw [fT,vG,ih];constructor
  ·rintro(h | ⟨pre,d,post,e,hi,rfl⟩)
   ·split at h
    ·rename_i hi;rw [List.mem_singleton.mp h];exact⟨[],c,cs,rfl,hi,by simp [i8]⟩
    ·cases h
   ·refine⟨c :: pre,d,post,by rw [e]; rfl,hi,?_⟩;show iC _ _ (i8 pre (eO t c))=iC _ _ (i8 pre (eO t c));rw [ak];congr 1;lia
  ·rintro⟨pre,d,post,e,hi,rfl⟩;cases pre with
   | nil =>
    injection e with e1 e2
    subst e1 e2;left;rw [if_pos (show t=ab c\/t=ab c+1 from hi)];simp [i8]
   | cons y pre =>
    injection e with e1 e2
    subst e1 e2;right;refine⟨pre,d,post,rfl,hi,?_⟩;show iC _ _ (i8 pre (eO t c))=iC _ _ (i8 pre (eO t c));rw [ak];congr 1;lia
theorem Qp:∀ (cs:List Int) (k t:Int),(fT k cs t).Pairwise (fun x y=>x.a < y.a)/\∀ x∈fT k cs t,k<=x.a
 | [],_,_=>⟨.nil,by simp [fT]⟩
 | c :: cs,k,t=>by
  obtain⟨h1,h2⟩:=Qp cs (k+1) (eO t c);rw [fT];split
  ·refine⟨?_,fun x hx=>?_⟩
   ·rw [vE,List.pairwise_cons];exact⟨fun y hy=>by have:=h2 y hy; show k < y.a; lia,h1⟩
   ·rw [vE] at hx;rcases List.mem_cons.mp hx with rfl | hx
    ·exact yb _
    ·have:=h2 x hx; lia
  ·rw [aW];exact⟨h1,fun x hx=>by have:=h2 x hx; lia⟩
theorem JM(c p:Int):eO (eO p c) c=p:=by
 unfold eO;by_cases h1:p=ab c
 ·rw [if_pos h1,if_neg (by lia),if_pos rfl]; exact h1.symm
 ·by_cases h2:p=ab c+1
  ·rw [if_neg h1,if_pos h2,if_pos rfl]; exact h2.symm
  ·rw [if_neg h1,if_neg h2,if_neg h1,if_neg h2]
theorem uJ(hc:∀ c∈cs,1<=ab c/\ab c < n):∀ (pre:List Int),(∀ c∈pre,c∈cs)->∀ y,1<=y/\y<=n->∃ t,(1<=t/\t<=n)/\i8 pre t=y
 | [],_,y,hy=>⟨y,hy,rfl⟩
 | c :: pre,h,y,hy=>by
  obtain⟨t,ht,e⟩:=uJ hc pre (fun x hx=>h x (ao _ hx)) y hy;have:=hc c (h c (by simp));refine⟨eO t c,Hy this.1 this.2 ht,?_⟩;show i8 pre (eO (eO t c) c)=y;rw [JM]; exact e
theorem ij{t:Int}:t∈fk n↔1<=t/\t<=n:=by
 unfold fk;rw [Cc];constructor
 ·rintro⟨i,hi,rfl⟩;have:=List.mem_range.mp hi;lia
 ·intro h;exact⟨(t - 1).toNat,List.mem_range.mpr (by lia),by lia⟩
theorem JI(n:Int):(fk n).Nodup:=by
 unfold fk List.Nodup;rw [eI];exact List.nodup_range.imp fun {a b} h z=>h (by lia)
theorem Jl(W:Int->Bool)(g:Good n cs):∃ gs:List (List Int),Rp W n cs=gs.map (fun g=>(kb (g.flatMap (fT 1 cs))).map (rl W))/\(∀ g∈gs,tw (i8 cs) g)/\gs.flatten.Perm (fk n):=by
 obtain⟨h1,hl,hc⟩:=g;obtain⟨gs,e,h2,h3⟩:=Y5 (f:=i8 cs) (fT 1 cs) h1 (fun p hp=>y7 cs hc hp) (fun p q h=>C3 cs h);refine⟨gs,?_,h2,h3⟩;unfold Rp lJ;rw [e,bA,bA]; rfl
theorem Bg(r:List T3):(kb r).Perm r:=by
 unfold kb;exact List.perm_append_comm.trans (by rw [c9])
theorem vp(W:Int->Bool)(g:Good n cs):(Rp W n cs).flatten.Perm (((fk n).flatMap (fT 1 cs)).map (rl W)):=by
 obtain⟨gs,e,_,h3⟩:=Jl W g;rw [e];have:∀ gs:List (List Int),(gs.map (fun g=>(kb (g.flatMap (fT 1 cs))).map (rl W))).flatten.Perm ((gs.flatten.flatMap (fT 1 cs)).map (rl W)):=by
  intro gs;induction gs with
  | nil=>exact .refl _
  | cons a gs ih =>
   rw [av,bz,bz,List.flatMap_append,aA];exact((Bg _).map _).append ih
 exact(this gs).trans ((h3.flatMap_right _).map _)
theorem pH(W:Int->Bool)(g:Good n cs){q:T3}:q∈(Rp W n cs).flatten↔∃ pre c post p,cs=pre++c :: post/\(1<=p/\p<=n)/\j7 p c/\q=rl W (iC (1+pre.length) c p):=by
 obtain⟨h1,hl,hc⟩:=id g;rw [(vp W g).mem_iff,Cc];constructor
 ·rintro⟨x,hx,rfl⟩;obtain⟨t,ht,hx⟩:=List.mem_flatMap.mp hx;obtain⟨pre,c,post,e,hi,rfl⟩:=(xO cs 1 t).mp hx;exact⟨pre,c,post,_,e,y7 pre (fun c h=>hc c (by rw [e]; exact bW _ h)) (ij.mp ht),hi,rfl⟩
 ·rintro⟨pre,c,post,p,e,hp,hi,rfl⟩;obtain⟨t,ht,et⟩:=uJ hc pre (fun c h=>by rw [e]; exact bW _ h) p hp;exact⟨_,List.mem_flatMap.mpr ⟨t,ij.mpr ht,(xO cs 1 t).mpr ⟨pre,c,post,e,by rw [et]; exact hi,by rw [et]⟩⟩,rfl⟩
theorem U6{pre v9 post Bt:List Int}{c c':Int}(e:cs=pre++c :: post)(e':cs=v9++c' :: Bt)(h:pre.length=v9.length):pre=v9/\c=c':=by
 rw [e] at e';obtain⟨h1,h2⟩:=List.append_inj e' h;injection h2 with h3 _
 exact⟨h1,h3⟩
theorem Xb(W:Int->Bool){x y:T3}(ha:x.a=y.a)(hc:x.c=y.c):(rl W x).c=(rl W y).c:=by
 unfold rl;rw [ha];split
 ·show -x.c=-y.c; rw [hc]
 ·exact hc
theorem Ou{pre v9 post Bt:List Int}{c c' p p':Int}(e:cs=pre++c :: post)(e':cs=v9++c' :: Bt)(hi:j7 p c)(xn:j7 p' c')(h:(rl W (iC (1+pre.length) c p)).s=(rl W (iC (1+v9.length) c' p')).s):pre=v9/\c=c'/\p=p':=by
 have ha:=congrArg T2.a h;have hb:=congrArg T2.b h;simp only [T3.s] at ha hb;have hl:pre.length=v9.length:=by
  rw [JL,JL] at ha;have:(1:Int)+pre.length=1+v9.length:=ha;lia
 obtain⟨e1,e2⟩:=U6 e e' hl;subst e1 e2;refine⟨rfl,rfl,?_⟩;have ZN:(rl W (iC (1+pre.length) c p)).c=(rl W (iC (1+pre.length) c p')).c:=Xb W rfl rfl;have hf:fst (iC (1+pre.length) c p)=fst (iC (1+pre.length) c p'):=by
  rw [<-JK W (v8 ..),<-JK W (v8 ..)];unfold fst;rw [hb,ZN]
 rw [Kc hi,Kc xn] at hf;rcases hi with h1 | h1 <;> rcases xn with h2 | h2
 ·rw [h1,h2]
 ·rw [h1,h2] at hf; simp at hf; lia
 ·rw [h1,h2] at hf; simp at hf; lia
 ·rw [h1,h2]
theorem OR{k c p:Int}(hi:j7 p c)(W:Int->Bool):rl W (iC k c (eO p c))=⟨(rl W (iC k c p)).a,1 - (rl W (iC k c p)).b,(rl W (iC k c p)).c⟩:=by
 have hb:(iC k c (eO p c)).b=1 - (iC k c p).b:=by
  have n1:¬ (ab c=ab c+1):=by lia
  rcases hi with h1 | h1
  ·have es:eO p c=ab c+1:=by unfold eO; rw [if_pos h1]
   rw [es,h1];unfold iC;dsimp only;by_cases g:c > 0
   ·simp [g,n1]
   ·simp [g,n1]
  ·have es:eO p c=ab c:=by unfold eO; rw [if_neg (by lia),if_pos h1]
   rw [es,h1];unfold iC;dsimp only;by_cases g:c > 0
   ·simp [g,n1]
   ·simp [g,n1]
 have e:iC k c (eO p c)=⟨k,1 - (iC k c p).b,(iC k c p).c⟩:=by
  rw [<-hb]; rfl
 rw [e];unfold rl;by_cases w:W k=true
 ·rw [if_pos (show W (T3.mk k (1 - (iC k c p).b) (iC k c p).c).a=true from w),if_pos (show W (iC k c p).a=true from w)];rfl
 ·rw [if_neg (show ¬ W (T3.mk k (1 - (iC k c p).b) (iC k c p).c).a=true from w),if_neg (show ¬ W (iC k c p).a=true from w)];rfl
theorem VZ{gs:List (List Int)}(h:∀ g∈gs,g≠[]):gs.length<=gs.flatten.length:=by
 induction gs with
 | nil=>simp
 | cons a gs ih =>
  have:=ih fun g hg=>h g (ao _ hg);have ha:=List.length_pos_iff.mpr (h a (by simp));rw [bz,aw,ak];lia
theorem SM(hc:∀ c∈cs,1<=ab c/\ab c < n){c p:Int}(h:c∈cs)(hi:j7 p c):1<=p/\p<=n:=by
 have:=hc c h;unfold j7 at hi;lia
theorem QN(W:Int->Bool)(g:Good n cs):((Rp W n cs).flatten.map T3.s).Nodup:=by
 rw [((vp W g).map T3.s).nodup_iff,bA];unfold List.Nodup;rw [eI,Q4];refine⟨fun t ht=>?_,?_⟩
 ·refine(Qp cs 1 t).1.imp fun {x y} h z=>?_;have:=congrArg T2.a z;simp only [wK,T3.s,JL] at this;lia
 ·refine(JI n).imp fun {t t'} h x hx y hy z=>h ?_;obtain⟨pre,c,post,e,hi,rfl⟩:=(xO cs 1 t).mp hx;obtain⟨v9,c',Bt,e',xn,rfl⟩:=(xO cs 1 t').mp hy;obtain⟨rfl,rfl,e3⟩:=Ou (W:=W) e e' hi xn z;exact C3 _ e3
theorem To(W:Int->Bool)(g:Good n cs):(Rp W n cs).flatten.length<=2 * cs.length:=by
 have h:=TX ((Rp W n cs).flatten.map T3.s) ((aU cs.length).flatMap fun (k:Nat)=>[(⟨(k:Int)+1,0⟩:T2),⟨(k:Int)+1,1⟩]) (QN W g) fun s hs=>by
  obtain⟨q,hq,rfl⟩:=List.mem_map.mp hs;obtain⟨pre,c,post,p,e,hp,hi,rfl⟩:=(pH W g).mp hq;refine List.mem_flatMap.mpr ⟨pre.length,List.mem_range.mpr (by rw [e]; simp),?_⟩;have ok:=(Hx W (v8 (1+pre.length) c p)).1;have ea:(rl W (iC (1+pre.length) c p)).a=(pre.length:Int)+1:=by rw [JL,Int.add_comm]; rfl
  unfold T3.s;rw [ea];rcases ok with o | o <;> rw [o] <;> simp
 rw [ag] at h;have:((aU cs.length).flatMap fun (k:Nat)=>[(⟨(k:Int)+1,0⟩:T2),⟨(k:Int)+1,1⟩]).length=2 * cs.length:=by
  rw [List.length_flatMap];have:∀ m:Nat,((aU m).map fun (a:Nat)=>[(⟨(a:Int)+1,0⟩:T2),⟨(a:Int)+1,1⟩].length).sum=2 * m:=by
   intro m;induction m with
   | zero=>rfl
   | succ m ih=>rw [k8,aA,List.sum_append,ih]; simp; lia
  exact this _
 lia
theorem Wm(W:Int->Bool)(g:Good n cs):Dr (Rp W n cs) where
 nd:=QN W g
 way:=fun q hq=>by
  obtain⟨pre,c,post,p,e,hp,hi,rfl⟩:=(pH W g).mp hq;exact(Hx W (v8 ..)).1
 hand:=fun q hq=>by
  obtain⟨pre,c,post,p,e,hp,hi,rfl⟩:=(pH W g).mp hq;exact(Hx W (v8 ..)).2
 Sy:=fun q hq=>by
  obtain⟨pre,c,post,p,e,hp,hi,rfl⟩:=(pH W g).mp hq;rw [<-OR hi W];have hc:=g.2.2;have hcm:c∈cs:=by rw [e]; simp
  refine(pH W g).mpr ⟨pre,c,post,eO p c,e,Hy (hc c hcm).1 (hc c hcm).2 hp,?_,rfl⟩;unfold j7 eO;rcases hi with h1 | h1
  ·rw [if_pos h1]; exact .inr rfl
  ·rw [if_neg (by lia),if_pos h1]; exact .inl rfl
 nH:=by have:=To W g; have:=g.2.1; lia
 str:=by
  obtain⟨gs,e,h2,h3⟩:=Jl W g;rw [e,ag];have h4:=VZ (gs:=gs) fun x hx z=>by have:=h2 x hx; rw [z] at this; exact this
  rw [h3.length_eq] at h4;have h5:(fk n).length=n.toNat:=by unfold fk; rw [ag,e7]
  have:=g.1;lia
end Jr
end K2
end
section
namespace K2
open PySem (Str)
open Enc (enc)
namespace Jr
open K2.P K2.pR K2.Z1
variable {cs:List Int} {n:Int} {W:Int->Bool}
theorem Dy{f:Int->Int}{g:List Int}{y:Int}(h:tw f g)(hn:g.Nodup)(hy:y∈g)(e:f y=y):g=[y]:=by
 have main:∀ (g:List Int) (t x:Int),Lc f t x g->(x :: g).Nodup->y∈x :: g->y=t:=by
  intro g;induction g with
  | nil =>
   intro t x h _ hy;rw [<-show f x=t from h];rw [List.mem_singleton.mp hy] at e ⊢;exact e.symm
  | cons z g ih =>
   intro t x h hn hy;rw [cF] at hn;rcases List.mem_cons.mp hy with rfl | hy
   ·exact absurd (by rw [<-e,h.1]; simp) hn.1
   ·exact ih t z h.2 hn.2 hy
 cases g with
 | nil=>exact h.elim
 | cons t g =>
  have:=main g t t h hn hy;subst this;cases g with
  | nil=>rfl
  | cons z g =>
   rw [cF] at hn;exact absurd (by rw [<-e,h.1]; simp) hn.1
noncomputable def Ix(gs:List (List Int))(t:Int)(i:Nat):Prop:=∃ g,gs[i]?=some g/\t∈g
theorem VH{gs:List (List Int)}(hn:gs.flatten.Nodup){t:Int}{i j:Nat}(h1:Ix gs t i)(h2:Ix gs t j):i=j:=by
 obtain⟨g,e1,m1⟩:=h1;obtain⟨k,e2,m2⟩:=h2;unfold List.Nodup at hn;rw [List.pairwise_flatten] at hn;have pw:=List.pairwise_iff_getElem.mp hn.2;obtain⟨l1,f1⟩:=List.getElem?_eq_some_iff.mp e1;obtain⟨l2,f2⟩:=List.getElem?_eq_some_iff.mp e2;rcases Nat.lt_trichotomy i j with lt | eq | gt
 ·exact absurd rfl (pw i j l1 l2 lt t (by rw [f1]; exact m1) t (by rw [f2]; exact m2))
 ·exact eq
 ·exact absurd rfl (pw j i l2 l1 gt t (by rw [f2]; exact m2) t (by rw [f1]; exact m1))
end Jr
end K2
end
section
namespace K2
namespace D6
open K2.P K2.pR K2.Jr
section
variable {h:T2->Int} {p:Nat}
noncomputable def rH(p:Nat)(h:T2->Int)(q:T3):Int:=if q.b=0 then h q.s else (2 * h ⟨q.a,0⟩ - h q.s) % (p:Int)
noncomputable def Ln(p:Nat)(h:T2->Int):Int->List T3->Int->Prop
 | v,[],v'=>v=v'
 | v,q :: L,v'=>v=rH p h q/\Ln p h (h q.s) L v'
theorem Ln.app:∀ {A B:List T3} {v v1 v2:Int},Ln p h v A v1->Ln p h v1 B v2->Ln p h v (A++B) v2
 | [],_,_,_,_,a,b=>by rw [show _=_ from a]; exact b
 | _ :: _,_,_,_,_,a,b=>⟨a.1,Ln.app a.2 b⟩
theorem Ln.split:∀ {A B:List T3} {v v2:Int},Ln p h v (A++B) v2->∃ v1,Ln p h v A v1/\Ln p h v1 B v2
 | [],_,v,_,a=>⟨v,rfl,a⟩
 | _ :: _,_,_,_,a=>by
  obtain⟨v1,h1,h2⟩:=Ln.split a.2;exact⟨v1,⟨a.1,h1⟩,h2⟩
theorem Ln.det:∀ {A:List T3} {v v1 v2:Int},Ln p h v A v1->Ln p h v A v2->v1=v2
 | [],_,_,_,a,b=>(show _=_ from a).symm.trans b
 | _ :: _,_,_,_,a,b=>Ln.det a.2 b.2
theorem Ln.rot{A B:List T3}(a:∃ v,Ln p h v (A++B) v):∃ v,Ln p h v (B++A) v:=by
 obtain⟨v,a⟩:=a;obtain⟨v1,h1,h2⟩:=Ln.split a;exact⟨v1,h2.app h1⟩
theorem Ku:∀ (L:List T3) (a b:T3) (v:Int),Ln p h (h a.s) L v->v=rH p h b->∀ z∈(a :: L).zip (L++[b]),h z.1.s=rH p h z.2
 | [],a,b,v,l,e,z,hz=>by
  have:z=(a,b):=by simpa using hz
  rw [this];exact(show h a.s=v from l).trans e
 | c :: L,a,b,v,l,e,z,hz=>by
  rw [aP,pT] at hz;rcases List.mem_cons.mp hz with rfl | hz
  ·exact l.1
  ·exact Ku L c b v l.2 e z hz
theorem SF{L:List T3}{v:Int}(l:Ln p h v L v):∀ z∈L.zip (fe L),h z.1.s=rH p h z.2:=by
 cases L with
 | nil=>intro z hz; simp at hz
 | cons a L =>
  intro z hz;exact Ku L a a v l.2 l.1 z hz
theorem Km:∀ (L:List T3) (a b:T3),(∀ z∈(a :: L).zip (L++[b]),h z.1.s=rH p h z.2)->Ln p h (h a.s) L (rH p h b)
 | [],a,b,H=>H (a,b) (by simp)
 | c :: L,a,b,H=>⟨H (a,c) (by simp),Km L c b fun z hz=>H z (by rw [aP,pT]; exact .tail _ hz)⟩
theorem Kq{L:List T3}(H:∀ z∈L.zip (fe L),h z.1.s=rH p h z.2)(w:Int):∃ v,Ln p h v L v/\(L=[]->v=w):=by
 cases L with
 | nil=>exact⟨w,rfl,fun _=>rfl⟩
 | cons a L=>exact⟨rH p h a,⟨rfl,Km L a a H⟩,fun e=>by cases e⟩
end
end D6
end K2
end
section
namespace K2
namespace D6
open K2.P K2.pR K2.Jr
open K2.vO (Pr kZ)
noncomputable def tE(x:List Int)(t:Int):Int:=x.getD (t.toNat - 1) 0
noncomputable def Nx(p:Nat)(x:List Int)(c:Int):List Int :=
 if c > 0 then (x.set ((ab c).toNat - 1) (x.getD (ab c).toNat 0)).set (ab c).toNat ((2 * x.getD (ab c).toNat 0 - x.getD ((ab c).toNat - 1) 0) % (p:Int))
 else (x.set (ab c).toNat (x.getD ((ab c).toNat - 1) 0)).set ((ab c).toNat - 1) ((2 * x.getD ((ab c).toNat - 1) 0 - x.getD (ab c).toNat 0) % (p:Int))
noncomputable def qX(p:Nat)(cs:List Int)(x:List Int):List Int:=cs.foldl (Nx p) x
theorem nT{x:List Int}{i j:Nat}{v:Int}(hi:i < x.length):(x.set i v).getD j 0=if i=j then v else x.getD j 0:=vO.PY hi
theorem Te(p:Nat)(x:List Int)(c:Int):(Nx p x c).length=x.length:=by unfold Nx; split <;> simp
theorem Lg{p:Nat}{n:Nat}{x:List Int}{c u:Int}(hx:x.length=n)(h1:1<=ab c)(h2:ab c < n)(hu:1<=u) :
  tE (Nx p x c) (eO u c)=if u=ab c\/u=ab c+1 then (if (iC 0 c u).b=0 then tE x u else (2 * tE x (eO u c) - tE x u) % (p:Int)) else tE x u:=by
 have e1:(ab c).toNat - 1+1=(ab c).toNat:=by lia
 have e2:(ab c+1).toNat - 1=(ab c).toNat:=by lia
 unfold tE Nx eO iC;by_cases c0:c > 0
 ·simp only [c0,if_true];by_cases a1:u=ab c
  ·subst a1;simp only [if_true,e2,true_or];rw [nT (by simp; lia),if_pos rfl];have:¬ (ab c=ab c+1):=by lia
   simp [this]
  ·by_cases a2:u=ab c+1
   ·subst a2;have:¬ (ab c+1=ab c):=by lia
    simp only [this,if_false,if_true,or_true,e2];rw [nT (by simp; lia),if_neg (by lia),nT (by lia),if_pos rfl]
   ·simp only [a1,a2,if_false,or_self];rw [nT (by simp; lia),if_neg (by lia),nT (by lia),if_neg (by lia)]
 ·simp only [c0,if_false];by_cases a1:u=ab c
  ·subst a1;simp only [if_true,e2,true_or];rw [nT (by simp; lia),if_neg (by lia),nT (by lia),if_pos rfl];have:¬ (ab c=ab c+1):=by lia
   simp [this]
  ·by_cases a2:u=ab c+1
   ·subst a2;have:¬ (ab c+1=ab c):=by lia
    simp only [this,if_false,if_true,or_true,e2];rw [nT (by simp; lia),if_pos rfl];simp
   ·simp only [a1,a2,if_false,or_self];rw [nT (by simp; lia),if_neg (by lia),nT (by lia),if_neg (by lia)]
theorem Kd(k c u:Int):(iC k c u).b=(iC 0 c u).b:=rfl
theorem EH{c u:Int}(hi:j7 u c):(iC 0 c u).b=0↔(iC 0 c (eO u c)).b=1:=by
 have n1:¬ ab c=ab c+1:=by lia
 have n2:¬ ab c+1=ab c:=by lia
 unfold iC eO;rcases hi with rfl | rfl
 ·by_cases c0:c > 0 <;> simp [c0,n1,n2]
 ·by_cases c0:c > 0 <;> simp [c0,n1,n2]
theorem aax(u c:Int):eO (eO u c) c=u:=JM c u
theorem xK(k c u:Int):(iC k c u).b=0\/(iC k c u).b=1:=(v8 k c u).1
theorem Td{p n:Nat}(hp:Pr p){x:List Int}(h:kZ p n x)(c:Int):kZ p n (Nx p x c):=by
 have p0:=hp.pos;have g:∀ i,0<=x.getD i 0/\x.getD i 0 < (p:Int):=fun i=>h.el hp (i:Nat);have m:∀ z:Int,0<=z % (p:Int)/\z % (p:Int) < p:=fun z=>⟨dP _ (by lia),c7 _ (by lia)⟩;refine⟨by rw [Te,h.1],fun v hv=>?_⟩;unfold Nx at hv;split at hv
 ·rcases jW hv with hv | rfl
  ·rcases jW hv with hv | rfl
   ·exact h.2 v hv
   ·exact g _
  ·exact m _
 ·rcases jW hv with hv | rfl
  ·rcases jW hv with hv | rfl
   ·exact h.2 v hv
   ·exact g _
  ·exact m _
theorem rK{p n:Nat}(hp:Pr p):∀ (cs:List Int) {x:List Int},kZ p n x->kZ p n (qX p cs x)
 | [],_,h=>h
 | c :: cs,_,h=>rK hp cs (Td hp h c)
theorem Ld(p:Nat)(a b x:List Int):qX p (a++b) x=qX p b (qX p a x):=e9
theorem DI{p n:Nat}(hp:Pr p){x:List Int}(h:kZ p n x)(t:Int):0<=tE x t/\tE x t < (p:Int):=h.el hp ((t.toNat - 1:Nat):Int)
end D6
end K2
end
section
namespace K2
namespace D6
open K2.P K2.pR K2.Jr
open K2.vO (Pr kZ)
section
variable {n:Int} {cs:List Int} {p:Nat} {h:T2->Int} {x:List Int}
noncomputable def Lv(p:Nat)(h:T2->Int)(k c:Int)(x':List Int):Prop :=
 ∀ u,j7 u c->((iC 0 c u).b=0->h ⟨k,0⟩=tE x' u)/\((iC 0 c u).b=1->h ⟨k,1⟩=(2 * tE x' (eO u c) - tE x' u) % (p:Int))
theorem twice{p:Nat}{a b:Int}(h:0<=b/\b < (p:Int)):(2 * a - (2 * a - b) % (p:Int)) % (p:Int)=b:=by
 rw [p7,xh _ (RF _),<-p7,show 2 * a - (2 * a - b)=b by lia,Cd h.1 h.2]
theorem oD{u c:Int}(hi:j7 u c):j7 (eO u c) c:=by
 unfold j7 eO at *;rcases hi with rfl | rfl
 ·exact .inr (by simp)
 ·have:¬ ab c+1=ab c:=by lia
  exact .inl (by simp [this])
theorem uA{u c:Int}(hi:j7 u c)(hb:(iC 0 c u).b=1):(iC 0 c (eO u c)).b=0:=by
 rw [EH (oD hi),aax]; exact hb
theorem wY(k c u:Int):(iC k c u).s=⟨k,(iC 0 c u).b⟩:=rfl
theorem XX{k c u:Int}{x':List Int}{m:Nat}(hp:Pr p)(v:kZ p m x')(L:Lv p h k c x')(hi:j7 u c):tE x' u=rH p h (iC k c u):=by
 unfold rH;rw [Kd];by_cases b:(iC 0 c u).b=0
 ·rw [if_pos b,wY,b];exact((L u hi).1 b).symm
 ·have b1:=(xK 0 c u).resolve_left b;rw [if_neg b,wY,b1];have o:=(L (eO u c) (oD hi)).1 (uA hi b1);show _=(2 * h ⟨k,0⟩ - h ⟨k,1⟩) % (p:Int);rw [o,(L u hi).2 b1,twice (DI hp v u)]
theorem Vv{k c u:Int}{x':List Int}{m:Nat}(hx:x'.length=m)(h1:1<=ab c)(h2:ab c < m)(hu:1<=u)(L:Lv p h k c x')(hi:j7 u c):tE (Nx p x' c) (eO u c)=h (iC k c u).s:=by
 rw [Lg hx h1 h2 hu,if_pos (show u=ab c\/u=ab c+1 from hi),wY];by_cases b:(iC 0 c u).b=0
 ·rw [if_pos b,b];exact((L u hi).1 b).symm
 ·have b1:=(xK 0 c u).resolve_left b;rw [if_neg b,b1];exact((L u hi).2 b1).symm
theorem xG{u c:Int}(hi:¬ j7 u c):eO u c=u:=by
 unfold j7 at hi;unfold eO;rw [if_neg fun z=>hi (.inl z),if_neg fun z=>hi (.inr z)]
theorem IX{k c u:Int}{rest:List Int}(hi:j7 u c):fT k (c :: rest) u=iC k c u :: fT (k+1) rest (eO u c):=by
 show (if u=ab c\/u=ab c+1 then [iC k c u] else [])++_=_;rw [if_pos (show u=ab c\/u=ab c+1 from hi)]; rfl
theorem K0{k c u:Int}{rest:List Int}(hi:¬ j7 u c):fT k (c :: rest) u=fT (k+1) rest u:=by
 show (if u=ab c\/u=ab c+1 then [iC k c u] else [])++fT (k+1) rest (eO u c)=_;rw [if_neg (show ¬ (u=ab c\/u=ab c+1) from hi),xG hi]; rfl
theorem RV{u c:Int}(hu:1<=u)(hc:1<=ab c):1<=eO u c:=by
 unfold eO;split
 ·lia
 ·split <;> lia
theorem C0(hp:Pr p)(v:kZ p n.toNat x)(hc:∀ c∈cs,1<=ab c/\ab c < n)(H:∀ pre c post,cs=pre++c :: post->Lv p h (1+pre.length) c (qX p pre x)) :
  ∀ (rest pre:List Int),cs=pre++rest->∀ u:Int,1<=u->Ln p h (tE (qX p pre x) u) (fT (1+pre.length) rest u) (tE (qX p cs x) (i8 rest u))
 | [],pre,e,u,_=>by
  rw [bU] at e;subst e; rfl
 | c :: rest,pre,e,u,hu=>by
  have e2:cs=(pre++[c])++rest:=by rw [e]; simp
  have cc:=hc c (by rw [e]; simp);have L:=H pre c rest e;have v':=rK hp pre v;have ih:=fun u hu=>C0 hp v hc H rest (pre++[c]) e2 u hu;have es:(1:Int)+((pre++[c]).length:Nat)=1+pre.length+1:=by simp; lia
  rw [es,Ld] at ih;have e3:qX p [c] (qX p pre x)=Nx p (qX p pre x) c:=rfl;rw [e3] at ih;by_cases hi:j7 u c
  ·rw [IX hi];refine⟨XX hp v' L hi,?_⟩;have:=ih (eO u c) (RV hu cc.1);rw [Vv v'.1 cc.1 (by lia) hu L hi] at this;exact this
  ·have e4:=K0 (k:=1+pre.length) (rest:=rest) hi;have e5:i8 (c :: rest) u=i8 rest u:=by
    show i8 rest (eO u c)=_;rw [xG hi]
   have:=ih u hu;have z:=Lg (p:=p) (x:=qX p pre x) (c:=c) (u:=u) v'.1 cc.1 (by lia) hu;rw [xG hi,if_neg (show ¬ (u=ab c\/u=ab c+1) from hi)] at z;rw [e4,e5,<-z];exact this
theorem Pd(hp:Pr p)(v:kZ p n.toNat x)(hc:∀ c∈cs,1<=ab c/\ab c < n)(hr:∀ k:Nat,k < cs.length->0<=h ⟨1+(k:Int),1⟩/\h ⟨1+(k:Int),1⟩ < (p:Int))(e:Int->Int)
  (R:∀ t,1<=t/\t<=n->Ln p h (tE x t) (fT 1 cs t) (e t)):∀ (m:Nat) (pre:List Int) (c:Int) (post:List Int),pre.length=m->cs=pre++c :: post->Lv p h (1+pre.length) c (qX p pre x):=by
 intro m;induction m using Nat.strongRecOn with
 | _ m ih =>
  intro pre c post em ec;have hcp:∀ c∈pre,1<=ab c/\ab c < n:=fun c h=>hc c (by rw [ec]; exact bW _ h);have cc:=hc c (by rw [ec]; simp);have ch:=C0 (cs:=pre) hp v hcp (fun v9 c' Bt e'=>ih v9.length (by rw [<-em,e']; simp) v9 c' (Bt++c :: post) rfl (by rw [ec,e']; simp)) pre [] rfl;have v':=rK hp pre v;have QS:∀ u,j7 u c->tE (qX p pre x) u=rH p h (iC (1+pre.length) c u):=fun u hi=>by
   have hu:=SM (n:=n) (cs:=cs) hc (c:=c) (by rw [ec]; simp) hi;obtain⟨t,ht,et⟩:=uJ hc pre (fun c h=>by rw [ec]; exact bW _ h) u hu;have full:=R t ht;have ed:fT 1 cs t=fT 1 pre t++(iC (1+pre.length) c u :: fT (1+pre.length+1) post (eO u c)):=by
    rw [ec,Dt,et,IX hi]
   rw [ed] at full;obtain⟨v1,a1,a2⟩:=Ln.split full;have b1:=ch t ht.1;rw [et] at b1;have:=Ln.det a1 b1;rw [<-this]; exact a2.1
  have Rh:=hr pre.length (by rw [ec]; simp);intro u hi;refine⟨fun b=>?_,fun b=>?_⟩
  ·have:=QS u hi;unfold rH at this;rw [Kd,if_pos b,wY,b] at this;exact this.symm
  ·have o:=QS _ (oD hi);have ob:=uA hi b;unfold rH at o;rw [Kd,if_pos ob,wY,ob] at o;have i:=QS u hi;unfold rH at i;rw [Kd,if_neg (by rw [b]; decide),wY,b] at i;have i':tE (qX p pre x) u=(2 * h ⟨1+pre.length,0⟩ - h ⟨1+pre.length,1⟩) % (p:Int):=i;rw [<-o] at i';rw [i',twice Rh]
end
end D6
end K2
end
section
namespace K2
namespace D6
open K2.P K2.pR K2.Jr
open K2.vO (Pr kZ)
theorem yp:∀ (rs:Rows) (k:Nat) {s:T2},s∈dS rs k->(∃ q∈rs.flatten,s=q.s)\/∃ j:Nat,rs[j]?=some []/\s=⟨((k+j:Nat):Int),2⟩
 | [],_,_,h=>by cases h
 | r :: rs,k,s,h=>by
  rw [dS] at h;rcases List.mem_append.mp h with h1 | h
  ·unfold bS at h1;replace h:=h1;split at h
   ·rename_i e;subst e;have h':=List.mem_singleton.mp h;exact .inr ⟨0,rfl,by rw [h']; rfl⟩
   ·obtain⟨q,hq,rfl⟩:=List.mem_map.mp h;exact .inl ⟨q,by rw [bz]; exact bW _ hq,rfl⟩
  ·rcases yp rs (k+1) h with ⟨q,hq,e⟩ | ⟨j,hj,e⟩
   ·exact .inl ⟨q,by rw [bz]; exact bb _ hq,e⟩
   ·exact .inr ⟨j+1,by simpa using hj,by rw [e]; congr 2; lia⟩
theorem qw:∀ (rs:Rows) (k j:Nat),rs[j]?=some []->(⟨((k+j:Nat):Int),2⟩:T2)∈dS rs k
 | [],_,_,h=>by simp at h
 | r :: rs,k,0,h=>by
  obtain rfl:r=[]:=by simpa using h
  rw [dS]; exact bW _ (by simp [bS])
 | r :: rs,k,j+1,h=>by
  rw [dS];have:=qw rs (k+1) j (by simpa using h);rw [show k+(j+1)=k+1+j by lia];exact bb _ this
noncomputable def WT(p:Nat)(rows:Rows)(h:T2->Int):Prop:=(∀ s∈dS rows 0,0<=h s/\h s < (p:Int))/\∀ z∈pairsOf rows,h z.1.s=rH p h z.2
theorem vb:∀ (cs:List Int) (k t:Int),fT k cs t=[]->i8 cs t=t
 | [],_,_,_=>rfl
 | c :: cs,k,t,h=>by
  by_cases hi:j7 t c
  ·rw [IX hi] at h; cases h
  ·rw [K0 hi] at h;show i8 cs (eO t c)=t;rw [xG hi];exact vb cs _ t h
theorem Lf{m:Nat}{x y:List Int}(hx:x.length=m)(hy:y.length=m)(h:∀ t:Int,1<=t/\t<=m->tE x t=tE y t):x=y:=by
 refine DZ (by lia) fun i h1 h2=>?_;have:=h (i+1) (by lia);unfold tE at this;rw [show ((i:Int)+1).toNat - 1=i by lia] at this
 rwa [az,az,ai h1,ai h2] at this
section
variable {n:Int} {cs:List Int} {p:Nat} {h h':T2->Int} {x y:List Int} {gs:List (List Int)}
structure Gs(n:Int)(cs:List Int)(gs:List (List Int)):Prop where
 rw:lJ n cs=gs.map (fun g=>kb (g.flatMap (fT 1 cs)))
 Y3:∀ g∈gs,tw (i8 cs) g
 U5:gs.flatten.Perm (fk n)
theorem wD(n:Int)(cs:List Int):Rp (fun _=>false) n cs=lJ n cs:=by
 unfold Rp;have e:(fun r:List T3=>r.map (rl fun _=>false))=id:=by
  funext r;have:rl (fun _=>false)=id:=by funext q; simp [rl]
  rw [this,GG]; rfl
 rw [e,GG]
theorem Ue(g:Good n cs):∃ gs,Gs n cs gs:=by
 obtain⟨gs,e,h2,h3⟩:=Jl (fun _=>false) g;rw [wD] at e;refine⟨gs,?_,h2,h3⟩;rw [e];refine oN fun g _=>?_;have:rl (fun _=>false)=id:=by funext q; simp [rl]
 rw [this,GG]
theorem Kr:∀ {gs:List (List Int)} {g:List Int},gs.flatten.Nodup->g∈gs->g.Nodup
 | a :: gs,g,h,hg=>by
  rw [bz,cj] at h;rcases List.mem_cons.mp hg with rfl | hg
  ·exact h.1
  ·exact Kr h.2.1 hg
theorem Gs.nd(G:Gs n cs gs):gs.flatten.Nodup:=G.U5.nodup_iff.mpr (JI n)
theorem Gs.one(G:Gs n cs gs){t:Int}(ht:1<=t/\t<=n)(e:fT 1 cs t=[]):∃ k:Nat,gs[k]?=some [t]:=by
 have hm:t∈gs.flatten:=G.U5.mem_iff.mpr (ij.mpr ht);obtain⟨g,hg,Yc⟩:=List.mem_flatten.mp hm;have nd:g.Nodup:=Kr G.nd hg;have:=Dy (G.Y3 g hg) nd Yc (vb cs 1 t e);subst this;obtain⟨k,hk⟩:=List.getElem?_of_mem hg;exact⟨k,hk⟩
theorem Gs.row(G:Gs n cs gs){k:Nat}(e:(lJ n cs)[k]?=some []):∃ t,gs[k]?=some [t]/\fT 1 cs t=[]/\(1<=t/\t<=n):=by
 rw [G.rw,aX] at e;cases hk:gs[k]? with
 | none=>rw [hk] at e; cases e
 | some g =>
  rw [hk] at e;have e':kb (g.flatMap (fT 1 cs))=[]:=by simpa using e
  have e2:g.flatMap (fT 1 cs)=[]:=by
   have:=Bg (g.flatMap (fT 1 cs));rw [e'] at this;exact(List.nil_perm.mp this)
  have hg:g∈gs:=eV hk;have cy:=G.Y3 g hg;cases g with
  | nil=>exact cy.elim
  | cons t g' =>
   have ed:fT 1 cs t=[]:=by
    rw [eM] at e2;exact(List.append_eq_nil_iff.mp e2).1
   have nd:(t :: g').Nodup:=Kr G.nd hg;have:=Dy cy nd (y:=t) (by simp) (vb cs 1 t ed);rw [this];exact⟨t,rfl,ed,ij.mp (G.U5.mem_iff.mp (List.mem_flatten.mpr ⟨_,hg,by simp⟩))⟩
structure Rel(n:Int)(cs:List Int)(gs:List (List Int))(p:Nat)(h:T2->Int)(x:List Int):Prop where
 ln:∀ t,1<=t/\t<=n->Ln p h (tE x t) (fT 1 cs t) (tE x (i8 cs t))
 em:∀ (k:Nat) (t:Int),gs[k]?=some [t]->fT 1 cs t=[]->tE x t=h ⟨(k:Int),2⟩
theorem Rel.W3(G:Gs n cs gs)(hx:x.length=n.toNat)(hy:y.length=n.toNat)(a:Rel n cs gs p h x)(b:Rel n cs gs p h y):x=y:=by
 refine Lf hx hy fun t ht=>?_;have Mn:1<=t/\t<=n:=by lia
 cases e:fT 1 cs t with
 | nil =>
  obtain⟨k,hk⟩:=G.one Mn e;rw [a.em k t hk e,b.em k t hk e]
 | cons q L =>
  have a1:=a.ln t Mn;have b1:=b.ln t Mn;rw [e] at a1 b1;rw [a1.1,b1.1]
theorem JR(g:Good n cs){q:T3}(hq:q∈(lJ n cs).flatten):∃ pre c post u,cs=pre++c :: post/\(1<=u/\u<=n)/\j7 u c/\q=iC (1+pre.length) c u:=by
 rw [<-wD] at hq;obtain⟨pre,c,post,u,e,hu,hi,eq⟩:=(pH _ g).mp hq;exact⟨pre,c,post,u,e,hu,hi,by rw [eq]; simp [rl]⟩
theorem SA(g:Good n cs){k:Nat}(hk:k < cs.length)(w:Int)(hw:w=0\/w=1):∃ q∈(lJ n cs).flatten,q.s=⟨1+(k:Int),w⟩:=by
 have e:cs=cs.take k++cs[k] :: cs.drop (k+1):=by rw [tM,c9]
 have cc:=g.2.2 cs[k] (bP hk);have hl:(cs.take k).length=k:=by rw [di]; lia
 have i1:j7 (ab cs[k]) cs[k]:=.inl rfl;have mem:∀ u,j7 u cs[k]->iC (1+(k:Int)) cs[k] u∈(lJ n cs).flatten:=fun u hi=>by
  rw [<-wD];refine(pH _ g).mpr ⟨cs.take k,cs[k],cs.drop (k+1),u,e,?_,hi,?_⟩
  ·rcases hi with z | z <;> lia
  ·rw [hl]; simp [rl]
 have one:∃ u,j7 u cs[k]/\(iC 0 cs[k] u).b=w:=by
  rcases xK 0 cs[k] (ab cs[k]) with b | b
  ·rcases hw with rfl | rfl
   ·exact⟨_,i1,b⟩
   ·exact⟨_,oD i1,(EH i1).mp b⟩
  ·rcases hw with rfl | rfl
   ·exact⟨_,oD i1,uA i1 b⟩
   ·exact⟨_,i1,b⟩
 obtain⟨u,hi,b⟩:=one;exact⟨_,mem u hi,by rw [wY,b]⟩
theorem HK(g:Good n cs)(C:∀ s∈dS (lJ n cs) 0,0<=h s/\h s < (p:Int)):∀ k:Nat,k < cs.length->0<=h ⟨1+(k:Int),1⟩/\h ⟨1+(k:Int),1⟩ < (p:Int):=fun k hk=>by
 obtain⟨q,hq,e⟩:=SA g hk 1 (.inr rfl);rw [<-e];exact C _ (NC.gX _ 0 hq)
theorem Rel.YH(g:Good n cs)(G:Gs n cs gs)(hp:Pr p)(v:kZ p n.toNat x)(C:∀ s∈dS (lJ n cs) 0,0<=h s/\h s < (p:Int))(C':∀ s∈dS (lJ n cs) 0,0<=h' s/\h' s < (p:Int))
  (a:Rel n cs gs p h x) (b:Rel n cs gs p h' x):∀ s∈dS (lJ n cs) 0,h s=h' s:=fun s hs=>by
 rcases yp _ 0 hs with ⟨q,hq,rfl⟩ | ⟨j,hj,rfl⟩
 ·obtain⟨pre,c,post,u,e,hu,hi,rfl⟩:=JR g hq;have L:=Pd hp v g.2.2 (HK g C) _ a.ln _ pre c post rfl e u hi;have L':=Pd hp v g.2.2 (HK g C') _ b.ln _ pre c post rfl e u hi;rw [wY];rcases xK 0 c u with w | w
  ·rw [w,L.1 w,L'.1 w]
  ·rw [w,L.2 w,L'.2 w]
 ·obtain⟨t,hk,ed,_⟩:=G.row hj;have z1:=a.em j t hk ed;have z2:=b.em j t hk ed;rw [hV,<-z1,<-z2]
end
end D6
end K2
end
section
namespace K2
namespace D6
open K2.P K2.pR K2.Jr
open K2.vO (Pr kZ)
section
variable {n:Int} {cs:List Int} {p:Nat} {h:T2->Int} {x:List Int} {gs:List (List Int)}
theorem Uj(t:Int)(φ:Int->Int):∀ (g:List Int) (y:Int),Lc (i8 cs) t y g->(∀ z∈y :: g,Ln p h (φ z) (fT 1 cs z) (φ (i8 cs z)))->Ln p h (φ y) ((y :: g).flatMap (fT 1 cs)) (φ t)
 | [],y,c,H=>by
  have:=H y (by simp);rw [show i8 cs y=t from c] at this;simpa using this
 | z :: g,y,c,H=>by
  rw [eM];have h1:=H y (by simp);rw [c.1] at h1;exact h1.app (Uj t φ g z c.2 fun w hw=>H w (ao _ hw))
theorem Rel.pairs(G:Gs n cs gs)(R:Rel n cs gs p h x):∀ z∈pairsOf (lJ n cs),h z.1.s=rH p h z.2:=fun z hz=>by
 unfold pairsOf at hz;obtain⟨r,hr,hz⟩:=List.mem_flatMap.mp hz;rw [G.rw] at hr;obtain⟨g,hg,rfl⟩:=List.mem_map.mp hr;have cy:=G.Y3 g hg;have tp:∀ t∈g,1<=t/\t<=n:=fun t ht=>ij.mp (G.U5.mem_iff.mp (List.mem_flatten.mpr ⟨g,hg,ht⟩));have l:∃ v,Ln p h v (g.flatMap (fT 1 cs)) v:=by
  cases g with
  | nil=>exact cy.elim
  | cons t g=>exact⟨_,Uj t (tE x) g t cy fun w hw=>R.ln w (tp w hw)⟩
 have l2:∃ v,Ln p h v (kb (g.flatMap (fT 1 cs))) v:=by
  unfold kb;refine Ln.rot ?_;rw [c9]; exact l
 obtain⟨v,l2⟩:=l2;exact SF l2 z hz
noncomputable def T6(p:Nat)(cs x:List Int)(s:T2):Int :=
 if s.b=0 then tE (qX p (cs.take (s.a.toNat - 1)) x) (if GP cs s.a > 0 then ab (GP cs s.a)+1 else ab (GP cs s.a))
 else (2 * tE (qX p (cs.take (s.a.toNat - 1)) x) (if GP cs s.a > 0 then ab (GP cs s.a)+1 else ab (GP cs s.a)) - tE (qX p (cs.take (s.a.toNat - 1)) x) (if GP cs s.a > 0 then ab (GP cs s.a) else ab (GP cs s.a)+1)) % (p:Int)
noncomputable def hx(p:Nat)(cs:List Int)(gs:List (List Int))(x:List Int)(s:T2):Int:=if s.b=2 then tE x ((gs.getD s.a.toNat []).headD 0) else T6 p cs x s
theorem Kb{c u:Int}(hi:j7 u c):((iC 0 c u).b=0->u=if c > 0 then ab c+1 else ab c)/\((iC 0 c u).b=1->u=if c > 0 then ab c else ab c+1):=by
 have n1:¬ ab c=ab c+1:=by lia
 unfold iC;rcases hi with rfl | rfl
 ·by_cases c0:c > 0 <;> simp [c0,n1]
 ·by_cases c0:c > 0 <;> simp [c0]
theorem Yb{pre post:List Int}{c:Int}(e:cs=pre++c :: post):Lv p (hx p cs gs x) (1+pre.length) c (qX p pre x):=by
 have e1:GP cs (1+(pre.length:Int))=c:=by rw [Int.add_comm]; exact Vw e
 have e2:cs.take ((1+(pre.length:Int)).toNat - 1)=pre:=by
  rw [show (1+(pre.length:Int)).toNat - 1=pre.length by lia,e,List.take_left]
 intro u hi;obtain⟨p1,p2⟩:=Kb hi;refine⟨fun b=>?_,fun b=>?_⟩
 ·unfold hx T6;dsimp only;rw [if_neg (by decide),if_pos rfl,e1,e2,<-p1 b]
 ·have o:=uA hi b;have q1:=(Kb (oD hi)).1 o;unfold hx T6;dsimp only;rw [if_neg (by decide),if_neg (by decide),e1,e2,<-q1,<-p2 b]
theorem PM(g:Good n cs)(G:Gs n cs gs)(hp:Pr p)(v:kZ p n.toNat x)(fx:qX p cs x=x):Rel n cs gs p (hx p cs gs x) x where
 ln:=fun t ht=>by
  have:=C0 (h:=hx p cs gs x) hp v g.2.2 (fun pre c post e=>Yb e) cs [] rfl t ht.1;rw [fx] at this;exact this
 em:=fun k t hk _=>by
  unfold hx;dsimp only;rw [if_pos rfl,aS,az,hk]; rfl
theorem VJ(hp:Pr p)(v:kZ p n.toNat x)(s:T2):0<=hx p cs gs x s/\hx p cs gs x s < (p:Int):=by
 have p0:=hp.pos;unfold hx T6;split
 ·exact DI hp v _
 ·split
  ·exact DI hp (rK hp _ v) _
  ·exact⟨dP _ (by lia),c7 _ (by lia)⟩
theorem X9(g:Good n cs)(G:Gs n cs gs)(hp:Pr p)(v:kZ p n.toNat x)(fx:qX p cs x=x):WT p (lJ n cs) (hx p cs gs x) :=
 ⟨fun s _=>VJ hp v s,(PM g G hp v fx).pairs G⟩
noncomputable def Ae(p:Nat)(cs:List Int)(gs:List (List Int))(h:T2->Int)(t:Int):Int:=match fT 1 cs t with
 | q :: _=>rH p h q
 | []=>h ⟨(gs.idxOf [t]:Nat),2⟩
theorem Pj(t:Int):∀ (g:List Int) (y v:Int),Lc (i8 cs) t y g->(∀ z∈y :: g,fT 1 cs z≠[])->Ln p h v ((y :: g).flatMap (fT 1 cs)) (Ae p cs gs h t) ->
  v=Ae p cs gs h y/\∀ z∈y :: g,Ln p h (Ae p cs gs h z) (fT 1 cs z) (Ae p cs gs h (i8 cs z))
 | [],y,v,c,ne,l=>by
  have l':Ln p h v (fT 1 cs y) (Ae p cs gs h t):=by simpa using l
  have e:v=Ae p cs gs h y:=by
   unfold Ae;cases d:fT 1 cs y with
   | nil=>exact absurd d (ne y (by simp))
   | cons q L=>rw [d] at l'; exact l'.1
  refine⟨e,fun z hz=>?_⟩;obtain rfl:=List.mem_singleton.mp hz;rw [show i8 cs z=t from c,<-e]; exact l'
 | w :: g,y,v,c,ne,l=>by
  rw [eM] at l;obtain⟨v1,a1,a2⟩:=Ln.split l;obtain⟨e1,H⟩:=Pj t g w v1 c.2 (fun z hz=>ne z (ao _ hz)) a2;have e:v=Ae p cs gs h y:=by
   unfold Ae;cases d:fT 1 cs y with
   | nil=>exact absurd d (ne y (by simp))
   | cons q L=>rw [d] at a1; exact a1.1
  refine⟨e,fun z hz=>?_⟩;rcases List.mem_cons.mp hz with rfl | hz
  ·rw [c.1,<-e,<-e1]; exact a1
  ·exact H z hz
theorem U7(G:Gs n cs gs)(C:∀ z∈pairsOf (lJ n cs),h z.1.s=rH p h z.2){t:Int}(ht:1<=t/\t<=n):Ln p h (Ae p cs gs h t) (fT 1 cs t) (Ae p cs gs h (i8 cs t)):=by
 by_cases d:fT 1 cs t=[]
 ·rw [d,vb cs 1 t d]; rfl
 have hm:t∈gs.flatten:=G.U5.mem_iff.mpr (ij.mpr ht);obtain⟨g,hg,Yc⟩:=List.mem_flatten.mp hm;have nd:=Kr G.nd hg;have ne:∀ z∈g,fT 1 cs z≠[]:=fun z hz e=>by
  have:=Dy (G.Y3 g hg) nd hz (vb cs 1 z e);rw [this,pU] at Yc;subst Yc; exact d e
 have l:∃ v,Ln p h v (g.flatMap (fT 1 cs)) v:=by
  obtain⟨v,l,_⟩:=Kq (p:=p) (h:=h) (L:=kb (g.flatMap (fT 1 cs))) (fun z hz=>C z (List.mem_flatMap.mpr ⟨_,by rw [G.rw]; exact bq hg,hz⟩)) 0;have:=Ln.rot (A:=(g.flatMap (fT 1 cs)).drop ((g.flatMap (fT 1 cs)).idxOf (qO (g.flatMap (fT 1 cs))))) ⟨v,l⟩
  rwa [c9] at this
 have cy:=G.Y3 g hg;cases g with
 | nil=>exact cy.elim
 | cons y g =>
  obtain⟨v,l⟩:=l;have e:v=Ae p cs gs h y:=by
   unfold Ae;rw [eM] at l;cases d2:fT 1 cs y with
   | nil=>exact absurd d2 (ne y (by simp))
   | cons q L=>rw [d2] at l; exact l.1
  rw [e] at l;exact(Pj y g y _ cy ne l).2 t Yc
theorem SO(hp:Pr p)(C:∀ s∈dS (lJ n cs) 0,0<=h s/\h s < (p:Int)){q:T3}(hq:q∈(lJ n cs).flatten):0<=rH p h q/\rH p h q < (p:Int):=by
 have p0:=hp.pos;unfold rH;split
 ·exact C _ (NC.gX _ 0 hq)
 ·exact⟨dP _ (by lia),c7 _ (by lia)⟩
theorem Vl(g:Good n cs)(G:Gs n cs gs)(hp:Pr p)(C:WT p (lJ n cs) h):∃ x,kZ p n.toNat x/\qX p cs x=x/\Rel n cs gs p h x:=by
 have dm:∀ {t:Int},1<=t/\t<=n->∀ q∈fT 1 cs t,q∈(lJ n cs).flatten:=fun {t} ht q hq=>by
  rw [<-wD];refine(vp _ g).mem_iff.mpr (List.mem_map.mpr ⟨q,List.mem_flatMap.mpr ⟨t,ij.mpr ht,hq⟩,by simp [rl]⟩)
 have ixe:∀ {k:Nat} {t:Int},gs[k]?=some [t]->gs.idxOf [t]=k:=fun {k t} hk=>by
  have hm:[t]∈gs:=eV hk;have hl:=jf hm;refine VH (t:=t) G.nd ⟨[t],?_,by simp⟩ ⟨[t],hk,by simp⟩;rw [ai hl,List.getElem_idxOf hl]
 have len:((fk n).map (Ae p cs gs h)).length=n.toNat:=by simp [fk]
 have Jm:∀ t,1<=t/\t<=n->tE ((fk n).map (Ae p cs gs h)) t=Ae p cs gs h t:=fun t ht=>by
  unfold tE fk;have hi:t.toNat - 1 < n.toNat:=by lia
  simp only [bA,az,aX,List.getElem?_range hi,DV,Option.getD_some,wK];congr 1; lia
 have rg:∀ t,1<=t/\t<=n->0<=Ae p cs gs h t/\Ae p cs gs h t < (p:Int):=fun t ht=>by
  unfold Ae;cases d:fT 1 cs t with
  | cons q L=>exact SO hp C.1 (dm ht q (by rw [d]; simp))
  | nil =>
   obtain⟨k,hk⟩:=G.one ht d;dsimp only;rw [ixe hk];have:(lJ n cs)[k]?=some []:=by
    rw [G.rw,aX,hk];simp [d,kb]
   have:=qw _ 0 k this;rw [hV] at this;exact C.1 _ this
 have v:kZ p n.toNat ((fk n).map (Ae p cs gs h)):=⟨len,fun z hz=>by
  obtain⟨t,ht,rfl⟩:=List.mem_map.mp hz;exact rg t (ij.mp ht)⟩
 have R:Rel n cs gs p h ((fk n).map (Ae p cs gs h)):=⟨fun t ht=>by
   rw [Jm t ht,Jm _ (y7 cs g.2.2 ht)];exact U7 G C.2 ht,fun k t hk d=>by
   have ht:1<=t/\t<=n:=ij.mp (G.U5.mem_iff.mp (List.mem_flatten.mpr ⟨[t],eV hk,by simp⟩));rw [Jm t ht];unfold Ae;rw [d];dsimp only;rw [ixe hk]⟩
 refine⟨_,v,?_,R⟩;have L:=Pd hp v g.2.2 (HK g C.1) _ R.ln;have ch:=C0 hp v g.2.2 (fun pre c post e=>L _ pre c post rfl e) cs [] rfl;refine Lf (rK hp cs v).1 len fun u hu=>?_;have uP:1<=u/\u<=n:=by lia
 obtain⟨t,ht,et⟩:=uJ g.2.2 cs (fun _ h=>h) u uP;have a:=ch t ht.1;have b:=R.ln t ht;rw [et] at a b;exact Ln.det a b
end
end D6
end K2
end
section
namespace K2
namespace D6
open K2.P
open K2.vO (Pr kZ)
open K2.vP (cT jA sS jx fu iH my kc lR fold_filter)
open K2.NC (hm uQ wm ix Fg A7 kp num gX lO uw)
section
variable {rows:Rows} {p:Nat} {h:T2->Int} {y y':List Int}
noncomputable def hy(rows:Rows)(y:List Int)(s:T2):Int:=num y (ix rows (hm rows s))
noncomputable def fit(p:Nat)(rows:Rows)(y:List Int):Bool:=((names rows).map (A7 rows)).all (kp y (p:Int))
theorem P8(l:List T2)(b:T2):l.foldl vP.eO (l.foldl vP.eO b)=l.foldl vP.eO b:=by
 rw [fold_filter,fold_filter l b];cases (l.filter fun s=>s.b == 1).getLast? <;> rfl
theorem Sk{r:List T3}{z:T3×T3}(hz:z∈r.zip (fe r)):∃ j,∃ hj:j < r.length,z.1=r[j]/\((∃ h':j+1 < r.length,z.2=r[j+1])\/(j+1=r.length/\z.2=r[0]'(by lia))):=by
 obtain⟨j,hj,rfl⟩:=List.mem_iff_getElem.mp hz;have hl:(fe r).length=r.length:=by unfold fe; rw [aw,ck,di]; lia
 rw [vH,hl,Nat.min_self] at hj;refine⟨j,hj,by simp,?_⟩;rcases Nat.lt_or_ge (j+1) r.length with c | c
 ·refine .inl ⟨c,?_⟩;simp only [List.getElem_zip];unfold fe;rw [List.getElem_append_left (by rw [ck]; lia),List.getElem_drop];congr 1; lia
 ·refine .inr ⟨by lia,?_⟩;simp only [List.getElem_zip];unfold fe;rw [List.getElem_append_right (by rw [ck]; lia),List.getElem_take];congr 1;rw [ck]; lia
theorem SV(d:Dr rows){z:T3×T3}(hz:z∈pairsOf rows)(hb:z.2.b=0):hm rows z.2.s=hm rows z.1.s:=by
 unfold pairsOf at hz;obtain⟨r,hr,hz⟩:=List.mem_flatMap.mp hz;obtain⟨lf,rg,e⟩:=pW hr;obtain⟨j,hj,e1,e2⟩:=Sk hz;have j8:r≠[]:=fun z=>by rw [z] at hj; exact absurd hj (bV _)
 have es:bS r (lf.length:Int)=r.map T3.s:=by unfold bS; rw [if_neg j8]
 have nb:∀ b:T2,vP.eO b z.2.s=b:=fun b=>by
  unfold vP.eO;rw [if_neg (show ¬ z.2.s.b=1 from fun e=>by have:z.2.b=1:=e; lia)]
 rw [e1,wm d e hj,jx _ _ _ j8,es];rcases e2 with ⟨h',e2⟩ | ⟨h',e2⟩
 ·rw [e2,wm d e h',jx _ _ _ j8,es];have:(r.map T3.s).take (j+1+1)=(r.map T3.s).take (j+1)++[z.2.s]:=by
   rw [gG (by rw [ag]; exact h'),e2]; simp
  rw [this,e9,bT,md,nb]
 ·rw [e2,wm d e (by lia),jx _ _ _ j8,es];have t1:(r.map T3.s).take (0+1)=[z.2.s]:=by
   rw [gG (by rw [ag]; lia),e2]; simp
  have t2:(r.map T3.s).take (j+1)=r.map T3.s:=tK (by rw [ag]; lia);rw [t1,t2,bT,md,nb];unfold jA;exact(P8 _ _).symm
theorem Ko{n:Nat}(hp:Pr p)(v:kZ p n y)(i:Int):0<=num y i/\num y i < (p:Int):=v.el hp i
theorem W6(d:Dr rows){q:T3}(hq:q∈rows.flatten)(h0:¬ q.b=0):q.b=1:=(d.way q hq).resolve_left h0
theorem TV(d:Dr rows){q:T3}(hq:q∈rows.flatten):q.a∈names rows:=by
 rcases d.way q hq with w | w
 ·exact wd.mpr ⟨q,hq,w,rfl⟩
 ·exact wd.mpr ⟨_,d.Sy q hq,by rw [w]; rfl,rfl⟩
theorem PL(d:Dr rows){n:Nat}(hp:Pr p)(v:kZ p n y)(f:fit p rows y=true):WT p rows (hy rows y):=by
 refine⟨fun s _=>Ko hp v _,fun z hz=>?_⟩;have PK:=hz;unfold pairsOf at PK;obtain⟨r,hr,PK⟩:=List.mem_flatMap.mp PK;have hq:z.2∈rows.flatten:=by
  have:=(vF (show (z.1,z.2)∈_ from PK)).2;refine List.mem_flatten.mpr ⟨r,hr,?_⟩;unfold fe at this;rcases List.mem_append.mp this with m | m
  ·exact List.mem_of_mem_drop m
  ·exact RC m
 unfold rH;by_cases b:z.2.b=0
 ·rw [if_pos b];unfold hy;rw [SV d hz b]
 ·have b1:=W6 d hq b;rw [if_neg b];unfold fit at f;rw [iA] at f;have:=f _ (bq (TV d hq));unfold kp A7 at this;rw [decide_eq_true_iff] at this;have es:(⟨z.2.a,1⟩:T2)=z.2.s:=by rw [<-b1]; rfl
  rw [es,(Jh d (show (z.1,z.2)∈_ from hz)).2] at this;have rg:=Ko hp v (ix rows (hm rows z.1.s));show num y (ix rows (hm rows z.1.s))=(2 * num y (ix rows (hm rows ⟨z.2.a,0⟩)) - num y (ix rows (hm rows z.2.s))) % (p:Int);dsimp only at this;generalize num y (ix rows (hm rows z.1.s))=B at *;generalize num y (ix rows (hm rows z.2.s))=C at *;generalize num y (ix rows (hm rows ⟨z.2.a,0⟩))=A at *;have e:(2 * A - C) % (p:Int)=(B+(2 * A - B - C)) % (p:Int):=by congr 1; lia
  rw [e,kA,this,vV,xh _ (RF _),Cd rg.1 rg.2]
theorem Gj(d:Dr rows){b:T2}(hb:b∈cT rows):∃ s∈dS rows 0,hm rows s=b:=by
 unfold cT at hb;have:=(my rows 0 b).mpr (Cv.mp hb);obtain⟨x,hx,rfl⟩:=List.mem_map.mp this;refine⟨x.1,by rw [<-iH]; exact bq hx,?_⟩;unfold hm;rw [fU (vP.yH d) hx]; rfl
theorem Tq(d:Dr rows):(cT rows).Nodup:=(qv _).nodup_iff.mpr (vP.Ck rows 0 d.nd)
theorem X5(d:Dr rows){i:Nat}(hi:i < (cT rows).length):ix rows (cT rows)[i]=(i:Int):=by
 unfold ix;rw [List.Nodup.idxOf_getElem (Tq d)]
theorem VI(d:Dr rows)(h1:y.length=(cT rows).length)(h2:y'.length=(cT rows).length)(H:∀ s∈dS rows 0,hy rows y s=hy rows y' s):y=y':=by
 refine DZ (by lia) fun i i1 i2=>?_;have hi:i < (cT rows).length:=by lia
 obtain⟨s,hs,e⟩:=Gj d (bP hi);have:=H s hs;unfold hy num at this;rw [e,X5 d hi,aS,az,az,ai i1,ai i2] at this;exact this
end
end D6
end K2
end
section
namespace K2
namespace D6
open K2.P
open K2.vO (Pr kZ vs)
open K2.vP (cT jA sS jx fu iH my kc lR)
open K2.NC (hm uQ wm ix Fg A7 kp num gX lO uw)
section
variable {rows:Rows} {p:Nat} {h:T2->Int} {y y':List Int}
noncomputable def Hn(rows:Rows)(h:T2->Int)(k:Nat):Int:=match (rows.getD k []).getLast? with
 | some q=>h q.s
 | none=>h ⟨(k:Int),2⟩
noncomputable def hb(rows:Rows)(h:T2->Int)(b:T2):Int:=if b.b=2 then Hn rows h b.a.toNat else h b
theorem CZ:∀ {A:List T3} {q:T3} {v v':Int},Ln p h v (A++[q]) v'->v'=h q.s
 | [],_,_,_,l=>l.2.symm
 | _ :: A,_,_,_,l=>CZ (A:=A) l.2
theorem Dc:∀ (L:List T3) {v v':Int} {b:T2},(∀ q∈L,q.b=0\/q.b=1)->Ln p h v L v'->hb rows h b=v->hb rows h ((L.map T3.s).foldl vP.eO b)=v'
 | [],v,v',b,_,l,e=>e.trans l
 | q :: L,v,v',b,w,l,e=>by
  rw [av,bT];refine Dc L (fun x hx=>w x (ao _ hx)) l.2 ?_;unfold vP.eO;rcases w q (by simp) with b0 | b1
  ·rw [if_neg (show ¬ q.s.b=1 from fun z=>by have:q.b=1:=z; lia),e,l.1];unfold rH;rw [if_pos b0]
  ·rw [if_pos (show q.s.b=1 from b1)];unfold hb;rw [if_neg (show ¬ q.s.b=2 from fun z=>by have:q.b=2:=z; lia)]
theorem UU(C:WT p rows h){lf rg:Rows}{r:List T3}(e:rows=lf++r :: rg):Ln p h (Hn rows h lf.length) r (Hn rows h lf.length):=by
 have er:rows.getD lf.length []=r:=by rw [e,az]; simp
 obtain⟨v,l,z⟩:=Kq (p:=p) (h:=h) (L:=r) (fun z hz=>C.2 z (List.mem_flatMap.mpr ⟨r,by rw [e]; simp,hz⟩)) (h ⟨(lf.length:Int),2⟩);have ev:v=Hn rows h lf.length:=by
  unfold Hn;rw [er];cases q:r.getLast? with
  | none =>
   rw [JC] at q;exact z q
  | some x =>
   obtain⟨A,rfl⟩:=List.getLast?_eq_some_iff.mp q;exact CZ l
 rw [<-ev]; exact l
theorem Uc(d:Dr rows)(C:WT p rows h){s:T2}(hs:s∈dS rows 0):hb rows h (hm rows s)=h s:=by
 rcases yp _ 0 hs with ⟨q,hq,rfl⟩ | ⟨j,hj,rfl⟩
 ·obtain⟨r,hr,hqr⟩:=List.mem_flatten.mp hq;obtain⟨lf,rg,e⟩:=pW hr;obtain⟨j,hj,rfl⟩:=List.mem_iff_getElem.mp hqr;have j8:r≠[]:=fun z=>by rw [z] at hj; exact absurd hj (bV _)
  have es:bS r (lf.length:Int)=r.map T3.s:=by unfold bS; rw [if_neg j8]
  have wy:∀ q∈r,q.b=0\/q.b=1:=fun q hq=>d.way q (List.mem_flatten.mpr ⟨r,hr,hq⟩);have l:=UU C e;rw [wm d e hj,jx _ _ _ j8,es];have b0:hb rows h (jA (r.map T3.s) (lf.length:Int))=Hn rows h lf.length:=by
   unfold jA;refine Dc r wy l ?_;unfold hb;rw [if_pos rfl]; rfl
  have et:r.take (j+1)=r.take j++[r[j]]:=gG hj;rw [<-Ni];have l2:=l;rw [<-c9 (j+1) r] at l2;obtain⟨v1,a1,_⟩:=Ln.split l2;have ev:v1=h (r[j]).s:=by rw [et] at a1; exact CZ a1
  rw [<-ev];exact Dc _ (fun q hq=>wy q (RC hq)) a1 b0
 ·have hl:j < rows.length:=by
   rcases Nat.lt_or_ge j rows.length with z | z
   ·exact z
   ·rw [eK z] at hj; cases hj
  have e:rows=rows.take j++[] :: rows.drop (j+1):=by
   have:rows[j]=[]:=by rw [ai hl] at hj; exact bu hj
   rw [<-this,tM,c9]
  have hlen:(rows.take j).length=j:=by rw [di]; lia
  have m:((⟨(j:Int),2⟩:T2),(⟨(j:Int),2⟩:T2))∈fu rows 0:=by
   rw [e];refine uw ?_;rw [hlen];simp [kc,lR,bS,jA,vP.eO]
  have:hm rows ⟨(j:Int),2⟩=⟨(j:Int),2⟩:=by
   unfold hm;rw [fU (vP.yH d) m]; rfl
  rw [hV,this];unfold hb Hn;rw [if_pos rfl];have er:rows.getD (⟨(j:Int),2⟩:T2).a.toNat []=[]:=by
   show rows.getD ((j:Int)).toNat []=[];rw [aS,az,hj]; rfl
  rw [er]; rfl
theorem aao(d:Dr rows)(hp:Pr p)(C:WT p rows h):∃ y,kZ p (cT rows).length y/\fit p rows y=true/\∀ s∈dS rows 0,hy rows y s=h s:=by
 have nb:∀ b∈cT rows,num ((cT rows).map (hb rows h)) (ix rows b)=hb rows h b:=fun b uS=>by
  unfold num ix;have:=jf uS;rw [aS,az,aX,ai this,List.getElem_idxOf this]; rfl
 have ZD:∀ s∈dS rows 0,hy rows ((cT rows).map (hb rows h)) s=h s:=fun s hs=>by
  unfold hy;rw [nb _ (uQ d hs).2];exact Uc d C hs
 refine⟨(cT rows).map (hb rows h),⟨ag _,fun v hv=>?_⟩,?_,ZD⟩
 ·obtain⟨b,uS,rfl⟩:=List.mem_map.mp hv;obtain⟨s,hs,rfl⟩:=Gj d uS;rw [Uc d C hs];exact C.1 s hs
 ·unfold fit;rw [iA];intro t ht;obtain⟨m,hm',rfl⟩:=List.mem_map.mp ht;obtain⟨q,hq,e1⟩:=lO d hm' 1 (.inr rfl);obtain⟨q0,Yj,e0⟩:=lO d hm' 0 (.inl rfl);obtain⟨pq,hpq,hpm⟩:=Fu hq;have c:=C.2 _ hpq;have qb:q.b=1:=congrArg T2.b e1;have qa:q.a=m:=congrArg T2.a e1;unfold rH at c;rw [if_neg (by dsimp only; lia)] at c;unfold kp A7;rw [decide_eq_true_iff];dsimp only at c ⊢;have z1:=ZD q.s (gX _ 0 hq);have z0:=ZD q0.s (gX _ 0 Yj);have zp:=ZD pq.s (gX _ 0 hpm);unfold hy at z1 z0 zp;rw [<-e1,<-e0,(Jh d hpq).2,z1,z0,zp,c,qa,<-e0];have p0:=hp.pos;generalize h q0.s=A;generalize h q.s=B;have e:(2 * A - (2 * A - B) % (p:Int) - B) % (p:Int)=((2 * A - B) - (2 * A - B) % (p:Int)) % (p:Int):=by congr 1; lia
  rw [e,p7,xh _ (RF _),Int.sub_self]; rfl
end
theorem E6{p:Nat}{h h':T2->Int}:∀ {L:List T3} {v v':Int},(∀ q∈L,rH p h q=rH p h' q/\h q.s=h' q.s)->Ln p h v L v'->Ln p h' v L v'
 | [],_,_,_,l=>l
 | q :: L,_,_,H,l=>by
  obtain⟨e1,e2⟩:=H q (by simp);refine⟨l.1.trans e1,?_⟩;rw [<-e2];exact E6 (fun x hx=>H x (ao _ hx)) l.2
theorem Io{α β:Type} [DecidableEq β](R:α->β->Prop):∀ (A:List α) (B:List β),A.Nodup->(∀ a∈A,∃ b∈B,R a b)->(∀ a∈A,∀ a'∈A,∀ b,R a b->R a' b->a=a')->A.length<=B.length
 | [],_,_,_,_=>cb _
 | a :: A,B,nd,ex,one=>by
  rw [cF] at nd;obtain⟨b,hb,r⟩:=ex a (by simp);have:=Io R A (B.erase b) nd.2 (fun a' WJ=>by
   obtain⟨b',uS,r'⟩:=ex a' (ao _ WJ);refine⟨b',(wI fun z=>?_).mpr uS,r'⟩;subst z;have:=one a (by simp) a' (ao _ WJ) _ r r';subst this; exact nd.1 WJ) fun x hx z hz=>one x (ao _ hx) z (ao _ hz)
  rw [qZ hb] at this;have:=tL hb;rw [ak]; lia
theorem mf{p:Nat}:∀ {n:Nat} {y:List Int},y∈vs p n↔kZ p n y
 | 0,y=>by
  constructor
  ·intro h;obtain rfl:y=[]:=by simpa [vs] using h
   exact⟨rfl,by simp⟩
  ·intro h;obtain rfl:=List.length_eq_zero_iff.mp h.1;simp [vs]
 | n+1,y=>by
  have e:vs p (n+1)=(aU p).flatMap fun a:Nat=>(vs p n).map ((a:Int) :: ·):=rfl;rw [e,List.mem_flatMap];constructor
  ·rintro⟨a,ha,h⟩;obtain⟨z,hz,rfl⟩:=List.mem_map.mp h;have v:=mf.mp hz;have:=List.mem_range.mp ha;refine⟨by rw [ak,v.1],fun w hw=>?_⟩;rcases List.mem_cons.mp hw with rfl | hw
   ·lia
   ·exact v.2 w hw
  ·intro h;cases y with
   | nil=>cases h.1
   | cons a y =>
    have ha:=h.2 a (by simp);refine⟨a.toNat,List.mem_range.mpr (by lia),List.mem_map.mpr ⟨y,mf.mpr ⟨by simpa using h.1,fun v hv=>h.2 v (by simp [hv])⟩,?_⟩⟩;rw [oV ha.1]
theorem N8{p:Nat}:∀ n,(vs p n).Nodup
 | 0=>by simp [vs]
 | n+1=>by
  show ((aU p).flatMap fun a:Nat=>(vs p n).map ((a:Int) :: ·)).Pairwise _;rw [Q4];refine⟨fun a _=>?_,?_⟩
  ·rw [eI];exact(N8 n).imp fun h z=>h (by injection z)
  ·refine List.nodup_range.imp fun {a b} h x hx y hy z=>?_;obtain⟨x',_,rfl⟩:=List.mem_map.mp hx;obtain⟨y',_,rfl⟩:=List.mem_map.mp hy;injection z with z _
   exact h (by lia)
theorem OA{n:Int}{cs:List Int}{p:Nat}(g:pR.Good n cs)(hp:Pr p)(d:Dr (pR.lJ n cs)) :
  ((vs p (cT (pR.lJ n cs)).length).filter (fit p (pR.lJ n cs))).length=((vs p n.toNat).filter fun x=>decide (qX p cs x=x)).length:=by
 obtain⟨gs,G⟩:=Ue g;refine Nat.le_antisymm (Io (fun y x=>kZ p n.toNat x/\Rel n cs gs p (hy (pR.lJ n cs) y) x) _ _ ((N8 _).filter _) (fun y T1=>?_) fun y T1 y' abz x r r'=>?_)
  (Io (fun x y=>Rel n cs gs p (hy (pR.lJ n cs) y) x) _ _ ((N8 _).filter _) (fun x hx'=>?_) fun x hx' x' abC y r r'=>?_)
 ·obtain⟨h1,h2⟩:=List.mem_filter.mp T1;obtain⟨x,v,fx,R⟩:=Vl g G hp (PL d hp (mf.mp h1) h2);exact⟨x,List.mem_filter.mpr ⟨mf.mpr v,decide_eq_true fx⟩,v,R⟩
 ·obtain⟨h1,h2⟩:=List.mem_filter.mp T1;obtain⟨YN,Mw⟩:=List.mem_filter.mp abz;have v1:=mf.mp h1;have v2:=mf.mp YN;exact VI d v1.1 v2.1 (Rel.YH g G hp r.1 (PL d hp v1 h2).1 (PL d hp v2 Mw).1 r.2 r'.2)
 ·obtain⟨h1,h2⟩:=List.mem_filter.mp hx';have v:=mf.mp h1;have fx:=of_decide_eq_true h2;obtain⟨y,vy,fy,e⟩:=aao d hp (X9 g G hp v fx);refine⟨y,List.mem_filter.mpr ⟨mf.mpr vy,fy⟩,?_⟩;have R:=PM g G hp v fx;have same:∀ q∈(pR.lJ n cs).flatten,hy (pR.lJ n cs) y q.s=hx p cs gs x q.s:=fun q hq=>e _ (gX _ 0 hq);have sm:∀ q∈(pR.lJ n cs).flatten,rH p (hx p cs gs x) q=rH p (hy (pR.lJ n cs) y) q:=fun q hq=>by
   obtain⟨q0,Yj,e0⟩:=lO d (TV d hq) 0 (.inl rfl);unfold rH;rw [<-e0,same q hq,same q0 Yj]
  refine⟨fun t ht=>E6 (fun q hq=>?_) (R.ln t ht),fun k t hk ed=>?_⟩
  ·have VL:q∈(pR.lJ n cs).flatten:=by
    rw [<-wD];exact(Jr.vp _ g).mem_iff.mpr (List.mem_map.mpr ⟨q,List.mem_flatMap.mpr ⟨t,Jr.ij.mpr ht,hq⟩,by simp [Jr.rl]⟩)
   exact⟨sm q VL,(same q VL).symm⟩
  ·have er:(pR.lJ n cs)[k]?=some []:=by
    rw [G.rw,aX,hk];simp [ed,pR.kb]
   have:=qw _ 0 k er;rw [hV] at this;rw [R.em k t hk ed,e _ this]
 ·obtain⟨h1,_⟩:=List.mem_filter.mp hx';obtain⟨YN,_⟩:=List.mem_filter.mp abC;exact Rel.W3 G (mf.mp h1).1 (mf.mp YN).1 r r'
end D6
end K2
end
section
namespace K2
open PySem (Str)
open Enc (enc)
namespace D6
open K2.P
open K2.QZ (jt xb iG)
open K2.vP (NB cT eq_int lu mI)
open K2.NC (A7 kp)
open K2.vO (vs yd xE Pr kZ Hv eQ Ny HG t7 eqT JZ Lm dot kg BV)
open K2.pR (Good lJ ab lW gm Ii vn)
theorem Zp{n:Nat}(h:n<=100000):n<=SZ:=by unfold SZ; lia
noncomputable def BA(a:List Int):D:=.dJ (a.map D.int)
noncomputable def Wx(a:List Int)(x:Nat):List Int:=a++[(x:Int)]
noncomputable def Xi(p:Nat)(a:List Int):List (List Int):=(aU p).map (Wx a)
theorem W4(p n:Nat):vs p (n+1)=(vs p n).flatMap (Xi p):=xE n
theorem Cw{p:Nat}:∀ l:List (List Int),(l.flatMap (Xi p)).length=p * l.length
 | []=>by simp
 | a :: l=>by
  rw [eM,aw,Cw l,ak,Nat.mul_succ];unfold Xi;rw [ag,e7]; lia
theorem JG{p:Nat}:∀ n,(vs p n).length=p ^ n
 | 0=>rfl
 | n+1=>by rw [W4,Cw,JG n,Rz,RA]
theorem nH{p k:Nat}(hp:Pr p)(hk:k<=3):(vs p k).length<=343:=by
 rw [JG];have h1:=Nat.pow_le_pow_right hp.pos hk;have h2:p ^ 3<=343:=by rcases hp with rfl | rfl | rfl <;> decide
 lia
noncomputable def wW:iO :=
 (cw (bK (gB (ku (aI (ku bx) bx))) (aM 2))
 (cw (gO (uM (au 0)) (aM 3) (cw (bK (ku bx) (aM 4))
 (cw (gO (nY (au 2)) (aM 5) (fF (tN vN lP (au 4) (aI (fm 1 [5] (uM (au 1)) (aM 0) none (gB (br pX (au 1) (ku (aI (au 0) bx))))) bx))))
 (bK (gB (au 4)) (aM 2)))))
 (dN (gB (au 2)))))
noncomputable def ny:om:=fun ds G Q _=>∃ p k:Nat,ds=[.int (k:Nat),.int (p:Nat)]/\(Pr p/\k<=3)/\Q (.dJ ((vs p k).map BA)) G
theorem Gz(ds:List D)(G:Gp)(Q:DK)(h:ny ds G Q fun _ _=>False):wW (fun _ _=>False) (ends Q) (bG 6 ds) G:=by
 obtain⟨p,k,rfl,⟨hp,hk⟩,q⟩:=h;have p10:=Hv hp;unfold wW;simp only [ends,bG,av,bc,ak,aG,aK,aP,aW,cQ,bK,gB,ku,aI,bx,aM,ay,aq];refine⟨by decide,fun pa fa=>⟨by decide,fun pb fb=>?_⟩⟩;have la:gz G (c6 (c6 G pa (.lst [])) pb (.lst [.ref pa])):=(gz.new fa).trans (.new fb);have fb':G pb=none:=by
  cases e:G pb with
  | none=>rfl
  | some o=>have:=(gz.new (o:=.lst []) fa) _ _ e; rw [this] at fb; cases fb
 refine sY la fb' aH (.cons (.ref ((gz.new fb) _ _ aH) (by simp [fa]) .nil) .nil) ?_;refine fO (fun τ G'=>G=G'/\∃ a b c,τ=[some (.int (k:Nat)),some (.int (p:Nat)),some (.dJ ((vs p k).map BA)),a,b,c]) ?_ ?_
 ·intro N hN;simp only [gO,kU,au,aa,ju,aS];refine⟨by lia,by lia,?_⟩;refine P7 (fun pre τ G'=>G=G'/\∃ a b c,τ=[some (.int (k:Nat)),some (.int (p:Nat)),some (.dJ ((vs p pre.length).map BA)),a,b,c]) ⟨rfl,_,_,_,rfl⟩ (fun _ _ _ _=>trivial) ?_ ?_
  ·rintro pre x post τ G' N2 e ⟨rfl,a,b,c,rfl⟩ lQ;obtain⟨rfl,hj⟩:=sN e;simp only [aM,ay,aq,Et,bK,ku,bx,aG];refine⟨by decide,fun p3 f3=>?_⟩;simp only [gO];simp only [fA,au,af,aa,uO];have hz:=nH (k:=pre.length) hp (by lia);refine gh (xs:=vs p pre.length) (f:=BA) (fun OU τ G2=>gz G G2/\G2 p3=some (.lst ((OU.flatMap (Xi p)).map BA))/\∃ c,τ=[some (.int (k:Nat)),some (.int (p:Nat)),some (.dJ ((vs p pre.length).map BA)),some (.int (pre.length:Int)),some (.ref p3),c]) ⟨.new f3,aH,_,rfl⟩ (fun _ _ _ _=>trivial) ?_ ?_
   ·rintro OU a2 ac4 τ G2 N3 e2 ⟨l2,g2,c,rfl⟩ Ro;have hlp:OU.length<=(vs p pre.length).length:=by rw [e2]; simp
    have hal:a2.length=pre.length:=yd (p:=p) (by rw [e2]; simp);simp only [aM,fF,tN,au,ay,aq,af,aa,nj,g2,aI,fm,bx,kS,kU,ju,aS,true_and];refine⟨by lia,by lia,Zp (by simp [dQ]; lia),?_⟩;refine iy (xs:=aU p) (f:=fun i:Nat=>D.int (0+(i:Int))) (fun pr acc τ G3=>G2=G3/\(∃ a,τ=[a,some (BA a2)])/\acc=(pr.map (Wx a2)).map BA) ⟨rfl,⟨_,rfl⟩,rfl⟩ (fun _ _ _ _ _=>trivial) ?_ ?_
    ·rintro pr w po acc τ G3 N4 e3 ⟨rfl,⟨a,rfl⟩,rfl⟩ hN4;unfold BA;simp only [aM,gB,br,au,Int.zero_add,aq,af,aa,ku,aI,bx,ak,aG,ur];refine⟨by decide,fun pc fc=>?_⟩;refine Ll IsL.dJ (IsL.ref aH) (Zp (by rw [ag,hal]; show _+1<=100000; lia)) fun pd fd=>?_;have fd':G2 pd=none:=by
      cases e:G2 pd with
      | none=>rfl
      | some o=>have:=(gz.new (o:=.lst [.int (w:Nat)]) fc) _ _ e; rw [this] at fd; cases fd
     refine sY ((gz.new fc).trans (.new fd)) fd' aH (DS.same _) ?_;refine hN4 _ _ _ ⟨rfl,⟨_,rfl⟩,?_⟩;rw [aA,aA];unfold BA Wx;simp only [av,bc,aA]
    ·rintro acc τ G3 ⟨rfl,⟨a,rfl⟩,rfl⟩ pc fc;have n3:p3≠pc:=fun z=>by rw [<-z,g2] at fc; cases fc
     have g3:(c6 G2 pc (.lst (((aU p).map (Wx a2)).map BA))) p3=some (.lst ((OU.flatMap (Xi p)).map BA)):=by rw [dh n3]; exact g2
     have lo:oA (.ref pc) (c6 G2 pc (.lst (((aU p).map (Wx a2)).map BA)))=some (((aU p).map (Wx a2)).map BA):=by unfold oA; simp only [aH]
     simp only [g3,lo];refine⟨Zp ?_,?_⟩
     ·rw [ag,ag,ag,e7,Cw];have:p * OU.length<=9 * 343:=Nat.mul_le_mul (by lia) (by lia);lia
     ·refine Ro _ _ ⟨(l2.trans (.new fc)).put f3,?_,_,rfl⟩;rw [aH,List.flatMap_append,List.flatMap_singleton,aA]; rfl
   ·rintro τ G2 ⟨l2,g2,c,rfl⟩;simp only [bK,gB,au,af,aa,aM,ay,aq];refine sY l2 f3 g2 (DS.same _) ?_;refine lQ _ _ ⟨rfl,some (.int (pre.length:Int)),some (.ref p3),c,?_⟩;rw [aw,bF,W4]
  ·rintro τ G' ⟨rfl,a,b,c,rfl⟩;have er:(dQ 0 k).length=k:=by simp [dQ]
   rw [er];exact hN _ _ ⟨rfl,_,_,_,rfl⟩
 ·rintro _ _ ⟨rfl,a,b,c,rfl⟩;simp only [dN,gB,au,af,aa];exact sE q
theorem BL{x:List Int}{j:Int}(h:0<=j/\j < x.length):pJ (x.map D.int) j=some (.int (x.getD j.toNat 0)):=BV h
noncomputable def qI:iO :=
 (cw (bK (sG xc (aI (au 0) bx)) (aM 3))
 (cw (gO (nY (au 1)) (aM 4) (cw (bK (sG cAbs (aI (au 4) bx)) (aM 5))
 (cw (bK (br j6 (au 3) (br uk (au 5) (dC (.int 1)))) (aM 6))
 (cw (bK (br j6 (au 3) (au 5)) (aM 7))
 (kY (iI (br TN (au 4) (dC (.int 0)))) (cw (bK (au 7) (lA (au 3) (br uk (au 5) (dC (.int 1)))))
 (bK (br sO (br uk (br v3 (dC (.int 2)) (au 7)) (au 6)) (au 2)) (lA (au 3) (au 5)))) (cw (bK (au 6) (lA (au 3) (au 5)))
 (bK (br sO (br uk (br v3 (dC (.int 2)) (au 6)) (au 7)) (au 2)) (lA (au 3) (br uk (au 5) (dC (.int 1)))))))))))
 (dN (gB (au 3)))))
noncomputable def jF:om:=fun ds G Q _=>∃ (p m:Nat) (x cs:List Int),ds=[BA x,.dJ (cs.map D.int),.int (p:Nat)]/\(Pr p/\kZ p m x/\m<=3/\∀ c∈cs,1<=ab c/\ab c < m)/\Q (BA (qX p cs x)) G
theorem zU(ds:List D)(G:Gp)(Q:DK)(h:jF ds G Q fun _ _=>False):qI (fun _ _=>False) (ends Q) (bG 8 ds) G:=by
 obtain⟨p,m,x,cs,rfl,⟨hp,v,hm,hc⟩,q⟩:=h;have p0:=hp.pos;have p10:=Hv hp;unfold qI;simp only [ends,bG,av,bc,ak,aG,aK,aP,aW,cQ,bK,sG,aI,au,aa,bx,aM,ay,aq];refine Gi IsL.dJ fun pa fa=>?_;refine fO (fun τ G'=>(gz G G'/\G' pa=some (.lst ((qX p cs x).map D.int)))/\∃ a b c d,τ=[some (BA x),some (.dJ (cs.map D.int)),some (.int (p:Nat)),some (.ref pa),a,b,c,d]) ?_ ?_
 ·intro N hN;simp only [gO,fA,au,af,aa,uO];refine gh (xs:=cs) (fun pre τ G'=>(gz G G'/\G' pa=some (.lst ((qX p pre x).map D.int)))/\∃ a b c d,τ=[some (BA x),some (.dJ (cs.map D.int)),some (.int (p:Nat)),some (.ref pa),a,b,c,d]) ⟨⟨.new fa,aH⟩,_,_,_,_,rfl⟩ (fun _ _ _ _=>trivial) ?_ ?_
  ·rintro pre c post τ G' N2 e ⟨⟨le,gp⟩,a1,a2,a3,a4,rfl⟩ lQ;have cc:=hc c (by rw [e]; simp);have v':=rK hp pre v;have ec:qX p (pre++[c]) x=Nx p (qX p pre x) c:=by rw [Ld]; rfl
   generalize qX p pre x=z at *;simp only [aM,ay,aq,Et,bK,sG,aI,au,af,aa,bx,br,dC,lu,eC,uo,cH,vn,kP];have k1:(ab c).toNat < z.length:=by rw [v'.1]; lia
   have k0:(ab c).toNat - 1 < z.length:=by lia
   have i1:ab c=(((ab c).toNat:Nat):Int):=by lia
   have i0:ab c - 1=(((ab c).toNat - 1:Nat):Int):=by lia
   refine mx (IsL.ref gp) (BL (j:=ab c - 1) ⟨by lia,by lia⟩) ?_;refine mx (IsL.ref gp) (BL (j:=ab c) ⟨by lia,by lia⟩) ?_;rw [show (ab c - 1).toNat=(ab c).toNat - 1 by lia];have r1:=v'.el hp (((ab c).toNat:Nat):Int);have r0:=v'.el hp (((ab c).toNat - 1:Nat):Int);unfold vO.el at r1 r0;rw [aS] at r1 r0;have st:∀ (G4:Gp) (zs:List Int) (j:Int) (jn:Nat) (w:Int) (Z:Gp->Prop),j=(jn:Nat)->G4 pa=some (.lst (zs.map D.int))->jn < zs.length->Z (c6 G4 pa (.lst ((zs.set jn w).map D.int)))->sr (.ref pa) (.int j) (.int w) G4 Z:=fun G4 zs j jn w Z ej g4 hj hZ=>by
    subst ej;refine kg g4 (by rw [ag]; exact hj) ?_;rw [<-pV (f:=D.int)]; exact hZ
   by_cases c0:c > 0
   ·simp only [c0,decide_true,lA,au,af,aa,br,dC,bK,kQ,kP,i5,if_true];refine st _ _ _ _ _ _ i0 gp k0 ?_;refine⟨.inl ⟨by decide,by decide⟩,by lia,?_⟩;refine st _ _ _ _ _ _ i1 aH (by rw [dO]; exact k1) ?_;refine lQ _ _ ⟨⟨(le.put fa).put fa,?_⟩,_,_,_,_,rfl⟩;rw [aH,ec];unfold Nx;rw [if_pos c0]
   ·simp only [c0,decide_false,aQ,lA,au,af,aa,br,dC,bK,kQ,kP,i5,if_false];refine st _ _ _ _ _ _ i1 gp k1 ?_;refine⟨.inl ⟨by decide,by decide⟩,by lia,?_⟩;refine st _ _ _ _ _ _ i0 aH (by rw [dO]; exact k0) ?_;refine lQ _ _ ⟨⟨(le.put fa).put fa,?_⟩,_,_,_,_,rfl⟩;rw [aH,ec];unfold Nx;rw [if_neg c0]
  ·rintro τ G' ⟨h1,a,b,c,d,rfl⟩;exact hN _ _ ⟨h1,_,_,_,_,rfl⟩
 ·rintro _ G' ⟨⟨le,gp⟩,a,b,c,d,rfl⟩;simp only [dN,gB,au,af,aa];exact sY le fa gp (DS.same _) q
theorem Wg{n:Int}{cs:List Int}{p:Nat}(g:Good n cs)(hp:Pr p)(d:Dr (lJ n cs)):p ^ (Ny p (lJ n cs)).length=((vs p n.toNat).filter fun x=>decide (qX p cs x=x)).length:=by
 rw [<-OA g hp d];have h:=JZ hp (t7 hp (lJ n cs)).1;unfold Ny;rw [ag,<-h,<-List.countP_eq_length_filter];refine rj fun y T1=>?_;rw [decide_eq_true_iff,(t7 hp (lJ n cs)).2];unfold fit;rw [iA];have rH:∀ t∈(names (lJ n cs)).map (A7 (lJ n cs)),∀ y:List Int,kp y (p:Int) t=decide (dot (eqT p (cT (lJ n cs)).length t) y % (p:Int)=0):=fun t ht y=>by
  obtain⟨m,hm,rfl⟩:=List.mem_map.mp ht;have:=NC.Cr d (ns:=aK (cT (lJ n cs)).length 0) (by simp) hm;have a:=this.a;have b:=this.b;have c:=this.c;rw [da] at a b c;unfold eqT kp;rw [vO.S6,vO.S7 (by lia) (by lia) (by lia)]; rfl
 constructor
 ·intro z t ht;rw [rH t ht,decide_eq_true_iff];exact z _ (bq ht)
 ·intro z e he;obtain⟨t,ht,rfl⟩:=List.mem_map.mp he;have:=z t ht
  rwa [rH t ht,decide_eq_true_iff] at this
end D6
end K2
end
section
namespace K2
open PySem (Str)
open Enc (enc)
namespace D6
open K2.P
open K2.QZ (jt xb iG)
open K2.vP (NB cT eq_int lu mI)
open K2.vO (vs Pr kZ Hv eQ Ny)
open K2.pR (Good lJ ab lW gm Ii)
theorem Pe{n:Int}{ns:List Int}(hn:1<=n/\n<=3)(hl:ns.length<=12):Good n (Ii n ns):=by
 refine⟨hn,?_,fun c hc=>?_⟩
 ·unfold Ii; split <;> simp <;> lia
 ·unfold Ii at hc;split at hc
  ·rename_i h;obtain⟨x,hx,rfl⟩:=List.mem_map.mp hc;unfold pR.GP;have m1:0<=x / 2 % (n - 1):=dP _ (by lia);have m2:x / 2 % (n - 1) < n - 1:=c7 _ (by lia);generalize x / 2 % (n - 1)=y at *;have m3:x % 2=0\/x % 2=1:=by lia
   unfold ab;rcases m3 with e | e <;> rw [e] <;> split <;> lia
  ·cases hc
theorem Wd{n:Int}{cs:List Int}(g:Good n cs):Dr (lJ n cs):=by
 have d:=Jr.Wm (fun _=>false) g
 rwa [wD] at d
theorem Wc{n:Int}{cs:List Int}(g:Good n cs):NB (lJ n cs):=fun q hq=>by
 obtain⟨pre,c,post,u,e,hu,hi,rfl⟩:=JR g hq;have h1:=g.2.1;rw [e,aw,ak] at h1;show 1<=1+(pre.length:Int)/\1+(pre.length:Int)<=999;lia
theorem Wb{n:Int}{cs:List Int}(g:Good n cs):lJ n cs≠[]:=fun z=>by
 obtain⟨gs,G⟩:=Ue g;have e:=G.rw;rw [z] at e;have:gs=[]:=by simpa using e.symm
 have p:=G.U5;rw [this] at p;have h:=p.mem_iff.mpr (Jr.ij.mpr (show 1<=(1:Int)/\(1:Int)<=n from⟨by decide,g.1.1⟩));cases h
noncomputable def UM:om:=Bb
noncomputable def OH:iO :=
 (cw (bK (cE jt (aI (au 0) (aI (dC (.int 0)) bx))) (aM 1))
 (cw (bK (br pX (dC (.int 1)) (br sO (au 1) (dC (.int 3)))) (aM 2))
 (cw (bK (br j6 (mH (aI (dC (.int 3)) (aI (dC (.int 5)) (aI (dC (.int 7)) bx)))) (br sO (br EF (au 1) (dC (.int 3))) (dC (.int 3)))) (aM 3))
 (cw (bK (gB (cE gm (aI (Je (au 0) (qW (dC (.int 1))) (qW (dC (.int 13)))) (aI (au 2) bx)))) (aM 4))
 (cw (bK (gB (sG xc (aI (au 4) bx))) (aM 5))
 (cw (bK (cE lW (aI (au 5) (aI (au 2) bx))) (aM 6))
 (cw (bK (sG xx (aI (fm 1 [4,3] (nY (cE ny (aI (au 2) (aI (au 3) bx)))) (aM 0) (some (iI (br (GN false) (cE jF (aI (au 0) (aI (au 1) (aI (au 2) bx)))) (au 0)))) (au 0)) bx)) (aM 7))
 (cw (bK (cE eQ (aI (au 6) (aI (au 3) bx))) (aM 8))
 (dN (gB (BX (cE iG (aI (au 8) bx)) (BX (br (GN false) (au 8) (au 7)) (br (GN false) (au 5) (au 4))))))))))))))
theorem Ws(ds:List D)(G:Gp)(Q:DK)(h:UM ds G Q fun _ _=>False):OH (fun _ _=>False) (ends Q) (bG 9 ds) G:=by
 obtain⟨ns,rfl,hl,hG,q⟩:=h;unfold OH;simp only [ends,bG,av,bc,ak,aG,aK,aP,aW,cQ,bK,cE,aI,au,aa,dC,bx,aM,ay,aq,br,af,mH,gB,Je,sG,fm,dN,zG,fA,CK,oI,mC];refine⟨ns,0,rfl,yb _,?_⟩;generalize xb ns 0=fi;simp only [v5,i5,i6,kR];have i1:=dP (fi / 3) (show (3:Int)≠0 by decide);have i2:=c7 (fi / 3) (show (0:Int) < 3 by decide);generalize fi / 3 % 3=ii at i1 i2;obtain⟨p,hp,ha⟩:∃ p:Nat,Pr p/\pJ [D.int 3,D.int 5,D.int 7] ii=some (.int (p:Nat)):=by
  have:ii=0\/ii=1\/ii=2:=by lia
  rcases this with rfl | rfl | rfl
  ·exact⟨3,.inl rfl,rfl⟩
  ·exact⟨5,.inr (.inl rfl),rfl⟩
  ·exact⟨7,.inr (.inr rfl),rfl⟩
 rw [ha];have p0:=hp.pos;have p10:=Hv hp;have n01:1<=1+fi % 3/\1+fi % 3<=3:=by
  have:=dP fi (b:=3) (by decide);have:=c7 fi (b:=3) (by decide);lia
 generalize 1+fi % 3=n at *;have C8:(cut ns (some 1) (some 13)).length<=12:=by
  unfold cut;rw [show i4 ns.length 0 (some 1)=min 1 ns.length from rfl,show i4 ns.length ns.length (some 13)=min 13 ns.length from rfl];simp only [di,ck]; lia
 refine⟨by decide,by decide,by decide,by decide,by decide,?_⟩;dsimp only;rw [pA];intro p1 h1;generalize cut ns (some 1) (some 13)=xs at *;refine⟨.ref p1,xs,n,rfl,IsL.ref aH,⟨by lia,by lia⟩,fun p2 h2=>?_⟩;have g:=Pe n01 C8;generalize Ii n xs=cs at *;have g1:gz (c6 G p1 (.lst (xs.map D.int))) (c6 (c6 G p1 (.lst (xs.map D.int))) p2 (.lst (cs.map D.int))):=.new h2;refine sY g1 h2 aH (DS.same _) ?_;generalize c6 G p1 (.lst (xs.map D.int))=G1;refine Gi IsL.dJ fun p3 h3=>?_;refine sY (.new h3) h3 aH (DS.same _) ?_;refine⟨cs,n,rfl,g,?_⟩;have d:=Wd g;have en:n=((n.toNat:Nat):Int):=by lia
 refine⟨p,n.toNat,by rw [<-en],⟨hp,by lia⟩,?_⟩;have fw:=nH (k:=n.toNat) hp (by lia);have cl:=Wg g hp d;simp only [uO];refine⟨Zp (by rw [ag]; lia),?_⟩;refine iy (xs:=vs p n.toNat) (f:=BA) (fun pre acc τ G'=>G1=G'/\(∃ u,τ=[u,some (.dJ (cs.map D.int)),some (.int (p:Nat))])/\acc=(pre.filter fun x=>decide (qX p cs x=x)).map BA) ⟨rfl,⟨_,rfl⟩,rfl⟩ (fun _ _ _ _ _=>trivial) ?_ ?_
 ·rintro pre y post acc τ G' N e ⟨rfl,⟨u,rfl⟩,rfl⟩ hN;have v:=mf.mp (show y∈vs p n.toNat by rw [e]; simp);simp only [aM,aq,au,aa,eC,br,cE,aI,af,bx];refine⟨p,n.toNat,y,cs,rfl,⟨hp,v,by lia,fun c hc=>?_⟩,?_⟩
  ·have:=g.2.2 c hc;lia
  ·show GN false (enc (qX p cs y)) (enc y) _ _;refine uq (by decide) ?_;have ef:(pre++[y]).filter (fun x=>decide (qX p cs x=x))=pre.filter (fun x=>decide (qX p cs x=x))++(if qX p cs y=y then [y] else []):=by
    rw [cZ,iz,oQ];simp only [decide_eq_true_iff]
   by_cases c:qX p cs y=y
   ·simp only [aQ,c,decide_true,cS,if_false,cH,if_true];refine hN _ _ _ ⟨rfl,⟨_,rfl⟩,?_⟩;rw [ef,if_pos c,aA]; rfl
   ·simp only [aQ,c,decide_false,fN,if_false,cH];refine hN _ _ _ ⟨rfl,⟨_,rfl⟩,?_⟩;rw [ef,if_neg c,bU]
 ·rintro acc τ G' ⟨rfl,⟨u,rfl⟩,rfl⟩ p4 h4;refine DE (IsL.ref aH) ?_;rw [ag,<-cl];refine⟨lJ n cs,p,rfl,⟨d,Wc g,Wb g⟩,hp,?_⟩;refine⟨_,rfl,?_⟩;simp only [cH,if_true];refine⟨_,_,.int _,.int _,?_⟩;have cst:((p ^ (Ny p (lJ n cs)).length:Nat):Int)=(p:Int) ^ (Ny p (lJ n cs)).length:=Int.natCast_pow _ _;rw [eq_int,decide_eq_true cst.symm];simp only [aQ,cS,if_false,cH,if_true];show GN false (enc cs) (enc cs) _ _;refine uq (by decide) ?_;simp only [aQ,decide_true,cS,if_false];exact sE (q _)
end D6
end K2
end
namespace Fin
open PySem PySem.Spec PyProof.Rows L2 K2
open K2.QZ
open K2.vP
open K2.NC
open K2.vO
open K2.D6
open K2.pR
open K2.P
noncomputable def top(i:Nat):Stmt:=PySem.Challenge.pw_knotwise_k56_whole_braids_by_their_tops.main.body.getD i (.Pass ⟨0,0,0,0⟩)
section
variable {P:bE} {w:World} {K:ah} {mg:Str->Option Value} {base:Heap}
theorem Ey:cG ["_law_script","_law_k"] ["_law_script","_law_k"] (a9 (top 38)):=su
theorem FF {f:Addr} {fd:aJ} (F:oS K "_law_cell" "_law_cell" (top 38) f fd) (jm:mg "len" = none):fV P w K mg base gP 1 f fd ["_law_script","_law_k"] (dj K jt) :=
 sF F Ey GA fun _ _ _ _ _ _ hr=>have hu:=hr.units; have hu0:=hr.Oa; (aF (km (fH (O1 hu0) (bC 1) (gu oJ rfl jm zL (ax (bC 0) aO)) (gW _)) (aZ (cN (cP (dg hu (bC 0) (bC 1) (fun _ _=>rfl))))) gL)
 (aZ (cN (cP aY))))
theorem qA:cG ["_law_cells","_law_strands","_law_found","_law_cell_here"] ["_law_cells","_law_strands"] (a9 (top 40)):=su
theorem zu {f:Addr} {fd:aJ} (F:oS K "_law_letters" "_law_letters" (top 40) f fd):fV P w K mg base gP 1 f fd ["_law_cells","_law_strands"] (dj K gm) :=
 sF F qA zT fun _ _ _ _ _ _ hr=>have nd:=qA.nd; (aF (kj (i:=2) nd rfl (g7 aO))
 (aF (fI bZ rfl (fJ (bC 0)) (o4 (i:=3) nd rfl) (aZ (km (fH yL (bC 1) aY (gW _)) (aZ (gM (jM bR gF gE gk mD (bC 2) (ax (cO nE (cO kE aY (cO jN (cO EN (bC 3) aY) (cO kD (bC 1) aY))) (cO kD aY (cO nE aY (cO jN (bC 3) aY)))) aO)))) gL)))
 (aZ (cN (cP (bC 2))))))
theorem mj:cG ["letters","strands","letter"] ["letters","strands"] (a9 (top 32)):=su
theorem sZ {f:Addr} {fd:aJ} (F:oS K "refuse_no_braid" "refuse_no_braid" (top 32) f fd) (lj:mg "abs" = none) (jm:mg "len" = none) {mh:Tok} (xu:mg "MOST_STRANDS" = some (.int 3 mh)) {mi:Tok} (xw:mg "MOST_LETTERS" = some (.int 12 mi)):fV P w K mg base gP 1 f fd ["letters","strands"] (dj K gH) :=
 sF F mj tG fun _ _ _ _ _ _ hr=>have nd:=mj.nd; have hu0:=hr.Oa; (aF (km (xJ (Bs HX HX aY (bC 1) (Kl rfl xu))) (aZ rC) gL)
 (aF (km (fH yL (gu oJ rfl jm zL (ax (bC 0) aO)) (Kl rfl xw) (gW _)) (aZ rC) gL)
 (aZ (fI bZ rfl (fJ (bC 0)) (o4 (i:=2) nd rfl) (aZ (km (xJ (Bs HX (O1 hu0) aY (gu rL rfl lj DH (ax (bC 2) aO)) (bC 1))) (aZ rC) gL))))))
theorem sv:cG ["name","letter","place","from_right","way"] ["name","letter","place"] (a9 (top 33)):=su
theorem Ax {f:Addr} {fd:aJ} (F:oS K "passing_at" "passing_at" (top 33) f fd) (lj:mg "abs" = none):fV P w K mg base gP 1 f fd ["name","letter","place"] (dj K kB) :=
 sF F sv AU fun _ _ _ _ _ _ hr=>have nd:=sv.nd; have hu:=hr.units; (aF (kj (i:=3) nd rfl (xM (nW hu) (bC 2) (cO kE (gu rL rfl lj DH (ax (bC 1) aO)) aY) (gW _)))
 (aF (kj (i:=4) nd rfl (yJ (fH (nW hu) (bC 3) (xM yL (bC 1) aY (gW _)) (gW _)) aY aY))
 (aZ (cN (cP (ji (ax (bC 0) (ax (bC 4) (ax (yJ (fH yL (bC 1) aY (gW _)) aY (CO xF aY)) aO)))))))))
theorem t9:cG ["letters","top","passings","place","name","letter","left"] ["letters","top"] (a9 (top 34)):=su
theorem Dj {f:Addr} {fd:aJ} (F:oS K "gone_down" "gone_down" (top 34) f fd) (lj:mg "abs" = none) (fv:mg "enumerate" = none) {Dl:Addr} {Dw:aJ} (lU:sg P w K mg base gP 1 Dl Dw "passing_at" ["name","letter","place"] (dj K kB)):fV P w K mg base gP 2 f fd ["letters","top"] (dj K jG) :=
 sF F t9 DQ fun _ _ _ _ _ _ hr=>have nd:=t9.nd; have hu:=hr.units; (aF (kj (i:=2) nd rfl (g7 aO))
 (aF (kj (i:=3) nd rfl (bC 1))
 (aF (fI bZ rfl (L3 rfl fv (bC 0)) (rD rfl (fQ (o4 (i:=4) nd rfl) (fQ (o4 (i:=5) nd rfl) oy)) (fR (fR oE))) (aF (kj (i:=6) nd rfl (gu rL rfl lj DH (ax (bC 5) aO)))
 (aZ (km (fH (Vk hu) (bC 3) (ji (ax (bC 6) (ax (cO kE (bC 6) aY) aO))) (by with_unfolding_all rfl)) (aF (gM (jM bR gF gE gk mD (bC 2) (ax (bO lU.ok (hr.mono (by decide)) rfl lU.mg lU.kp lU.bi (ax (bC 4) (ax (bC 5) (ax (bC 3) aO)))) aO)))
 (aZ (kj (i:=3) nd rfl (yJ (fH (nW hu) (bC 3) (bC 6) (gW _)) (cO kE (bC 6) aY) (bC 6))))) gL))))
 (aZ (cN (cP (ji (ax (bC 2) (ax (bC 3) aO)))))))))
theorem qy:cG ["letters","top","passings","tops","place","down"] ["letters","top"] (a9 (top 35)):=su
theorem zm {f:Addr} {fd:aJ} (F:oS K "string_from" "string_from" (top 35) f fd) {FJ:Addr} {FW:aJ} (nO:sg P w K mg base gP 2 FJ FW "gone_down" ["letters","top"] (dj K jG)):fV P w K mg base gP 3 f fd ["letters","top"] (dj K ik) :=
 sF F qy zQ fun _ _ _ _ _ _ hr=>have nd:=qy.nd; have hu:=hr.units; (aF (kj (i:=2) nd rfl (g7 aO))
 (aF (kj (i:=3) nd rfl (g7 aO))
 (aF (kj (i:=4) nd rfl (bC 1))
 (aF (LY bZ (fH (Bx hu) (bC 4) (bC 3) (by with_unfolding_all rfl)) (aF (gM (jM bR gF gE gk mD (bC 3) (ax (bC 4) aO)))
 (aF (kj (i:=5) nd rfl (bO nO.ok (hr.mono (by decide)) rfl nO.mg nO.kp nO.bi (ax (bC 0) (ax (bC 4) aO))))
 (aF (gM (jM bR jV jU gk o7 (bC 2) (ax (dg hu (bC 5) aY (fun _ _=>rfl)) aO)))
 (aZ (kj (i:=4) nd rfl (dg hu (bC 5) aY (fun _ _=>rfl))))))))
 (aZ (cN (cP (ji (ax (bC 2) (ax (bC 3) aO))))))))))
theorem Bi:cG ["row","start"] ["row"] (a9 (top 6)):=su
theorem ME {f:Addr} {fd:aJ} (F:oS K "seated" "seated" (top 6) f fd) (H0:mg "min" = none):fV P w K mg base gP 1 f fd ["row"] (dj K rn) :=
 sF F Bi M5 fun _ _ _ _ _ _ hr=>have nd:=Bi.nd; have hu:=hr.units; (aF (km (xJ (rB (bC 0))) (aZ (cN (cP (g7 aO)))) gL)
 (aF (kj (i:=1) nd rfl (jM bR gT kd gk (rE hu) (bC 0) (ax (gu (MU rfl hu) rfl H0 Wj (ax (bC 0) aO)) aO)))
 (aZ (cN (cP (cO kE (jv (bC 0) (jL (bC 1)) mz) (jv (bC 0) mz (jL (bC 1)))))))))
theorem yu:cG ["rows"] ["rows"] (a9 (top 7)):=su
theorem zq {f:Addr} {fd:aJ} (F:oS K "seated_rows" "seated_rows" (top 7) f fd) {Qg:Addr} {Qy:aJ} (vj:sg P w K mg base gP 1 Qg Qy "seated" ["row"] (dj K rn)):fV P w K mg base gP 2 f fd ["rows"] (dj K ip) :=
 sF F yu zR fun _ _ _ _ _ _ hr=>(aZ (cN (cP (iq ["row"] (sc:=a9 (top 7)) (XN:=["rows"]) (fJ (bC 0)) (fun _ _ _ _=>(o4 (i:=0) (show (["row"]:List Str).Nodup by decide +kernel) rfl)) (fun _ _ _ _=>.none) (fun _ _ _ _=>(bO vj.ok (hr.mono (by decide)) rfl vj.mg vj.kp vj.bi (ax (bC 0) aO)))))))
theorem Bk:cG ["letters","strands","rows","met","top","string"] ["letters","strands"] (a9 (top 36)):=su
theorem MG {f:Addr} {fd:aJ} (F:oS K "closed" "closed" (top 36) f fd) (dM:mg "range" = none) {u3:Addr} {ve:aJ} (g8:sg P w K mg base gP 1 u3 ve "refuse_no_braid" ["letters","strands"] (dj K gH)) {Az:Addr} {AI:aJ} (kH:sg P w K mg base gP 3 Az AI "string_from" ["letters","top"] (dj K ik)) {AA:Addr} {AJ:aJ} (kI:sg P w K mg base gP 2 AA AJ "seated_rows" ["rows"] (dj K ip)):fV P w K mg base gP 4 f fd ["letters","strands"] (dj K lW) :=
 sF F Bk M7 fun _ _ _ _ _ _ hr=>have nd:=Bk.nd; have hu:=hr.units; (aF (gM (bO g8.ok (hr.mono (by decide)) rfl g8.mg g8.kp g8.bi (ax (bC 0) (ax (bC 1) aO))))
 (aF (kj (i:=2) nd rfl (g7 aO))
 (aF (kj (i:=3) nd rfl (g7 aO))
 (aF (fI bZ rfl (HQ rfl dM aY (cO kE (bC 1) aY)) (o4 (i:=4) nd rfl) (aZ (km (fH (Bx hu) (bC 4) (bC 3) (by with_unfolding_all rfl)) (aF (kj (i:=5) nd rfl (bO kH.ok (hr.mono (by decide)) rfl kH.mg kH.kp kH.bi (ax (bC 0) (ax (bC 4) aO))))
 (aF (gM (jM bR gF gE gk mD (bC 2) (ax (dg hu (bC 5) aY (fun _ _=>rfl)) aO)))
 (aZ (gM (jM bR jV jU gk o7 (bC 3) (ax (dg hu (bC 5) aY (fun _ _=>rfl)) aO)))))) gL)))
 (aZ (cN (cP (bO kI.ok (hr.mono (by decide)) rfl kI.mg kI.kp kI.bi (ax (bC 2) aO)))))))))
theorem wQ:cG ["_law_strands","_law_p","_law_found","_law_k","_law_longer","_law_numbers"] ["_law_strands","_law_p"] (a9 (top 42)):=su
theorem FE {f:Addr} {fd:aJ} (F:oS K "_law_tops" "_law_tops" (top 42) f fd) (dM:mg "range" = none):fV P w K mg base gP 1 f fd ["_law_strands","_law_p"] (dj K ny) :=
 sF F wQ Gz fun _ _ _ _ _ _ hr=>have nd:=wQ.nd; (aF (kj (i:=2) nd rfl (cP (g7 (ax (g7 aO) aO))))
 (aF (fI bZ rfl (jl rfl dM (bC 0)) (o4 (i:=3) nd rfl) (aF (kj (i:=4) nd rfl (g7 aO))
 (aF (fI bZ rfl (fJ (bC 2)) (o4 (i:=5) nd rfl) (aZ (gM (jM bR jV jU gk o7 (bC 4) (ax (iq ["_law_number","_law_numbers"] (sc:=a9 (top 42)) (XN:=["_law_strands","_law_p","_law_found","_law_k","_law_longer","_law_numbers"]) (jl rfl dM (bC 1)) (fun _ _ _ _=>(o4 (i:=0) (show (["_law_number","_law_numbers"]:List Str).Nodup by decide +kernel) rfl)) (fun _ _ _ _=>.none) (fun _ _ _ _=>(cP (cO kE (bC 1) (g7 (ax (bC 0) aO)))))) aO)))))
 (aZ (kj (i:=2) nd rfl (cP (bC 4)))))))
 (aZ (cN (cP (bC 2))))))
theorem qB:cG ["_law_numbers","_law_letters_here","_law_p","_law_found","_law_letter","_law_right","_law_one","_law_other"] ["_law_numbers","_law_letters_here","_law_p"] (a9 (top 41)):=su
theorem zv {f:Addr} {fd:aJ} (F:oS K "_law_carried" "_law_carried" (top 41) f fd) (lj:mg "abs" = none) (jj:mg "list" = none):fV P w K mg base gP 1 f fd ["_law_numbers","_law_letters_here","_law_p"] (dj K jF) :=
 sF F qB zU fun _ _ _ _ _ _ hr=>have nd:=qB.nd; have hu:=hr.units; (aF (kj (i:=3) nd rfl (sQ zJ rfl jj DG (ax (bC 0) aO)))
 (aF (fI bZ rfl (fJ (bC 1)) (o4 (i:=4) nd rfl) (aF (kj (i:=5) nd rfl (gu rL rfl lj DH (ax (bC 4) aO)))
 (aF (kj (i:=6) nd rfl (dg hu (bC 3) (cO kD (bC 5) aY) (fun _ _=>rfl)))
 (aF (kj (i:=7) nd rfl (dg hu (bC 3) (bC 5) (fun _ _=>rfl)))
 (aZ (km (fH yL (bC 4) aY (gW _)) (aF (gZ (bC 7) (g6 hu (bC 3) (cO kD (bC 5) aY)))
 (aZ (gZ (cO jN (cO kD (cO nE aY (bC 7)) (bC 6)) (bC 2)) (g6 hu (bC 3) (bC 5))))) (aF (gZ (bC 6) (g6 hu (bC 3) (bC 5)))
 (aZ (gZ (cO jN (cO kD (cO nE aY (bC 6)) (bC 7)) (bC 2)) (g6 hu (bC 3) (cO kD (bC 5) aY)))))))))))
 (aZ (cN (cP (bC 3))))))
theorem wO:cG ["p","count","product","step"] ["p","count"] (a9 (top 20)):=su
theorem FC {f:Addr} {fd:aJ} (F:oS K "power_of" "power_of" (top 20) f fd) (dM:mg "range" = none):fV P w K mg base gP 1 f fd ["p","count"] (dj K nu) :=
 sF F wO Gx fun _ _ _ _ _ _ hr=>have nd:=wO.nd; (aF (kj (i:=2) nd rfl aY)
 (aF (fI bZ rfl (jl rfl dM (bC 1)) (o4 (i:=3) nd rfl) (aZ (kj (i:=2) nd rfl (cO nE (bC 2) (bC 0)))))
 (aZ (cN (cP (bC 2))))))
theorem xk:cG ["p"] ["p"] (a9 (top 18)):=su
theorem xp {f:Addr} {fd:aJ} (F:oS K "refuse_other" "refuse_other" (top 18) f fd) {qT:Addr} (MA:mg "PRIMES" = some (.ref qT)) (wo:A6 K qT [3,5,7]=true):fV P w K mg base gP 1 f fd ["p"] (dj K fP) :=
 sF F xk xy fun _ _ _ _ _ _ hr=>have hu:=hr.units; (aZ (km (OP hu rfl MA wo (bC 0)) (aZ rC) gL))
theorem Eu:cG ["row","string"] ["row","string"] (a9 (top 9)):=su
theorem FA {f:Addr} {fd:aJ} (F:oS K "spots_on" "spots_on" (top 9) f fd):fV P w K mg base gP 1 f fd ["row","string"] (dj K nq) :=
 sF F Eu Gw fun _ _ _ _ _ _ hr=>(aF (km (xJ (rB (bC 0))) (aZ (cN (cP (g7 (ax (ji (ax (bC 1) (ax aY aO))) aO))))) gL)
 (aZ (cN (cP (iq ["passing"] (sc:=a9 (top 9)) (XN:=["row","string"]) (fJ (bC 0)) (fun _ _ _ _=>(o4 (i:=0) (show (["passing"]:List Str).Nodup by decide +kernel) rfl)) (fun _ _ _ _=>.none) (fun _ _ _ _=>(jv (bC 0) mz (jL aY))))))))
theorem yx:cG ["row","string","spots","unders","bow","found","spot"] ["row","string"] (a9 (top 15)):=su
theorem II {f:Addr} {fd:aJ} (F:oS K "bows_on" "bows_on" (top 15) f fd) {IJ:Addr} {IY:aJ} (pB:sg P w K mg base gP 1 IJ IY "spots_on" ["row","string"] (dj K nq)):fV P w K mg base gP 2 f fd ["row","string"] (dj K o3) :=
 sF F yx Jq fun _ _ _ _ _ _ hr=>have nd:=yx.nd; have hu:=hr.units; (aF (kj (i:=2) nd rfl (bO pB.ok (hr.mono (by decide)) rfl pB.mg pB.kp pB.bi (ax (bC 0) (ax (bC 1) aO))))
 (aF (uv ["spot"] (sc:=a9 (top 15)) (XN:=["row","string","spots","unders","bow","found","spot"]) (i:=3) nd rfl rfl (fJ (bC 2)) (fun _ _ _ _=>(o4 (i:=0) (show (["spot"]:List Str).Nodup by decide +kernel) rfl)) (fun _ _ _ _=>(.some (fH (nW hu) (dg hu (bC 0) aY (fun _ _=>rfl)) aY (gW _)))) (fun _ _ _ _=>(bC 0)))
 (aF (kj (i:=4) nd rfl (yJ (rB (bC 3)) (dg hu (bC 3) (CO xF aY) (fun _ _=>rfl)) (ji (ax (bC 1) (ax aY aO)))))
 (aF (kj (i:=5) nd rfl ux)
 (aF (fI bZ rfl (fJ (bC 2)) (o4 (i:=6) nd rfl) (aF (km (fH (nW hu) (dg hu (bC 6) aY (fun _ _=>rfl)) aY (gW _)) (aZ (kj (i:=4) nd rfl (bC 6))) gL)
 (aZ (gZ (bC 4) (g6 hu (bC 5) (bC 6))))))
 (aZ (cN (cP (bC 5)))))))))
theorem Bl:cG ["drawing","found","string","row"] ["drawing"] (a9 (top 16)):=su
theorem MH {f:Addr} {fd:aJ} (F:oS K "bow_at" "bow_at" (top 16) f fd) (fv:mg "enumerate" = none) {ML:Addr} {MT:aJ} (rN:sg P w K mg base gP 2 ML MT "bows_on" ["row","string"] (dj K o3)):fV P w K mg base gP 3 f fd ["drawing"] (dj K gr) :=
 sF F Bl M8 fun _ _ _ _ _ _ hr=>have nd:=Bl.nd; have hu:=hr.units; (aF (kj (i:=1) nd rfl ux)
 (aF (fI bZ rfl (EK rfl fv (bC 0)) (rD rfl (fQ (o4 (i:=2) nd rfl) (fQ (o4 (i:=3) nd rfl) oy)) (fR (fR oE))) (aZ (gM (jM qj GD PySem.F.type_dict_update yh (Pa hu) (bC 1) (ax (cP (bO rN.ok (hr.mono (by decide)) rfl rN.mg rN.kp rN.bi (ax (bC 3) (ax (bC 2) aO)))) aO)))))
 (aZ (cN (cP (bC 1))))))
theorem R4:cG ["drawing"] ["drawing"] (a9 (top 17)):=su
theorem S2 {f:Addr} {fd:aJ} (F:oS K "bows" "bows" (top 17) f fd) (jj:mg "list" = none) (HZ:mg "set" = none) (lZ:mg "sorted" = none) {zA:Addr} {zE:aJ} (jS:sg P w K mg base gP 3 zA zE "bow_at" ["drawing"] (dj K gr)):fV P w K mg base gP 4 f fd ["drawing"] (dj K jI) :=
 sF F R4 Tx fun _ _ _ _ _ _ hr=>have hu:=hr.units; (aZ (cN (cP (yI rfl hu rfl lZ rfl HZ (ax (L4 rfl rfl jj (bO jS.ok (hr.mono (by decide)) rfl jS.mg jS.kp jS.bi (ax (bC 0) aO))) aO)))))
theorem yw:cG ["factors","place","other","p","number"] ["factors","place","other","p"] (a9 (top 24)):=su
theorem IH {f:Addr} {fd:aJ} (F:oS K "cleared" "cleared" (top 24) f fd) (wc:mg "zip" = none):fV P w K mg base gP 1 f fd ["factors","place","other","p"] (dj K ke) :=
 sF F yw Jp fun _ _ _ _ _ _ hr=>have nd:=yw.nd; have hu:=hr.units; (aF (kj (i:=4) nd rfl (dg hu (bC 0) (bC 1) (fun _ _=>rfl)))
 (aZ (cN (cP (iq ["factor","less","number","p"] (sc:=a9 (top 24)) (XN:=["factors","place","other","p","number"]) (Kh rfl wc (bC 0) (bC 2)) (fun _ _ _ _=>(rD rfl (fQ (o4 (i:=0) (show (["factor","less","number","p"]:List Str).Nodup by decide +kernel) rfl) (fQ (o4 (i:=1) (show (["factor","less","number","p"]:List Str).Nodup by decide +kernel) rfl) oy)) (fR (fR oE)))) (fun _ _ _ _=>.none) (fun _ _ _ _=>(cO jN (cO kD (bC 0) (cO nE (bC 2) (bC 1))) (bC 3))))))))
theorem sx:cG ["factors","places"] ["factors"] (a9 (top 22)):=su
theorem Ay {f:Addr} {fd:aJ} (F:oS K "last_place" "last_place" (top 22) f fd) (fv:mg "enumerate" = none):fV P w K mg base gP 1 f fd ["factors"] (dj K kC) :=
 sF F sx AV fun _ _ _ _ _ _ hr=>have nd:=sx.nd; have hu:=hr.units; (aF (uv ["place","factor"] (sc:=a9 (top 22)) (XN:=["factors","places"]) (i:=1) nd rfl rfl (EK rfl fv (bC 0)) (fun _ _ _ _=>(rD rfl (fQ (o4 (i:=0) (show (["place","factor"]:List Str).Nodup by decide +kernel) rfl) (fQ (o4 (i:=1) (show (["place","factor"]:List Str).Nodup by decide +kernel) rfl) oy)) (fR (fR oE)))) (fun _ _ _ _=>(.some (fH (Vj hu) (bC 1) aY (gW _)))) (fun _ _ _ _=>(bC 0)))
 (aZ (cN (cP (yJ (rB (bC 1)) (dg hu (bC 1) (CO xF aY) (fun _ _=>rfl)) Kj)))))
theorem Bj:cG ["factors","place","p","inverse"] ["factors","place","p"] (a9 (top 23)):=su
theorem MF {f:Addr} {fd:aJ} (F:oS K "scaled" "scaled" (top 23) f fd) (dM:mg "range" = none):fV P w K mg base gP 1 f fd ["factors","place","p"] (dj K rq) :=
 sF F Bj M6 fun _ _ _ _ _ _ hr=>have nd:=Bj.nd; have hu:=hr.units; (aF (kj (i:=3) nd rfl (dg hu (iq ["number","factors","place","p"] (sc:=a9 (top 23)) (XN:=["factors","place","p","inverse"]) (jl rfl dM (bC 2)) (fun _ _ _ _=>(o4 (i:=0) (show (["number","factors","place","p"]:List Str).Nodup by decide +kernel) rfl)) (fun _ _ _ _=>(.some (fH (nW hu) (cO jN (cO nE (bC 0) (dg hu (bC 1) (bC 2) (fun _ _=>rfl))) (bC 3)) aY (gW _)))) (fun _ _ _ _=>(bC 0))) aY (fun _ _=>rfl)))
 (aZ (cN (cP (iq ["factor","inverse","p"] (sc:=a9 (top 23)) (XN:=["factors","place","p","inverse"]) (fJ (bC 0)) (fun _ _ _ _=>(o4 (i:=0) (show (["factor","inverse","p"]:List Str).Nodup by decide +kernel) rfl)) (fun _ _ _ _=>.none) (fun _ _ _ _=>(cO jN (cO nE (bC 0) (bC 1)) (bC 2))))))))
theorem Bh:cG ["equations","p","by_place","equation","left","place","last"] ["equations","p"] (a9 (top 25)):=su
theorem MD {f:Addr} {fd:aJ} (F:oS K "solved" "solved" (top 25) f fd) (jj:mg "list" = none) {MK:Addr} {MS:aJ} (jy:sg P w K mg base gP 1 MK MS "cleared" ["factors","place","other","p"] (dj K ke)) {Dm:Addr} {Dx:aJ} (lV:sg P w K mg base gP 1 Dm Dx "last_place" ["factors"] (dj K kC)) {Qh:Addr} {Qz:aJ} (vk:sg P w K mg base gP 1 Qh Qz "scaled" ["factors","place","p"] (dj K rq)):fV P w K mg base gP 2 f fd ["equations","p"] (dj K rm) :=
 sF F Bh M4 fun _ _ _ _ _ _ hr=>have nd:=Bh.nd; have hu:=hr.units; (aF (kj (i:=2) nd rfl ux)
 (aF (fI bZ rfl (fJ (bC 0)) (o4 (i:=3) nd rfl) (aF (kj (i:=4) nd rfl (bC 3))
 (aF (OS (j:=5) (k:=4) bZ rfl nd (bC 2) rfl rfl (bO jy.ok (hr.mono (by decide)) rfl jy.mg jy.kp jy.bi (ax (bC 4) (ax (bC 5) (ax (dg hu (bC 2) (bC 5) (fun _ _=>rfl)) (ax (bC 1) aO))))))
 (aF (kj (i:=6) nd rfl (bO lV.ok (hr.mono (by decide)) rfl lV.mg lV.kp lV.bi (ax (bC 4) aO)))
 (aZ (km (LX (bC 6)) (aF (kj (i:=4) nd rfl (bO vk.ok (hr.mono (by decide)) rfl vk.mg vk.kp vk.bi (ax (bC 4) (ax (bC 6) (ax (bC 1) aO)))))
 (aF (fI bZ rfl (fJ (sQ (Gh rfl) rfl jj DG (ax (bC 2) aO))) (o4 (i:=5) nd rfl) (aZ (gZ (bO jy.ok (hr.mono (by decide)) rfl jy.mg jy.kp jy.bi (ax (dg hu (bC 2) (bC 5) (fun _ _=>rfl)) (ax (bC 6) (ax (bC 4) (ax (bC 1) aO))))) (g6 hu (bC 2) (bC 5)))))
 (aZ (gZ (bC 4) (g6 hu (bC 2) (bC 6)))))) gL))))))
 (aZ (cN (cP (bC 2))))))
theorem yv:cG ["drawing","behind","row","passing","follower"] ["drawing"] (a9 (top 10)):=su
theorem IG {f:Addr} {fd:aJ} (F:oS K "next_of" "next_of" (top 10) f fd) (wc:mg "zip" = none):fV P w K mg base gP 1 f fd ["drawing"] (dj K oZ) :=
 sF F yv Jo fun _ _ _ _ _ _ hr=>have nd:=yv.nd; have hu:=hr.units; (aF (kj (i:=1) nd rfl ux)
 (aF (fI bZ rfl (fJ (bC 0)) (o4 (i:=2) nd rfl) (aZ (fI bZ rfl (Kh rfl wc (bC 2) (cO kE (jv (bC 2) (jL aY) mz) (jv (bC 2) mz (jL aY)))) (rD rfl (fQ (o4 (i:=3) nd rfl) (fQ (o4 (i:=4) nd rfl) oy)) (fR (fR oE))) (aZ (gZ (jv (bC 4) mz (jL aY)) (g6 hu (bC 1) (jv (bC 3) mz (jL aY))))))))
 (aZ (cN (cP (bC 1))))))
theorem ua:cG ["drawing","behind","coming","spot"] ["drawing"] (a9 (top 12)):=su
theorem Dk {f:Addr} {fd:aJ} (F:oS K "coming_of" "coming_of" (top 12) f fd) {MJ:Addr} {MR:aJ} (rM:sg P w K mg base gP 1 MJ MR "next_of" ["drawing"] (dj K oZ)):fV P w K mg base gP 2 f fd ["drawing"] (dj K lM) :=
 sF F ua DR fun _ _ _ _ _ _ hr=>have nd:=ua.nd; have hu:=hr.units; (aF (kj (i:=1) nd rfl (bO rM.ok (hr.mono (by decide)) rfl rM.mg rM.kp rM.bi (ax (bC 0) aO)))
 (aF (kj (i:=2) nd rfl ux)
 (aF (fI bZ rfl (EL (bC 1)) (o4 (i:=3) nd rfl) (aZ (gZ (bC 3) (g6 hu (bC 2) (dg hu (bC 1) (bC 3) (fun _ _=>rfl))))))
 (aZ (cN (cP (bC 2)))))))
theorem qz:cG ["rows","passings","row"] ["rows"] (a9 (top 5)):=su
theorem zt {f:Addr} {fd:aJ} (F:oS K "passings_of" "passings_of" (top 5) f fd):fV P w K mg base gP 1 f fd ["rows"] (dj K jE) :=
 sF F qz zS fun _ _ _ _ _ _ hr=>have nd:=qz.nd; (aF (kj (i:=1) nd rfl (g7 aO))
 (aF (fI bZ rfl (fJ (bC 0)) (o4 (i:=2) nd rfl) (aZ (gM (jM bR jV jU gk o7 (bC 1) (ax (bC 2) aO)))))
 (aZ (cN (cP (bC 1))))))
theorem Ew:cG ["drawing"] ["drawing"] (a9 (top 8)):=su
theorem FD {f:Addr} {fd:aJ} (F:oS K "names_of" "names_of" (top 8) f fd) (lZ:mg "sorted" = none) {AB:Addr} {AK:aJ} (kJ:sg P w K mg base gP 1 AB AK "passings_of" ["rows"] (dj K jE)):fV P w K mg base gP 2 f fd ["drawing"] (dj K nv) :=
 sF F Ew Gy fun _ _ _ _ _ _ hr=>have hu:=hr.units; (aZ (cN (cP (gu (DC rfl hu) rfl lZ B1 (ax (iq ["passing"] (sc:=a9 (top 8)) (XN:=["drawing"]) (fJ (bO kJ.ok (hr.mono (by decide)) rfl kJ.mg kJ.kp kJ.bi (ax (bC 0) aO))) (fun _ _ _ _=>(o4 (i:=0) (show (["passing"]:List Str).Nodup by decide +kernel) rfl)) (fun _ _ _ _=>(.some (fH (nW hu) (dg hu (bC 0) aY (fun _ _=>rfl)) aY (gW _)))) (fun _ _ _ _=>(dg hu (bC 0) aY (fun _ _=>rfl)))) aO)))))
theorem t8:cG ["drawing","order","bow","coming","places","name","three"] ["drawing"] (a9 (top 19)):=su
theorem Dh {f:Addr} {fd:aJ} (F:oS K "places_at" "places_at" (top 19) f fd) {IQ:Addr} {Jc:aJ} (pG:sg P w K mg base gP 4 IQ Jc "bows" ["drawing"] (dj K jI)) {zA:Addr} {zE:aJ} (jS:sg P w K mg base gP 3 zA zE "bow_at" ["drawing"] (dj K gr)) {FK:Addr} {FX:aJ} (nP:sg P w K mg base gP 2 FK FX "coming_of" ["drawing"] (dj K lM)) {IL:Addr} {I0:aJ} (pD:sg P w K mg base gP 2 IL I0 "names_of" ["drawing"] (dj K nv)):fV P w K mg base gP 5 f fd ["drawing"] (dj K iF) :=
 sF F t8 DO fun _ _ _ _ _ _ hr=>have nd:=t8.nd; have hu:=hr.units; (aF (kj (i:=1) nd rfl (bO pG.ok (hr.mono (by decide)) rfl pG.mg pG.kp pG.bi (ax (bC 0) aO)))
 (aF (kj (i:=2) nd rfl (bO jS.ok (hr.mono (by decide)) rfl jS.mg jS.kp jS.bi (ax (bC 0) aO)))
 (aF (kj (i:=3) nd rfl (bO nP.ok (hr.mono (by decide)) rfl nP.mg nP.kp nP.bi (ax (bC 0) aO)))
 (aF (kj (i:=4) nd rfl (g7 aO))
 (aF (fI bZ rfl (fJ (bO pD.ok (hr.mono (by decide)) rfl pD.mg pD.kp pD.bi (ax (bC 0) aO))) (o4 (i:=5) nd rfl) (aF (kj (i:=6) nd rfl (ji (ax (dg hu (bC 2) (ji (ax (bC 5) (ax aY aO))) (fun _ _=>rfl)) (ax (dg hu (bC 2) (dg hu (bC 3) (ji (ax (bC 5) (ax aY aO))) (fun _ _=>rfl)) (fun _ _=>rfl)) (ax (dg hu (bC 2) (ji (ax (bC 5) (ax aY aO))) (fun _ _=>rfl)) aO)))))
 (aZ (gM (jM bR gF gE gk mD (bC 4) (ax (ji (ax (jM bR gT kd gk (rE hu) (bC 1) (ax (dg hu (bC 6) aY (fun _ _=>rfl)) aO)) (ax (jM bR gT kd gk (rE hu) (bC 1) (ax (dg hu (bC 6) aY (fun _ _=>rfl)) aO)) (ax (jM bR gT kd gk (rE hu) (bC 1) (ax (dg hu (bC 6) aY (fun _ _=>rfl)) aO)) aO)))) aO))))))
 (aZ (cN (cP (bC 4)))))))))
theorem qC:cG ["three","count","p","factors"] ["three","count","p"] (a9 (top 21)):=su
theorem zw {f:Addr} {fd:aJ} (F:oS K "equation_of" "equation_of" (top 21) f fd) (dM:mg "range" = none):fV P w K mg base gP 1 f fd ["three","count","p"] (dj K jH) :=
 sF F qC zV fun _ _ _ _ _ _ hr=>have nd:=qC.nd; have hu:=hr.units; (aF (uv ["place"] (sc:=a9 (top 21)) (XN:=["three","count","p","factors"]) (i:=3) nd rfl rfl (jl rfl dM (bC 1)) (fun _ _ _ _=>(o4 (i:=0) (show (["place"]:List Str).Nodup by decide +kernel) rfl)) (fun _ _ _ _=>.none) (fun _ _ _ _=>aY))
 (aF (gZ (cO kE (dg hu (bC 3) (dg hu (bC 0) aY (fun _ _=>rfl)) (fun _ _=>rfl)) aY) (g6 hu (bC 3) (dg hu (bC 0) aY (fun _ _=>rfl))))
 (aF (gZ (cO kD (dg hu (bC 3) (dg hu (bC 0) aY (fun _ _=>rfl)) (fun _ _=>rfl)) aY) (g6 hu (bC 3) (dg hu (bC 0) aY (fun _ _=>rfl))))
 (aF (gZ (cO kD (dg hu (bC 3) (dg hu (bC 0) aY (fun _ _=>rfl)) (fun _ _=>rfl)) aY) (g6 hu (bC 3) (dg hu (bC 0) aY (fun _ _=>rfl))))
 (aZ (cN (cP (iq ["factor","p"] (sc:=a9 (top 21)) (XN:=["three","count","p","factors"]) (fJ (bC 3)) (fun _ _ _ _=>(o4 (i:=0) (show (["factor","p"]:List Str).Nodup by decide +kernel) rfl)) (fun _ _ _ _=>.none) (fun _ _ _ _=>(cO jN (bC 0) (bC 1)))))))))))
theorem nB:cG ["by_place","free","count","p","numbers","place","equation"] ["by_place","free","count","p"] (a9 (top 27)):=su
theorem uZ {f:Addr} {fd:aJ} (F:oS K "colouring_from" "colouring_from" (top 27) f fd) (dM:mg "range" = none):fV P w K mg base gP 1 f fd ["by_place","free","count","p"] (dj K gY) :=
 sF F nB vA fun _ _ _ _ _ _ hr=>have nd:=nB.nd; have hu:=hr.units; (aF (uv ["place"] (sc:=a9 (top 27)) (XN:=["by_place","free","count","p","numbers","place","equation"]) (i:=4) nd rfl rfl (jl rfl dM (bC 2)) (fun _ _ _ _=>(o4 (i:=0) (show (["place"]:List Str).Nodup by decide +kernel) rfl)) (fun _ _ _ _=>.none) (fun _ _ _ _=>aY))
 (aF (gZ aY (g6 hu (bC 4) (bC 1)))
 (aF (fI bZ rfl (L1 (bC 0)) (rD rfl (fQ (o4 (i:=5) nd rfl) (fQ (o4 (i:=6) nd rfl) oy)) (fR (fR oE))) (aZ (gZ (cO jN (CO xF (dg hu (bC 6) (bC 1) (fun _ _=>rfl))) (bC 3)) (g6 hu (bC 4) (bC 5)))))
 (aZ (cN (cP (bC 4)))))))
theorem Ez:cG ["drawing","p","count","by_place"] ["drawing","p"] (a9 (top 26)):=su
theorem P9 {f:Addr} {fd:aJ} (F:oS K "basis" "basis" (top 26) f fd) (jm:mg "len" = none) (dM:mg "range" = none) {zy:Addr} {zD:aJ} (jR:sg P w K mg base gP 1 zy zD "refuse_other" ["p"] (dj K fP)) {IQ:Addr} {Jc:aJ} (pG:sg P w K mg base gP 4 IQ Jc "bows" ["drawing"] (dj K jI)) {Qf:Addr} {Qx:aJ} (vh:sg P w K mg base gP 2 Qf Qx "solved" ["equations","p"] (dj K rm)) {FH:Addr} {FU:aJ} (nK:sg P w K mg base gP 5 FH FU "places_at" ["drawing"] (dj K iF)) {AF:Addr} {AN:aJ} (kM:sg P w K mg base gP 1 AF AN "equation_of" ["three","count","p"] (dj K jH)) {wx:Addr} {wA:aJ} (iK:sg P w K mg base gP 1 wx wA "colouring_from" ["by_place","free","count","p"] (dj K gY)):fV P w K mg base gP 6 f fd ["drawing","p"] (dj K t6) :=
 sF F Ez QX fun _ _ _ _ _ _ hr=>have nd:=Ez.nd; have hu:=hr.units; (aF (gM (bO jR.ok (hr.mono (by decide)) rfl jR.mg jR.kp jR.bi (ax (bC 1) aO)))
 (aF (kj (i:=2) nd rfl (gu oJ rfl jm zL (ax (bO pG.ok (hr.mono (by decide)) rfl pG.mg pG.kp pG.bi (ax (bC 0) aO)) aO)))
 (aF (kj (i:=3) nd rfl (bO vh.ok (hr.mono (by decide)) rfl vh.mg vh.kp vh.bi (ax (cP (iq ["three","count","p"] (sc:=a9 (top 26)) (XN:=["drawing","p","count","by_place"]) (fJ (bO nK.ok (hr.mono (by decide)) rfl nK.mg nK.kp nK.bi (ax (bC 0) aO))) (fun _ _ _ _=>(o4 (i:=0) (show (["three","count","p"]:List Str).Nodup by decide +kernel) rfl)) (fun _ _ _ _=>.none) (fun _ _ _ _=>(bO kM.ok (hr.mono (by decide)) rfl kM.mg kM.kp kM.bi (ax (bC 0) (ax (bC 1) (ax (bC 2) aO))))))) (ax (cP (bC 1)) aO))))
 (aZ (cN (cP (iq ["free","by_place","count","p"] (sc:=a9 (top 26)) (XN:=["drawing","p","count","by_place"]) (jl rfl dM (bC 2)) (fun _ _ _ _=>(o4 (i:=0) (show (["free","by_place","count","p"]:List Str).Nodup by decide +kernel) rfl)) (fun _ _ _ _=>(.some (fH (HW hu) (bC 0) (bC 1) (by with_unfolding_all rfl)))) (fun _ _ _ _=>(bO iK.ok (hr.mono (by decide)) rfl iK.mg iK.kp iK.bi (ax (bC 1) (ax (bC 0) (ax (bC 2) (ax (bC 3) aO)))))))))))))
theorem rX:cG ["drawing","p"] ["drawing","p"] (a9 (top 28)):=su
theorem sd {f:Addr} {fd:aJ} (F:oS K "count_colourings" "count_colourings" (top 28) f fd) (jm:mg "len" = none) {IK:Addr} {IZ:aJ} (pC:sg P w K mg base gP 1 IK IZ "power_of" ["p","count"] (dj K nu)) {S3:Addr} {S9:aJ} (xY:sg P w K mg base gP 6 S3 S9 "basis" ["drawing","p"] (dj K t6)):fV P w K mg base gP 7 f fd ["drawing","p"] (dj K eQ) :=
 sF F rX sf fun _ _ _ _ _ _ hr=>(aZ (cN (cP (bO pC.ok (hr.mono (by decide)) rfl pC.mg pC.kp pC.bi (ax (bC 1) (ax (gu oJ rfl jm zL (ax (bO xY.ok (hr.mono (by decide)) rfl xY.mg xY.kp xY.bi (ax (bC 0) (ax (bC 1) aO))) aO)) aO))))))
theorem CA:cG ["_law_found"] ["_law_found"] (a9 (top 39)):=su
theorem Di {f:Addr} {fd:aJ} (F:oS K "_law_whole" "_law_whole" (top 39) f fd) (CU:mg "bool" = none) (Ia:mg "int" = none) (kF:mg "isinstance" = none):fV P w K mg base gP 1 f fd ["_law_found"] (dj K iG) :=
 sF F CA DP fun _ _ _ _ _ _ hr=>(aZ (cN (cP (CP (Kk "int" (by decide) rfl kF rfl Ia Wl (bC 0)) (Ki (Si (Kk "bool" (by decide) rfl kF rfl CU Tj (bC 0))))))))
theorem Oz:cG ["_law_script","_law_first","_law_strands","_law_p","_law_letters_here","_law_handed","_law_drawing","_law_due","_law_found"] ["_law_script"] (a9 (top 43)):=su
theorem V3 {f:Addr} {fd:aJ} (F:oS K "law" "law" (top 43) f fd) (jm:mg "len" = none) (jj:mg "list" = none) {IP:Addr} {Jb:aJ} (pF:sg P w K mg base gP 1 IP Jb "_law_cell" ["_law_script","_law_k"] (dj K jt)) {AD:Addr} {AL:aJ} (kK:sg P w K mg base gP 1 AD AL "_law_letters" ["_law_cells","_law_strands"] (dj K gm)) {Qi:Addr} {QA:aJ} (vm:sg P w K mg base gP 4 Qi QA "closed" ["letters","strands"] (dj K lW)) {IM:Addr} {Ja:aJ} (pE:sg P w K mg base gP 1 IM Ja "_law_tops" ["_law_strands","_law_p"] (dj K ny)) {AE:Addr} {AM:aJ} (kL:sg P w K mg base gP 1 AE AM "_law_carried" ["_law_numbers","_law_letters_here","_law_p"] (dj K jF)) {tj:Addr} {tv:aJ} (gI:sg P w K mg base gP 7 tj tv "count_colourings" ["drawing","p"] (dj K eQ)) {FI:Addr} {FV:aJ} (nM:sg P w K mg base gP 1 FI FV "_law_whole" ["_law_found"] (dj K iG)):fV P w K mg base gP 8 f fd ["_law_script"] (dj K K2.Bb) :=
 sF F Oz Ws fun _ _ _ _ _ _ hr=>have nd:=Oz.nd; have hu:=hr.units; (aF (kj (i:=1) nd rfl (bO pF.ok (hr.mono (by decide)) rfl pF.mg pF.kp pF.bi (ax (bC 0) (ax aY aO))))
 (aF (kj (i:=2) nd rfl (cO kE aY (cO jN (bC 1) aY)))
 (aF (kj (i:=3) nd rfl (dg hu (ji (ax aY (ax aY (ax aY aO)))) (cO jN (cO EN (bC 1) aY) aY) (fun _ _=>rfl)))
 (aF (kj (i:=4) nd rfl (cP (bO kK.ok (hr.mono (by decide)) rfl kK.mg kK.kp kK.bi (ax (jv (bC 0) (jL aY) (jL aY)) (ax (bC 2) aO)))))
 (aF (kj (i:=5) nd rfl (cP (sQ zJ rfl jj DG (ax (bC 4) aO))))
 (aF (kj (i:=6) nd rfl (bO vm.ok (hr.mono (by decide)) rfl vm.mg vm.kp vm.bi (ax (bC 5) (ax (bC 2) aO))))
 (aF (kj (i:=7) nd rfl (gu oJ rfl jm zL (ax (iq ["_law_top","_law_letters_here","_law_p"] (sc:=a9 (top 43)) (XN:=["_law_script","_law_first","_law_strands","_law_p","_law_letters_here","_law_handed","_law_drawing","_law_due","_law_found"]) (fJ (bO pE.ok (hr.mono (by decide)) rfl pE.mg pE.kp pE.bi (ax (bC 2) (ax (bC 3) aO)))) (fun _ _ _ _=>(o4 (i:=0) (show (["_law_top","_law_letters_here","_law_p"]:List Str).Nodup by decide +kernel) rfl)) (fun _ _ _ _=>(.some (fH (nW hu) (bO kL.ok (hr.mono (by decide)) rfl kL.mg kL.kp kL.bi (ax (bC 0) (ax (bC 1) (ax (bC 2) aO)))) (bC 0) (gW _)))) (fun _ _ _ _=>(bC 0))) aO)))
 (aF (kj (i:=8) nd rfl (bO gI.ok (hr.mono (by decide)) rfl gI.mg gI.kp gI.bi (ax (bC 6) (ax (bC 3) aO))))
 (aZ (cN (cP (CP (bO nM.ok (hr.mono (by decide)) rfl nM.mg nM.kp nM.bi (ax (bC 8) aO)) (CP (xM (nW hu) (bC 8) (bC 7) (gW _)) (Ki (xM (nW hu) (bC 5) (bC 4) (gW _))))))))))))))))
end
theorem all_mk {l:B9} {w:World} {K:ah} {h:Heap} {mg:Str->Option Value} {fa:Addr} (X:K.In h) (G:h.Ns bQ mg) (hfa:mg "law" = some (.ref fa))
  {f0:Addr} {d0:aJ} (F0:At K "_law_cell" (top 38) f0 d0)
  {f1:Addr} {d1:aJ} (F1:At K "_law_letters" (top 40) f1 d1)
  {f2:Addr} {d2:aJ} (F2:At K "refuse_no_braid" (top 32) f2 d2)
  {f3:Addr} {d3:aJ} (F3:At K "passing_at" (top 33) f3 d3)
  {f4:Addr} {d4:aJ} (F4:At K "gone_down" (top 34) f4 d4)
  {f5:Addr} {d5:aJ} (F5:At K "string_from" (top 35) f5 d5)
  {f6:Addr} {d6:aJ} (F6:At K "seated" (top 6) f6 d6)
  {f7:Addr} {d7:aJ} (F7:At K "seated_rows" (top 7) f7 d7)
  {f8:Addr} {d8:aJ} (F8:At K "closed" (top 36) f8 d8)
  {f9:Addr} {d9:aJ} (F9:At K "_law_tops" (top 42) f9 d9)
  {f10:Addr} {d10:aJ} (F10:At K "_law_carried" (top 41) f10 d10)
  {f11:Addr} {d11:aJ} (F11:At K "power_of" (top 20) f11 d11)
  {f12:Addr} {d12:aJ} (F12:At K "refuse_other" (top 18) f12 d12)
  {f13:Addr} {d13:aJ} (F13:At K "spots_on" (top 9) f13 d13)
  {f14:Addr} {d14:aJ} (F14:At K "bows_on" (top 15) f14 d14)
  {f15:Addr} {d15:aJ} (WS:At K "bow_at" (top 16) f15 d15)
  {f16:Addr} {d16:aJ} (WR:At K "bows" (top 17) f16 d16)
  {f17:Addr} {d17:aJ} (F17:At K "cleared" (top 24) f17 d17)
  {f18:Addr} {d18:aJ} (F18:At K "last_place" (top 22) f18 d18)
  {f19:Addr} {d19:aJ} (F19:At K "scaled" (top 23) f19 d19)
  {f20:Addr} {d20:aJ} (F20:At K "solved" (top 25) f20 d20)
  {f21:Addr} {d21:aJ} (F21:At K "next_of" (top 10) f21 d21)
  {f22:Addr} {d22:aJ} (F22:At K "coming_of" (top 12) f22 d22)
  {f23:Addr} {d23:aJ} (F23:At K "passings_of" (top 5) f23 d23)
  {f24:Addr} {d24:aJ} (Z9:At K "names_of" (top 8) f24 d24)
  {f25:Addr} {d25:aJ} (Z8:At K "places_at" (top 19) f25 d25)
  {f26:Addr} {d26:aJ} (Z7:At K "equation_of" (top 21) f26 d26)
  {f27:Addr} {d27:aJ} (Z6:At K "colouring_from" (top 27) f27 d27)
  {f28:Addr} {d28:aJ} (Z5:At K "basis" (top 26) f28 d28)
  {f29:Addr} {d29:aJ} (Z4:At K "count_colourings" (top 28) f29 d29)
  {f30:Addr} {d30:aJ} (Z3:At K "_law_whole" (top 39) f30 d30)
  {f31:Addr} {d31:aJ} (F31:At K "law" (top 43) f31 d31)
  (WX:dH K bQ "len" = some none:=by k_is) (WZ:dH K bQ "abs" = some none:=by k_is) (Ek:dH K bQ "enumerate" = some none:=by k_is) (WW:dH K bQ "min" = some none:=by k_is) (RM:dH K bQ "range" = some none:=by k_is) (Uo:dH K bQ "list" = some none:=by k_is) (WV:dH K bQ "set" = some none:=by k_is) (N6:dH K bQ "sorted" = some none:=by k_is) (WU:dH K bQ "zip" = some none:=by k_is) (Uq:dH K bQ "bool" = some none:=by k_is) (WY:dH K bQ "int" = some none:=by k_is) (Ci:dH K bQ "isinstance" = some none:=by k_is) {mh:Tok} (xr:dH K bQ "MOST_STRANDS" = some (some (.int 3 mh)):=by k_is) {mi:Tok} (xt:dH K bQ "MOST_LETTERS" = some (some (.int 12 mi)):=by k_is) {qT:Addr} (Mz:dH K bQ "PRIMES" = some (some (.ref qT)):=by k_is) (wo:autoParam (A6 K qT [3,5,7]=true) Af._auto_1) :
  ∃ fd:aJ,(∀ (s:ar) (v:Value),NY s fd ⟨[v],[]⟩ [("_law_script",v)])/\∀ base:Heap,K.In base->base.Ns bQ mg->fV l.prog w K mg base gP 8 fa fd ["_law_script"] (dj K K2.Bb):=by
 have e:=hfa.symm.trans (xg X G F31.a);cases e;have b0:=F0.F.binds (ps:=["_law_script","_law_k"]) fun _ _ _ _ _ _ us hl=>by obtain⟨_,_,rfl⟩:=uH hl; rfl
 have b1:=F1.F.binds (ps:=["_law_cells","_law_strands"]) fun _ _ _ _ _ _ us hl=>by obtain⟨_,_,rfl⟩:=uH hl; rfl
 have b2:=F2.F.binds (ps:=["letters","strands"]) fun _ _ _ _ _ _ us hl=>by obtain⟨_,_,rfl⟩:=uH hl; rfl
 have b3:=F3.F.binds (ps:=["name","letter","place"]) fun _ _ _ _ _ _ us hl=>by obtain⟨_,_,_,rfl⟩:=Pk hl; rfl
 have b4:=F4.F.binds (ps:=["letters","top"]) fun _ _ _ _ _ _ us hl=>by obtain⟨_,_,rfl⟩:=uH hl; rfl
 have b5:=F5.F.binds (ps:=["letters","top"]) fun _ _ _ _ _ _ us hl=>by obtain⟨_,_,rfl⟩:=uH hl; rfl
 have b6:=F6.F.binds (ps:=["row"]) fun _ _ _ _ _ _ us hl=>by obtain⟨_,rfl⟩:=wh hl; rfl
 have b7:=F7.F.binds (ps:=["rows"]) fun _ _ _ _ _ _ us hl=>by obtain⟨_,rfl⟩:=wh hl; rfl
 have b8:=F8.F.binds (ps:=["letters","strands"]) fun _ _ _ _ _ _ us hl=>by obtain⟨_,_,rfl⟩:=uH hl; rfl
 have b9:=F9.F.binds (ps:=["_law_strands","_law_p"]) fun _ _ _ _ _ _ us hl=>by obtain⟨_,_,rfl⟩:=uH hl; rfl
 have b10:=F10.F.binds (ps:=["_law_numbers","_law_letters_here","_law_p"]) fun _ _ _ _ _ _ us hl=>by obtain⟨_,_,_,rfl⟩:=Pk hl; rfl
 have b11:=F11.F.binds (ps:=["p","count"]) fun _ _ _ _ _ _ us hl=>by obtain⟨_,_,rfl⟩:=uH hl; rfl
 have b12:=F12.F.binds (ps:=["p"]) fun _ _ _ _ _ _ us hl=>by obtain⟨_,rfl⟩:=wh hl; rfl
 have b13:=F13.F.binds (ps:=["row","string"]) fun _ _ _ _ _ _ us hl=>by obtain⟨_,_,rfl⟩:=uH hl; rfl
 have b14:=F14.F.binds (ps:=["row","string"]) fun _ _ _ _ _ _ us hl=>by obtain⟨_,_,rfl⟩:=uH hl; rfl
 have b15:=WS.F.binds (ps:=["drawing"]) fun _ _ _ _ _ _ us hl=>by obtain⟨_,rfl⟩:=wh hl; rfl
 have b16:=WR.F.binds (ps:=["drawing"]) fun _ _ _ _ _ _ us hl=>by obtain⟨_,rfl⟩:=wh hl; rfl
 have b17:=F17.F.binds (ps:=["factors","place","other","p"]) fun _ _ _ _ _ _ us hl=>by obtain⟨_,_,_,_,rfl⟩:=X1 hl; rfl
 have b18:=F18.F.binds (ps:=["factors"]) fun _ _ _ _ _ _ us hl=>by obtain⟨_,rfl⟩:=wh hl; rfl
 have b19:=F19.F.binds (ps:=["factors","place","p"]) fun _ _ _ _ _ _ us hl=>by obtain⟨_,_,_,rfl⟩:=Pk hl; rfl
 have b20:=F20.F.binds (ps:=["equations","p"]) fun _ _ _ _ _ _ us hl=>by obtain⟨_,_,rfl⟩:=uH hl; rfl
 have b21:=F21.F.binds (ps:=["drawing"]) fun _ _ _ _ _ _ us hl=>by obtain⟨_,rfl⟩:=wh hl; rfl
 have b22:=F22.F.binds (ps:=["drawing"]) fun _ _ _ _ _ _ us hl=>by obtain⟨_,rfl⟩:=wh hl; rfl
 have b23:=F23.F.binds (ps:=["rows"]) fun _ _ _ _ _ _ us hl=>by obtain⟨_,rfl⟩:=wh hl; rfl
 have b24:=Z9.F.binds (ps:=["drawing"]) fun _ _ _ _ _ _ us hl=>by obtain⟨_,rfl⟩:=wh hl; rfl
 have b25:=Z8.F.binds (ps:=["drawing"]) fun _ _ _ _ _ _ us hl=>by obtain⟨_,rfl⟩:=wh hl; rfl
 have b26:=Z7.F.binds (ps:=["three","count","p"]) fun _ _ _ _ _ _ us hl=>by obtain⟨_,_,_,rfl⟩:=Pk hl; rfl
 have b27:=Z6.F.binds (ps:=["by_place","free","count","p"]) fun _ _ _ _ _ _ us hl=>by obtain⟨_,_,_,_,rfl⟩:=X1 hl; rfl
 have b28:=Z5.F.binds (ps:=["drawing","p"]) fun _ _ _ _ _ _ us hl=>by obtain⟨_,_,rfl⟩:=uH hl; rfl
 have b29:=Z4.F.binds (ps:=["drawing","p"]) fun _ _ _ _ _ _ us hl=>by obtain⟨_,_,rfl⟩:=uH hl; rfl
 have b30:=Z3.F.binds (ps:=["_law_found"]) fun _ _ _ _ _ _ us hl=>by obtain⟨_,rfl⟩:=wh hl; rfl
 have jm:=cU X G WX;have lj:=cU X G WZ;have fv:=cU X G Ek;have H0:=cU X G WW;have dM:=cU X G RM;have jj:=cU X G Uo;have HZ:=cU X G WV;have lZ:=cU X G N6;have wc:=cU X G WU;have CU:=cU X G Uq;have Ia:=cU X G WY;have kF:=cU X G Ci;obtain⟨Fa,Fl⟩:=F31;obtain⟨oc,od,kV,doc,pm,an,oR,ct,O0,rfl,lk,GQ⟩:=Fl.ex;refine⟨jT "law" "law" (nJ (top 43)) (jQ (top 43)) (a9 (top 43)) .none kV doc pm an oR ct,fun s v=>.of_eq rfl,fun base _ _=>?_⟩;have ok0:=FF (P:=l.prog) (w:=w) (mg:=mg) (base:=base) F0.F jm;have ok1:=zu (P:=l.prog) (w:=w) (mg:=mg) (base:=base) F1.F;have ok2:=sZ (P:=l.prog) (w:=w) (mg:=mg) (base:=base) F2.F lj jm (xg X G xr) (xg X G xt);have XE:=Ax (P:=l.prog) (w:=w) (mg:=mg) (base:=base) F3.F lj;have ok4:=Dj (P:=l.prog) (w:=w) (mg:=mg) (base:=base) F4.F lj fv ⟨XE,F3.mg X G,F3.F.kp,b3⟩;have ok5:=zm (P:=l.prog) (w:=w) (mg:=mg) (base:=base) F5.F ⟨ok4,F4.mg X G,F4.F.kp,b4⟩;have ok6:=ME (P:=l.prog) (w:=w) (mg:=mg) (base:=base) F6.F H0;have ok7:=zq (P:=l.prog) (w:=w) (mg:=mg) (base:=base) F7.F ⟨ok6,F6.mg X G,F6.F.kp,b6⟩;have ok8:=MG (P:=l.prog) (w:=w) (mg:=mg) (base:=base) F8.F dM ⟨ok2,F2.mg X G,F2.F.kp,b2⟩ ⟨ok5,F5.mg X G,F5.F.kp,b5⟩ ⟨ok7,F7.mg X G,F7.F.kp,b7⟩;have ok9:=FE (P:=l.prog) (w:=w) (mg:=mg) (base:=base) F9.F dM;have aba:=zv (P:=l.prog) (w:=w) (mg:=mg) (base:=base) F10.F lj jj;have aa9:=FC (P:=l.prog) (w:=w) (mg:=mg) (base:=base) F11.F dM;have aa8:=xp (P:=l.prog) (w:=w) (mg:=mg) (base:=base) F12.F (xg X G Mz) wo;have aa7:=FA (P:=l.prog) (w:=w) (mg:=mg) (base:=base) F13.F;have aa6:=II (P:=l.prog) (w:=w) (mg:=mg) (base:=base) F14.F ⟨aa7,F13.mg X G,F13.F.kp,b13⟩;have XG:=MH (P:=l.prog) (w:=w) (mg:=mg) (base:=base) WS.F fv ⟨aa6,F14.mg X G,F14.F.kp,b14⟩;have XF:=S2 (P:=l.prog) (w:=w) (mg:=mg) (base:=base) WR.F jj HZ lZ ⟨XG,WS.mg X G,WS.F.kp,b15⟩;have aa5:=IH (P:=l.prog) (w:=w) (mg:=mg) (base:=base) F17.F wc;have aa4:=Ay (P:=l.prog) (w:=w) (mg:=mg) (base:=base) F18.F fv;have aa3:=MF (P:=l.prog) (w:=w) (mg:=mg) (base:=base) F19.F dM;have aa2:=MD (P:=l.prog) (w:=w) (mg:=mg) (base:=base) F20.F jj ⟨aa5,F17.mg X G,F17.F.kp,b17⟩ ⟨aa4,F18.mg X G,F18.F.kp,b18⟩ ⟨aa3,F19.mg X G,F19.F.kp,b19⟩;have aa1:=IG (P:=l.prog) (w:=w) (mg:=mg) (base:=base) F21.F wc;have aa0:=Dk (P:=l.prog) (w:=w) (mg:=mg) (base:=base) F22.F ⟨aa1,F21.mg X G,F21.F.kp,b21⟩;have aaZ:=zt (P:=l.prog) (w:=w) (mg:=mg) (base:=base) F23.F;have aaY:=FD (P:=l.prog) (w:=w) (mg:=mg) (base:=base) Z9.F lZ ⟨aaZ,F23.mg X G,F23.F.kp,b23⟩;have aaX:=Dh (P:=l.prog) (w:=w) (mg:=mg) (base:=base) Z8.F ⟨XF,WR.mg X G,WR.F.kp,b16⟩ ⟨XG,WS.mg X G,WS.F.kp,b15⟩ ⟨aa0,F22.mg X G,F22.F.kp,b22⟩ ⟨aaY,Z9.mg X G,Z9.F.kp,b24⟩;have aaW:=zw (P:=l.prog) (w:=w) (mg:=mg) (base:=base) Z7.F dM;have aaV:=uZ (P:=l.prog) (w:=w) (mg:=mg) (base:=base) Z6.F dM;have aaU:=P9 (P:=l.prog) (w:=w) (mg:=mg) (base:=base) Z5.F jm dM ⟨aa8,F12.mg X G,F12.F.kp,b12⟩ ⟨XF,WR.mg X G,WR.F.kp,b16⟩ ⟨aa2,F20.mg X G,F20.F.kp,b20⟩ ⟨aaX,Z8.mg X G,Z8.F.kp,b25⟩ ⟨aaW,Z7.mg X G,Z7.F.kp,b26⟩ ⟨aaV,Z6.mg X G,Z6.F.kp,b27⟩;have aaT:=sd (P:=l.prog) (w:=w) (mg:=mg) (base:=base) Z4.F jm ⟨aa9,F11.mg X G,F11.F.kp,b11⟩ ⟨aaU,Z5.mg X G,Z5.F.kp,b28⟩;have aaS:=Di (P:=l.prog) (w:=w) (mg:=mg) (base:=base) Z3.F CU Ia kF;exact V3 Fl jm jj ⟨ok0,F0.mg X G,F0.F.kp,b0⟩ ⟨ok1,F1.mg X G,F1.F.kp,b1⟩ ⟨ok8,F8.mg X G,F8.F.kp,b8⟩ ⟨ok9,F9.mg X G,F9.F.kp,b9⟩ ⟨aba,F10.mg X G,F10.F.kp,b10⟩ ⟨aaT,Z4.mg X G,Z4.F.kp,b29⟩ ⟨aaS,Z3.mg X G,Z3.F.kp,b30⟩
section
open PySem.W PySem.Calls
noncomputable def hC (n:Str) (t:Nat) (l:List Value):Obj:=⟨.type "code",none,.fields (.str n t :: .str n (t+1) :: .str "/claim/cut.py" (t+2) :: l).toArray,#[]⟩
noncomputable def hI(n:Int):Value:=.int n 0
noncomputable def hR(n:Nat):Value:=.ref n
noncomputable def hN:Value:=.none
noncomputable def hT:Value:=.bool true
noncomputable def hS (n:Nat):Value:=.str "/claim/cut.py" n
noncomputable def hD(n:Str)(t:Nat)(l a:Int)(r:Nat)(x y z:Value)(u:Nat):Obj:=hC n t [hI l,hI a,hI 0,hI 0,hI 3,hR r,hT,hI 181,hR (r+1),hN,x,y,z,hI (u - 1),hI l,hS u]
noncomputable abbrev hF (i:Nat) (n:Str) (m c:Value):Obj:=⟨.type "function",none,.func (jT n n (nJ (top i)) (jQ (top i)) (a9 (top i)) .none .none .none m none c .none),#[]⟩
noncomputable abbrev hE(P:Params)(s:Str)(t:Nat)(v:Value):gK:=⟨PyData.keyHash P s,.str s t,v⟩
noncomputable def hQ:bE:=PySem.W.view PySem.Challenge.pw_knotwise_k56_whole_braids_by_their_tops [1,2,3,5,6,7,8,9,10,12,14,15,16,17,18,19,20,21,22,23,24,25,26,27,28,30,31,32,33,34,35,36,38,39,40,41,42,43]
noncomputable def hK (P:Params):ah:=(nat_lit 3,⟨(.type "dict"),none,(.dict #[hE P "__name__" 165 (.str "law_knotwise_k56_whole_braids_by_their_tops" 478),hE P "__doc__" 166 .none,hE P "__package__" 167 .none,hE P "__loader__" 168 (.builtin "__main__.__loader__#opaque"),hE P "__spec__" 169 .none,hE P "__annotations__" 170 (.ref 6),hE P "__builtins__" 171 (.ref 4),hE P "__file__" 173 (.str "/claim/cut.py" 172),hE P "__cached__" 174 .none,hE P "KnotError" 206 (.ref 24),hE P "NoPrime" 222 (.ref 37),hE P "NoBraid" 238 (.ref 49),hE P "passings_of" 249 (.ref 58),hE P "seated" 257 (.ref 65),hE P "seated_rows" 263 (.ref 70),hE P "names_of" 269 (.ref 75),hE P "spots_on" 275 (.ref 80),hE P "next_of" 286 (.ref 87),hE P "coming_of" 298 (.ref 94),hE P "PRIMES" 304 (.ref 95),hE P "bows_on" 310 (.ref 100),hE P "bow_at" 320 (.ref 107),hE P "bows" 327 (.ref 114),hE P "refuse_other" 334 (.ref 121),hE P "places_at" 347 (.ref 128),hE P "power_of" 357 (.ref 135),hE P "equation_of" 363 (.ref 140),hE P "last_place" 369 (.ref 145),hE P "scaled" 375 (.ref 150),hE P "cleared" 381 (.ref 155),hE P "solved" 394 (.ref 162),hE P "basis" 400 (.ref 167),hE P "colouring_from" 406 (.ref 172),hE P "count_colourings" 414 (.ref 179),hE P "MOST_LETTERS" 418 (.int 12 417),hE P "MOST_STRANDS" 420 (.int 3 419),hE P "refuse_no_braid" 429 (.ref 186),hE P "passing_at" 440 (.ref 193),hE P "gone_down" 453 (.ref 200),hE P "string_from" 465 (.ref 207),hE P "closed" 477 (.ref 214),hE P "_law_cell" 487 (.ref 221),hE P "_law_whole" 494 (.ref 228),hE P "_law_letters" 504 (.ref 235),hE P "_law_carried" 518 (.ref 242),hE P "_law_tops" 524 (.ref 247),hE P "law" 530 (.ref 252)] 47),#[]⟩) ::
(nat_lit 57,hD "passings_of" 241 9 1 52 (hR 54) (hR 55) (hR 56) 248) ::
(nat_lit 58,hF 5 "passings_of" (.str "knotwise.drawings" 239) (.ref 57)) ::
(nat_lit 64,hD "seated" 250 14 1 59 (hR 61) (hR 62) (hR 63) 256) ::
(nat_lit 65,hF 6 "seated" (.str "knotwise.drawings" 239) (.ref 64)) ::
(nat_lit 69,hD "seated_rows" 258 19 1 66 hN hN (hR 68) 262) ::
(nat_lit 70,hF 7 "seated_rows" (.str "knotwise.drawings" 239) (.ref 69)) ::
(nat_lit 74,hD "names_of" 264 21 1 71 hN hN (hR 73) 268) ::
(nat_lit 75,hF 8 "names_of" (.str "knotwise.drawings" 239) (.ref 74)) ::
(nat_lit 79,hD "spots_on" 270 23 2 76 hN hN (hR 78) 274) ::
(nat_lit 80,hF 9 "spots_on" (.str "knotwise.drawings" 239) (.ref 79)) ::
(nat_lit 86,hD "next_of" 276 27 1 81 (hR 83) (hR 84) (hR 85) 285) ::
(nat_lit 87,hF 10 "next_of" (.str "knotwise.drawings" 239) (.ref 86)) ::
(nat_lit 93,hD "coming_of" 289 34 1 88 (hR 90) (hR 91) (hR 92) 297) ::
(nat_lit 94,hF 12 "coming_of" (.str "knotwise.sides" 287) (.ref 93)) ::
(nat_lit 95,⟨(.type "tuple"),none,(.seq #[(.int 3 301),(.int 5 302),(.int 7 303)] 0),#[]⟩) ::
(nat_lit 99,hD "bows_on" 305 42 2 96 hN hN (hR 98) 309) ::
(nat_lit 100,hF 15 "bows_on" (.str "knotwise.colours" 299) (.ref 99)) ::
(nat_lit 106,hD "bow_at" 311 52 1 101 (hR 103) (hR 104) (hR 105) 319) ::
(nat_lit 107,hF 16 "bow_at" (.str "knotwise.colours" 299) (.ref 106)) ::
(nat_lit 113,hD "bows" 321 57 1 108 (hR 110) (hR 111) (hR 112) 326) ::
(nat_lit 114,hF 17 "bows" (.str "knotwise.colours" 299) (.ref 113)) ::
(nat_lit 120,hD "refuse_other" 328 59 1 115 (hR 117) (hR 118) (hR 119) 333) ::
(nat_lit 121,hF 18 "refuse_other" (.str "knotwise.colours" 299) (.ref 120)) ::
(nat_lit 127,hD "places_at" 335 62 1 122 (hR 124) (hR 125) (hR 126) 346) ::
(nat_lit 128,hF 19 "places_at" (.str "knotwise.colours" 299) (.ref 127)) ::
(nat_lit 134,hD "power_of" 348 71 2 129 (hR 131) (hR 132) (hR 133) 356) ::
(nat_lit 135,hF 20 "power_of" (.str "knotwise.colours" 299) (.ref 134)) ::
(nat_lit 139,hD "equation_of" 358 76 3 136 hN hN (hR 138) 362) ::
(nat_lit 140,hF 21 "equation_of" (.str "knotwise.colours" 299) (.ref 139)) ::
(nat_lit 144,hD "last_place" 364 82 1 141 hN hN (hR 143) 368) ::
(nat_lit 145,hF 22 "last_place" (.str "knotwise.colours" 299) (.ref 144)) ::
(nat_lit 149,hD "scaled" 370 85 3 146 hN hN (hR 148) 374) ::
(nat_lit 150,hF 23 "scaled" (.str "knotwise.colours" 299) (.ref 149)) ::
(nat_lit 154,hD "cleared" 376 88 4 151 hN hN (hR 153) 380) ::
(nat_lit 155,hF 24 "cleared" (.str "knotwise.colours" 299) (.ref 154)) ::
(nat_lit 161,hD "solved" 382 91 2 156 (hR 158) (hR 159) (hR 160) 393) ::
(nat_lit 162,hF 25 "solved" (.str "knotwise.colours" 299) (.ref 161)) ::
(nat_lit 166,hD "basis" 395 104 2 163 hN hN (hR 165) 399) ::
(nat_lit 167,hF 26 "basis" (.str "knotwise.colours" 299) (.ref 166)) ::
(nat_lit 171,hD "colouring_from" 401 109 4 168 hN hN (hR 170) 405) ::
(nat_lit 172,hF 27 "colouring_from" (.str "knotwise.colours" 299) (.ref 171)) ::
(nat_lit 178,hD "count_colourings" 407 115 2 173 (hR 175) (hR 176) (hR 177) 413) ::
(nat_lit 179,hF 28 "count_colourings" (.str "knotwise.colours" 299) (.ref 178)) ::
(nat_lit 185,hD "refuse_no_braid" 421 120 2 180 (hR 182) (hR 183) (hR 184) 428) ::
(nat_lit 186,hF 32 "refuse_no_braid" (.str "knotwise.braids" 415) (.ref 185)) ::
(nat_lit 192,hD "passing_at" 430 128 3 187 (hR 189) (hR 190) (hR 191) 439) ::
(nat_lit 193,hF 33 "passing_at" (.str "knotwise.braids" 415) (.ref 192)) ::
(nat_lit 199,hD "gone_down" 441 132 2 194 (hR 196) (hR 197) (hR 198) 452) ::
(nat_lit 200,hF 34 "gone_down" (.str "knotwise.braids" 415) (.ref 199)) ::
(nat_lit 206,hD "string_from" 454 141 2 201 (hR 203) (hR 204) (hR 205) 464) ::
(nat_lit 207,hF 35 "string_from" (.str "knotwise.braids" 415) (.ref 206)) ::
(nat_lit 213,hD "closed" 466 151 2 208 (hR 210) (hR 211) (hR 212) 476) ::
(nat_lit 214,hF 36 "closed" (.str "knotwise.braids" 415) (.ref 213)) ::
(nat_lit 220,hD "_law_cell" 480 162 2 215 (hR 217) (hR 218) (hR 219) 486) ::
(nat_lit 221,hF 38 "_law_cell" (.str "law_knotwise_k56_whole_braids_by_their_tops" 478) (.ref 220)) ::
(nat_lit 227,hD "_law_whole" 488 166 1 222 (hR 224) (hR 225) (hR 226) 493) ::
(nat_lit 228,hF 39 "_law_whole" (.str "law_knotwise_k56_whole_braids_by_their_tops" 478) (.ref 227)) ::
(nat_lit 234,hD "_law_letters" 495 168 2 229 (hR 231) (hR 232) (hR 233) 503) ::
(nat_lit 235,hF 40 "_law_letters" (.str "law_knotwise_k56_whole_braids_by_their_tops" 478) (.ref 234)) ::
(nat_lit 241,hD "_law_carried" 505 174 3 236 (hR 238) (hR 239) (hR 240) 517) ::
(nat_lit 242,hF 41 "_law_carried" (.str "law_knotwise_k56_whole_braids_by_their_tops" 478) (.ref 241)) ::
(nat_lit 246,hD "_law_tops" 519 187 2 243 hN hN (hR 245) 523) ::
(nat_lit 247,hF 42 "_law_tops" (.str "law_knotwise_k56_whole_braids_by_their_tops" 478) (.ref 246)) ::
(nat_lit 251,hD "law" 525 195 1 248 hN hN (hR 250) 529) ::
(nat_lit 252,hF 43 "law" (.str "law_knotwise_k56_whole_braids_by_their_tops" 478) (.ref 251)) :: []
noncomputable def hA:List Addr:=[3,57,58,64,65,69,70,74,75,79,80,86,87,93,94,95,99,100,106,107,113,114,120,121,127,128,134,135,139,140,144,145,149,150,154,155,161,162,166,167,171,172,178,179,185,186,192,193,199,200,206,207,213,214,220,221,227,228,234,235,241,242,246,247,251,252]
noncomputable def hL:List Str:=[]
theorem VX(w:World)(os:OsState):(topFrom treeTable (PySem.Challenge.rw_knotwise_k56_whole_braids_by_their_tops).row.prog w 3428 ⟨boot_heap w.params,Array.mk [],boot_drawn,boot_toks,os⟩).map (fun s=>(openSeen hQ hL (NN (PySem.Challenge.rw_knotwise_k56_whole_braids_by_their_tops).row.prog.main.body) (W0 PySem.Challenge.rw_knotwise_k56_whole_braids_by_their_tops hQ) true s,hA.map s.heap.get?))=some (openGood hQ hL,(hK w.params).map fun p=>some p.2):=by kernel_rfl
theorem VW:(PySem.Challenge.rw_knotwise_k56_whole_braids_by_their_tops).wellSaid=true:=by kernel_rfl
theorem VV:JJ PySem.Challenge.rw_knotwise_k56_whole_braids_by_their_tops hQ=true:=by kernel_rfl
end
end Fin
end Internal
open Internal
open PySem PySem.W PyProof.Rows
set_option maxRecDepth 100000 in
set_option maxHeartbeats 0 in
theorem PySem.Challenge.cw_knotwise_k56_whole_braids_by_their_tops_holds : PySem.Challenge.rw_knotwise_k56_whole_braids_by_their_tops.Holds := by
 w_on
 refine K2.Ms (q:=Fin.hQ) (K:=Fin.hK) (as:=Fin.hA) (N:=3428) Fin.VW (by kernel_rfl) (by kernel_rfl) (fun _=>by kernel_rfl) (fun _=>by kernel_rfl) Fin.VX (by rfl) (by rfl) (by rfl) (by rfl) Fin.VV ⟨rfl,rfl,rfl,rfl,rfl,by decide +kernel⟩ ?hw ?hc
 (case hw=>w_witness2)
 k_fill
 refine K2.Pl (l:=PySem.Challenge.rw_knotwise_k56_whole_braids_by_their_tops) (k:=8) (x:="_law_script") rfl rfl ⟨rfl,by decide,by decide⟩ (fun w h Y=>Y) ?F
 case F =>
  intro w mg fa h KX G Yp;exact Fin.all_mk KX G Yp K2.fB K2.fB K2.fB K2.fB K2.fB K2.fB K2.fB K2.fB K2.fB K2.fB K2.fB K2.fB K2.fB K2.fB K2.fB K2.fB K2.fB K2.fB K2.fB K2.fB K2.fB K2.fB K2.fB K2.fB K2.fB K2.fB K2.fB K2.fB K2.fB K2.fB K2.fB K2.fB
