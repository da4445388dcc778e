import PyProof.Rows.All
import Wide.All
import OpenK.AllK
import Wide.FinOn
import Lean
import PyProof.EqAt
import PyProof.EqKinds
import PyProof.TupleCall
import PySem.Challenge.RW_knotwise_k44_whole_both_ways_one_bracket
open Array renaming length_toList -> ff, forIn_toList -> my, getElem?_eq_getElem -> IV, getD -> KU, mk -> Ms, getElem?_eq_none -> N9
open Array.Perm renaming refl -> oU
open Bool renaming false_eq_true -> ay, and_eq_true -> aK, noConfusion -> aW, not_true -> bF, not_false -> di, false_ne_true -> iG, and_eq_true_iff -> pV, or_eq_true -> qI, false_and -> KR, and_false -> KS, false_or -> N8, beq_eq_decide_eq -> RQ
open Classical renaming byContradiction -> ip, choose_spec -> IQ
open False renaming elim -> bJ
open ForInStep renaming yield -> um
open Function renaming comp_def -> zr
open Int renaming toNat_natCast -> eF, emod_lt_of_pos -> iH, emod_nonneg -> kE, eq_ofNat_of_zero_le -> mX, natCast_nonneg -> se, add_zero -> xq, add_comm -> Fd, mul_add -> IL, zero_add -> Se
open List renaming getElem?_cons_zero -> aa, getElem?_cons_succ -> ae, length_cons -> ai, set_cons_zero -> aj, map_cons -> ak, length_map -> ao, set_cons_succ -> aq, length_append -> av, length_nil -> aB, getElem?_eq_getElem -> aC, cons_append -> aE, mem_cons_of_mem -> aJ, map_append -> aL, nil_append -> aM, replicate -> aR, map_nil -> aS, nodup_cons -> aY, size_toArray -> a8, mem_cons -> bb, map_map -> bh, getElem?_map -> bx, mem_map_of_mem -> bA, filter_cons -> bD, not_mem_nil -> bG, flatMap_cons -> bO, append_assoc -> bP, mem_singleton -> bS, foldl_cons -> bU, append_nil -> cj, nodup_nil -> cq, nodup_append -> cy, mem_cons_self -> cA, find?_cons_of_pos -> cB, find?_cons_of_neg -> cC, getElem?_append_right -> cD, mem_append_left -> cH, length -> cM, flatten_cons -> cO, length_drop -> cP, getD_eq_getElem?_getD -> cT, length_singleton -> cU, getElem?_append_left -> cY, mem_append_right -> dw, map_congr_left -> dB, find?_cons -> dD, filter_append -> dU, length_filter_le -> eA, length_take -> eB, getElem?_set_self -> eU, all_eq_true -> eY, length_replicate -> fx, foldl_append -> fy, length_set -> fD, find?_eq_none -> fE, getElem?_set_ne -> fG, mem_of_find?_eq_some -> fW, getElem_mem -> gI, mem_of_getElem? -> gO, length_zip -> hW, drop_eq_getElem_cons -> iJ, range -> i0, length_erase_of_mem -> i4, length_pos_of_mem -> jQ, pairwise_map -> kQ, map_id -> lI, flatten_append -> lJ, filter_sublist -> lK, all_map -> lO, getElem?_replicate -> mR, any_cons -> mS, flatMap_singleton -> nJ, drop_eq_nil_of_le -> nK, take_append_drop -> oR, perm_append_comm -> oS, getElem?_eq_none -> oT, getElem_zip -> o8, getElem_map -> o9, mem_erase_of_ne -> pR, getElem?_of_mem -> pT, zipIdx_map_fst -> qG, find?_some -> qH, zip_cons_cons -> rV, map_singleton -> rW, getElem_range -> rX, sum_cons -> uB, all_cons -> uC, getElem?_toArray -> xb, forIn_cons -> xc, filter_nil -> xf, filterMap_cons -> zq, take_nil -> BR, drop_nil -> BU, length_range -> CC, set_nil -> DH, lookup_cons -> Fc, countP_eq_length_filter -> Fx, of_mem_zip -> Ik, mem_append -> Il, nodup_iff_pairwise_ne -> IK, mem_or_eq_of_mem_set -> KO, forIn_nil -> KP, filter_cons_of_pos -> N1, filter_cons_of_neg -> N5, eraseIdx_cons_zero -> N6, eraseIdx_cons_succ -> N7, take_of_length_le -> OB, flatten_singleton -> OC, set_getElem_self -> RP, replicate_succ' -> Sd
open List.Nodup renaming length_le_of_subset -> mU
open List.Perm renaming append -> nM, swap -> vm, cons -> DI
open List.Sublist renaming map -> mT, nodup -> oW
open Nat renaming le_refl -> aH, le_trans -> aU, ne_of_lt -> bu, lt_of_lt_of_le -> bK, zero_le -> cp, lt_of_le_of_lt -> dW, pow_le_pow_right -> eQ, mul_le_mul_right -> iZ, lt_irrefl -> jk, le_add_right -> lG, ne_of_gt -> oV, succ_le_succ -> pP, lt_succ_self -> pQ, add_assoc -> qk, lt_succ_of_lt -> uk, add_sub_cancel_left -> uQ, lt_add_right -> vk, le_of_succ_le_succ -> vq, zero_add -> xl, pow_succ -> xm, not_lt_zero -> xn, le_succ -> zX, le_succ_of_le -> DG, add_zero -> Fb, lt_of_succ_lt_succ -> RO, le_of_lt -> Sb
open Ne renaming symm -> dG
open Option renaming map_some -> mf, getD_some -> uj, isSome_map -> BQ, getD_none -> CA, bind_some -> CB
open Option.some renaming inj -> ba, injEq -> Mr
open PyProof.Rows renaming callWith_type1 -> dI, callWith_builtin1 -> me, IntsAre -> ox, slot_tuple_getitem -> xa, boot_isinstance -> zb, seqObj -> zQ, AllBare -> zY, preSum_getD -> B1, envOfC -> Cz
open PySem renaming wpAny_bind -> ah, wpAny_pure -> az, Shared -> aA, sizeLine -> a9, Program -> bE, starEach -> bI, mainGlobals -> bR, wpAny_loadPart' -> ck, wpAny_holding -> cG, wpAny_call_entry -> cQ, sysModules -> cS, sizeLine_eq -> cV, Around -> dg, wpAny_newObj_type -> dj, bootBuiltins -> dZ, wpAny_callSpecial?_slot -> eP, compareOp -> eS, wpAny_Call_Name_kw -> eX, DictEntry -> fL, wpAny_dictEntries -> gm, FuncData -> gy, wpAny_field -> iu, tupleKind -> iS, ReadsAll -> iT, mem_of_lookup -> jh, wpAny_typeNameOfWhole_itemiter -> jO, binaryOp -> jT, wpAny_typeNameOfWhole_keyiter -> j3, wpAny_seqItems -> ke, wpAny_setField_rec -> kO, tupleKind_room_in1 -> kP, wpAny_passesOwn -> kY, codeAny_builtin -> k0, plainId_quiet -> lC, Paired -> lE, wpAny_typeNameOf_itemiter -> mx, wpAny_isInstance -> mN, wpAny_forIn_list -> mO, wpAny_typeNameOf_keyiter -> nB, pyNext -> nC, call_meetsIn -> nE, wpAny_dictEpoch -> ow, wpAny_isOneOf_itemiter -> o7, wpAny_truthy_bool -> pL, wpAny_pyIter_slot -> pM, foldedSetIterable -> pN, valueAt -> pO, IsItemIter -> pU, wpAny_fieldsOf -> qh, ZipApart -> qi, wpAny_notOrdered_dict -> qj, backTo -> rE, wpAny_attempt -> rQ, wpAny_letGo -> sf, sliceBounds -> sg, richCompare -> si, argBest -> sr, NameKind -> uA, wpAny_tryCatch -> uO, rawInt -> vo, wpAny_Call_method0_late -> xj, codeAny -> xk, IsPair -> yk, wpAny_nextOf_list_item -> y7, richCompare_meets_room -> y8, evalArgs_none -> y9, wpAny_updateSeq -> zN, wpAny_specialOf -> zO, wpAny_execs_nil -> zP, letOwnedTupleGo -> zR, isSubtype_tuple_tuple -> zT, importedModules -> zU, holding -> zV, assignEach -> BN, firstArgMember -> Cy, spliced -> DE, wpAny_tupleItemsOf -> Fs, wpAny_standAt -> Ft, pyIter -> Fu, attributeBase -> Fv, HeapKind -> Fy, wpAny_truthy_dict -> Iz, wpAny_pyIter_list -> IA, wpAny_mono -> IB, storedH -> IC, relabel -> ID, intKind -> IE, callerA -> IF, call_meets -> IG, wpAny_callSpecialIfBound?_slot -> KC, stored -> KD, codeAny_mono -> KG, assign -> KH, call -> KI, wpAny_pyIter_zip -> Mo, wpAny_letOwnedTupleGo_items -> Ot, valueAt -> Ou, swapsWith -> Ov, eqIsQuiet -> Ox, wpAny_setField -> R7, wpAny_newTuple -> R8, isSubtype_stop -> R9
open PySem.Around renaming under_plainId -> gJ
open PySem.AutoSeq1 renaming sub_tuple_tuple -> rG, sub_list_list -> IU
open PySem.Builtin.Builtins renaming bindParams -> xg
open PySem.Builtin.Dict renaming showsAll -> mi, updateFrom -> CD, takeOut -> FD
open PySem.Builtin.Dict_items renaming ownsTuple -> fN, ownedTupleIsFree -> jG, ownedTupleFields -> rF, pairFromOwner -> sC
open PySem.Builtin.Int renaming intBits -> IT
open PySem.Builtin.List renaming listTooLong -> kF
open PySem.Builtin.Slice renaming slicePlaces -> jX, sliceAdjust -> oX, sliceApplied -> zu
open PySem.Builtin.SmallTypes renaming ownedTupleIsFree -> fX, nextOf -> ji
open PySem.Builtin.Tuple renaming tupleHashOf -> eE, tupleExact -> kl, tupleCompareSizes -> vr, tupleItemsOf -> zt
open PySem.Calls renaming spliced_cons -> iA, callWith_builtin -> nF, spliced_nil -> nN, Name_function_global -> Ip, call_function_entry -> IS
open PySem.F renaming plainAttrs_dict -> cI, slot_dict_get -> dh, plainAttrs_list -> dn, type_list_append -> gj, slot_list_append -> gk, slot_dict_items -> gL, type_dict_get -> ik, slot_dict_itemiterator_next -> jU, slot_dict_itemiterator_iter -> jV, plain_min_loop -> jW, slot_dict_keyiterator_next -> kj, args_dict_get_3 -> lN, entry_dict_get -> mQ, slot_tuple_lt -> nI, args_dict_items_1 -> qN, type_list_extend -> rR, slot_list_extend -> rS, entry_dict_items -> rT, type_dict_items -> sx, args_tuple_lt_2 -> sA, entry_tuple_lt -> ui, slot_dict_pop -> uP, slot_list_lt -> vp, slot_zip_next -> zc, args_dict_itemiterator_next_1 -> FA, args_dict_itemiterator_iter_1 -> FC, args_tuple_add_2 -> Ij, entry_dict_itemiterator_next -> Im, args_dict_keyiterator_next_1 -> Io, entry_tuple_add -> IJ, entry_min_loop -> IM, entry_dict_keyiterator_next -> IP, slot_tuple_add -> KL, args_list_lt_2 -> KN, slot_dict_keyiterator_iter -> KQ, type_dict_pop -> Mp, entry_list_lt -> Mq
open PySem.Heap renaming get?_push_of_some -> aF, lt_size -> aP, get?_push_size -> bc, get?_update_other -> dJ, SameBut -> fI, size_push -> jI, get?_update_self -> kg, size_update -> Fe, get?_none_of_le -> Sf
open PySem.Heap.DictOf renaming new -> OD
open PySem.Heap.SameBut renaming update -> kh
open PySem.NameKind renaming free -> lH
open PySem.Obj renaming mapSeq -> jP
open PySem.Paired renaming length -> jd, snoc -> RN
open PySem.PassesOwn renaming never -> aZ
open PySem.PyData renaming depthAll -> cF, eqv -> BO
open PySem.SeqAt renaming any_by_data -> su, items_eqAt -> ux
open PySem.Str renaming ofString -> kD
open PySem.Value renaming int -> eT, ref -> fK, none -> gQ, isInt -> uh
open PySem.W renaming Frag -> ar, nsIn -> e7, kas_rev -> iw, kia_one -> iN, kas_place -> kZ, fnOf -> lA, kas_desc -> mP, keepIn -> qM, kas_asc -> sk, callWith_K -> za, kas_descPart -> zS, methodObj -> zW, OpenLaw -> DF, codeIn -> Fw, boot_drawn -> IH, cellsFrom_some -> KJ, kas_tail3 -> Ow, boot_toks -> Oy, boot_heap -> Oz, kitx_dict -> Sa
open PySem.W.KasT renaming ret -> xp
open Sum renaming inl -> k6, inr -> II
open Sum.inl renaming inj -> OA
open True renaming intro -> gT
set_option Elab.async false
set_option linter.all false
set_option maxRecDepth 100000
set_option maxHeartbeats 4000000
set_option genSizeOf false
set_option genInjectivity false
set_option compiler.extract_closed false
namespace Internal
theorem Ad(h:0=0:=by decide):0=0:=h
theorem Ae(h:0=0:=by first | rfl | decide):0=0:=h
theorem Af(h:0=0:=by first | k_is | rfl):0=0:=h
theorem Ai(h:0=0:=by intro _; rfl):0=0:=h
theorem Ak(h:0=0:=by decide +kernel):0=0:=h
theorem Al(h:0=0:=by intro _ _ _ _ h; repeat (first | (cases h.1; rfl) | (cases h <;> rename_i h))):0=0:=h
theorem Ao(h:0=0:=by first | exact .inl rfl | exact .inr rfl | exact .inr (.inl rfl) | exact .inr (.inr rfl) | assumption):0=0:=h
theorem Aq(h:0=0:=by k_is):0=0:=h
theorem Ar(h:0=0:=by rfl):0=0:=h
theorem Aua(h:0=0:=by exact scm):0=0:=h
theorem Aub(h:0=0:=by intro _ _ _ _ _ _ us hl; rcases us with _ | ⟨_,_ | ⟨_,_ | ⟨_,_ | ⟨_,_ | ⟨_,_⟩⟩⟩⟩⟩ <;> first | rfl | (simp at hl; done)):0=0:=h
theorem N0(h:0=0:=by show _=_; k_is):0=0:=h
namespace L2
open PySem PySem.Spec PyProof.Rows
abbrev Key:=Sum Int Str
def CZ:Key->Value->Bool
 | .inl k,v=>uh k v
 | .inr x,v=>Value.isStrOf x v
def aaI(w:World):Key->Int
 | .inl k=>hashInt k
 | .inr x=>hashStr w x
theorem fB:∀ {k:Key} {v:Value},CZ k v=true->(∃ i t,k=k6 i/\v=eT i t)\/(∃ x t,k=II x/\v=Value.str x t)
 | .inl i,v,h=>by
  obtain⟨t,e⟩:=Value.isInt_shape (k:=i) (v:=v) h;exact .inl ⟨i,t,rfl,e⟩
 | .inr x,v,h=>by
  obtain⟨t,e⟩:=Value.isStrOf_shape (x:=x) (v:=v) h;exact .inr ⟨x,t,rfl,e⟩
theorem Nj(i:Int)(t:Tok):CZ (.inl i) (.int i t)=true:=by simp [CZ,uh]
theorem Ni(x:Str)(t:Tok):CZ (.inr x) (.str x t)=true:=by simp [CZ,Value.isStrOf]
theorem Qd(a b:Int):decide ((k6 a:Key)=k6 b)=(a == b):=by
 by_cases e:a=b
 ·subst e; simp
 ·have h:¬ (k6 a:Key)=k6 b:=fun q=>e (OA q);rw [decide_eq_false h];exact(beq_eq_false_iff_ne.mpr e).symm
theorem Qc(a b:Str):decide ((II a:Key)=II b)=decide (a=b):=by
 by_cases e:a=b
 ·subst e; simp
 ·have h:¬ (II a:Key)=II b:=fun q=>e (Sum.inr.inj q);rw [decide_eq_false h,decide_eq_false e]
theorem V1(a:Int)(b:Str):decide ((k6 a:Key)=II b)=false:=decide_eq_false (fun q=>nomatch q)
theorem V0(a:Str)(b:Int):decide ((II a:Key)=k6 b)=false:=decide_eq_false (fun q=>nomatch q)
def cK(prog:bE)(w:World):PySem.KeyKind prog w Key where
 is:=CZ
 hash:=aaI w
 inj:=fun v a b ha hb=>by
  rcases fB ha with ⟨i,t,rfl,rfl⟩ | ⟨x,t,rfl,rfl⟩
  ·rcases fB hb with ⟨j,u,rfl,e⟩ | ⟨y,u,rfl,e⟩
   ·injection e with e1 _; rw [e1]
   ·exact nomatch e
  ·rcases fB hb with ⟨j,u,rfl,e⟩ | ⟨y,u,rfl,e⟩
   ·exact nomatch e
   ·injection e with e1 _; rw [e1]
 byValue:=fun k v h=>by
  rcases fB h with ⟨i,t,rfl,rfl⟩ | ⟨x,t,rfl,rfl⟩ <;> rfl
 pyHash:=fun hv h=>by
  rcases fB hv with ⟨i,t,rfl,rfl⟩ | ⟨x,t,rfl,rfl⟩
  ·exact wpAny_pyHash_int h
  ·exact wpAny_pyHash_str h
 eqBool:=fun hu hv h=>by
  rcases fB hu with ⟨i,t,rfl,rfl⟩ | ⟨x,t,rfl,rfl⟩
  ·rcases fB hv with ⟨j,u,rfl,rfl⟩ | ⟨y,u,rfl,rfl⟩
   ·rw [Qd] at h; exact wpAny_eqBool_int h
   ·rw [V1] at h; exact SeqAt.EqAt.int_str i t y u _ _ _ _ h
  ·rcases fB hv with ⟨j,u,rfl,rfl⟩ | ⟨y,u,rfl,rfl⟩
   ·rw [V0] at h; exact SeqAt.EqAt.str_int x t j u _ _ _ _ h
   ·rw [Qc] at h; exact wpAny_eqBool_str h
 «strs»:=fun k x t v h=>by
  rcases fB h with ⟨i,u,rfl,e⟩ | ⟨y,u,rfl,e⟩
  ·exact nomatch e
  ·injection e with e1 _
   subst e1;cases v <;> rfl
theorem yG(prog:bE)(w:World)(i:Int)(t:Tok):(cK prog w).is (.inl i) (.int i t)=true:=Nj i t
theorem GA(prog:bE)(w:World)(x:Str)(t:Tok):(cK prog w).is (.inr x) (.str x t)=true:=Ni x t
inductive V where
 | fg | bl (b:Bool) | int (i:Int) | str (x:Str) | WI (b:Array UInt8) | flt (b:UInt64) | ref (a:Addr) | ty (n:String)
def RelV:V->Value->Prop
 | .fg,u=>u=gQ
 | .bl b,u=>u=Value.bool b
 | .int i,u=>∃ t,u=eT i t
 | .str x,u=>∃ t,u=Value.str x t
 | .WI b,u=>∃ t,u=Value.bytes b t
 | .flt b,u=>∃ t,u=Value.float b t
 | .ref a,u=>u=fK a
 | .ty n,u=>u=Value.type n
abbrev Vals:List V->List Value->Prop:=lE RelV
theorem Vals.length{xs:List V}{us:List Value}(r:Vals xs us):xs.length=us.length:=jd r
theorem Vals.get:∀ {xs:List V} {us:List Value} {i:Nat} {x:V},Vals xs us->xs[i]?=some x->∃ u,us[i]?=some u/\RelV x u:=by
 intro xs us i x h;induction h generalizing i with
 | nil=>intro e; cases e
 | cons r t ih =>
  intro e;cases i with
  | zero=>cases e; exact⟨_,rfl,r⟩
  | succ i=>exact ih e
theorem Vals.set{x:V}{u:Value}(r:RelV x u):∀ {xs:List V} {us:List Value} (i:Nat),Vals xs us->Vals (xs.set i x) (us.set i u):=by
 intro xs us i h;induction h generalizing i with
 | nil=>rw [DH,DH]; exact .nil
 | cons q t ih =>
  cases i with
  | zero=>exact .cons r t
  | succ i=>exact .cons q (ih i)
theorem Vals.append:∀ {xs ys:List V} {us ws:List Value},Vals xs us->Vals ys ws->Vals (xs++ys) (us++ws):=by
 intro xs ys us ws h s;induction h with
 | nil=>exact s
 | cons r t ih=>exact .cons r ih
theorem Vals.take:∀ {xs:List V} {us:List Value} (n:Nat),Vals xs us->Vals (xs.take n) (us.take n):=by
 intro xs us n h;induction h generalizing n with
 | nil=>rw [BR,BR]; exact .nil
 | cons r t ih =>
  cases n with
  | zero=>exact .nil
  | succ n=>exact .cons r (ih n)
theorem Vals.drop:∀ {xs:List V} {us:List Value} (n:Nat),Vals xs us->Vals (xs.drop n) (us.drop n):=by
 intro xs us n h;induction h generalizing n with
 | nil=>rw [BU,BU]; exact .nil
 | cons r t ih =>
  cases n with
  | zero=>exact .cons r t
  | succ n=>exact ih n
def yg:Option V->Option Value->Prop
 | some v,some u=>RelV v u
 | none,none=>True
 | _,_=>False
def KV{κ:Type}:List (κ×V)->List (κ×Value)->Prop:=lE fun (p:κ×V) (q:κ×Value)=>p.1=q.1/\RelV p.2 q.2
def kV:Key->V
 | .inl i=>.int i
 | .inr x=>.str x
inductive HO where
 | lst (xs:List V)
 | tup (xs:List V)
 | dK (kvs:List (Key×V)) | dT (kvs:List (List Key×V))
 | set (S:Int->Bool) (n:Nat)
 | ins (C dx:Addr) (fs:List (Str×V))
 | own (x:Addr)
 | xd (fs:List (Str×V))
 | met (f x:Addr)
 | Xr (lo hi:Int)
 | jC (o:Obj) (u:HO)
 | Sq (q:Str)
 | ext (φ:Heap->Prop)
abbrev Hp:=Addr->Option HO
def upd(H:Hp)(a:Addr)(o:HO):Hp:=fun b=>if b=a then some o else H b
theorem bN{H:Hp}{a:Addr}{o:HO}:upd H a o a=some o:=by unfold upd; rw [if_pos rfl]
theorem bz{H:Hp}{a b:Addr}{o:HO}(h:b≠a):upd H a o b=H b:=by unfold upd; rw [if_neg h]
theorem UA{H:Hp}{a b:Addr}{o u:HO}(h:H a=some o)(h':H b=some u)(d:o≠u):a≠b:=by
 intro e; subst e; rw [h] at h'; exact d (ba h')
theorem eC{H:Hp}{a b:Addr}{o:HO}(h:H a=some o)(h':H b=none):a≠b:=by
 intro e; subst e; rw [h] at h'; cases h'
section
variable (P:bE) (w:World)
def fu(H:Hp)(h:Heap)(a:Addr):HO->Prop
 | .lst xs=>xs.length<=a9/\∃ (bQ:List Value) (n:Nat),Vals xs bQ/\h.get? a=some { cls:=.type "list",data:=.seq bQ.toArray n }
 | .tup xs=>xs.length<=a9/\∃ bQ:List Value,Vals xs bQ/\IsTup h a bQ.toArray
 | .dK kvs=>kvs.length<=a9/\(a == cS)=false/\∃ vs,KV kvs vs/\h.DictOf (cK P w) a vs
 | .dT kvs=>kvs.length<=a9/\(a == cS)=false/\∃ xs:List (List Key×Addr×Value),
   lE (fun (p:List Key×V) (q:List Key×Addr×Value)=>p.1=q.1/\H q.2.1=some (.tup (p.1.map kV))/\RelV p.2 q.2.2) kvs xs /\
   ∃ o es ep,h.get? a=some o/\o.ExactDict/\o.data=.dict es ep/\es.toList=xs.map (entryOfKey (iS (cK P w)))/\(xs.map (·.1)).Nodup
 | .set S n=>h.SetOf (IE P w) a S n
 | .ins C dx fs=>H dx=some (.own a)/\fs.length<=1000/\dx≠a/\h.get? a=some (PySem.W.instObj C dx) /\
   ∃ mA,h.Ns1 dx mA/\(∀ f,yg (fs.lookup f) (mA f))/\PySem.Within mA (fs.map (·.1))
 | .own _=>∃ o,h.get? a=some o
 | .xd fs=>∃ mA,h.Ns1 a mA/\∀ f,yg (fs.lookup f) (mA f)
 | .Xr lo hi=>∃ t u v,h.get? a=some { cls:=.type "range",data:=.fields #[.int lo t,.int hi u,.int 1 v] }
 | .jC o u=>h.get? a=some o/\fu H h a u
 | .Sq q=>∃ ps,h.get? a=some { cls:=.none,data:=.fields ps }/\TriplesOk ps.toList/\∀ pos cv,codeAmong pos ps.toList=some cv->∃ c',cv=.ref c'/\H c'=some (.own a)/\h.CodeRec (.ref c') q
 | .met f x=>h.get? a=some (zW (.ref f) (.ref x))
 | .ext φ=>φ h/\(∃ o,h.get? a=some o)/\∀ h1 h2:Heap,φ h1->(∀ o,h1.get? a=some o->h2.get? a=some o)->φ h2
def pJ(H:Hp)(h:Heap):Prop:=∀ a o,H a=some o->fu P w H h a o
end
section
variable {P:bE} {w:World} {H H':Hp} {h h':Heap} {a:Addr} {o:HO}
theorem fu.lt(x:fu P w H h a o):a < h.objs.size:=by
 cases o with
 | lst xs=>obtain⟨_,_,_,_,e⟩:=x; exact aP e
 | tup xs=>obtain⟨_,_,_,p⟩:=x; exact p.lt
 | dK kvs=>obtain⟨_,_,_,_,o,_,_,e,_⟩:=x; exact aP e
 | dT kvs=>obtain⟨_,_,_,_,o,_,_,e,_⟩:=x; exact aP e
 | set S n=>obtain⟨o,_,_,_,e,_⟩:=x; exact aP e
 | ins C dx fs=>obtain⟨_,_,_,e,_⟩:=x; exact aP e
 | own y=>obtain⟨_,e⟩:=x; exact aP e
 | xd fs=>obtain⟨_,⟨_,_,_,e,_⟩,_⟩:=x; exact aP e
 | Xr lo hi=>obtain⟨_,_,_,e⟩:=x; exact aP e
 | jC ob u=>obtain⟨e,_⟩:=x; exact aP e
 | Sq q=>obtain⟨_,e,_⟩:=x; exact aP e
 | met f y=>exact aP (show h.get? a=some _ from x)
 | ext φ=>obtain⟨_,⟨_,e⟩,_⟩:=x; exact aP e
theorem Paired.VY{α β:Type}{F G:α->β->Prop}:∀ {l₁:List α} {l₂:List β},lE F l₁ l₂->(∀ a b,F a b->G a b)->lE G l₁ l₂:=by
 intro l₁ l₂ h f;induction h with
 | nil=>exact .nil
 | cons r t ih=>exact .cons (f _ _ r) ih
theorem fu.k9(x:fu P w H h a o)(k:∀ b u,(b=a\/H b=some (.own a))->h.get? b=some u->h'.get? b=some u)
  (ho:∀ b,H b=some (.own a)->H' b=some (.own a)) (ht:∀ b xs,H b=some (.tup xs)->H' b=some (.tup xs)):fu P w H' h' a o:=by
 induction o with
 | lst xs=>obtain⟨z,bQ,n,r,e⟩:=x; exact⟨z,bQ,n,r,k _ _ (.inl rfl) e⟩
 | tup xs=>obtain⟨z,bQ,r,ob,e,c⟩:=x; exact⟨z,bQ,r,ob,k _ _ (.inl rfl) e,c⟩
 | dK kvs=>obtain⟨z,y,vs,r,ob,es,ep,e,c⟩:=x; exact⟨z,y,vs,r,ob,es,ep,k _ _ (.inl rfl) e,c⟩
 | dT kvs =>
  obtain⟨z,y,xs,r,ob,es,ep,e,c⟩:=x;exact⟨z,y,xs,Paired.VY r fun p q z=>⟨z.1,ht _ _ z.2.1,z.2.2⟩,ob,es,ep,k _ _ (.inl rfl) e,c⟩
 | set S n=>obtain⟨ob,es,ep,t,e,c⟩:=x; exact⟨ob,es,ep,t,k _ _ (.inl rfl) e,c⟩
 | ins C dx fs =>
  obtain⟨d,z,ne,e,mA,⟨od,es,ep,e2,c⟩,r⟩:=x;exact⟨ho _ d,z,ne,k _ _ (.inl rfl) e,mA,⟨od,es,ep,k _ _ (.inr d) e2,c⟩,r⟩
 | own y=>obtain⟨ob,e⟩:=x; exact⟨ob,k _ _ (.inl rfl) e⟩
 | xd fs=>obtain⟨mA,⟨od,es,ep,e,c⟩,r⟩:=x; exact⟨mA,⟨od,es,ep,k _ _ (.inl rfl) e,c⟩,r⟩
 | Xr lo hi=>obtain⟨t,u,v,e⟩:=x; exact⟨t,u,v,k _ _ (.inl rfl) e⟩
 | jC ob u ih=>obtain⟨e,q⟩:=x; exact⟨k _ _ (.inl rfl) e,ih q⟩
 | Sq q =>
  obtain⟨ps,e,t,z⟩:=x;refine⟨ps,k _ _ (.inl rfl) e,t,fun pos cv y=>?_⟩;obtain⟨c',e1,e2,c2,oc,vs,tq,e3,e4,r⟩:=z pos cv y;cases e3;exact⟨c',e1,ho _ e2,c',oc,vs,tq,rfl,k _ _ (.inr e2) e4,r⟩
 | met f y =>
  have e:h.get? a=some (zW (.ref f) (.ref y)):=x;show h'.get? a=some (zW (.ref f) (.ref y));exact k a _ (.inl rfl) e
 | ext φ=>obtain⟨p,⟨o,e⟩,st⟩:=x; exact⟨st _ _ p fun o q=>k _ _ (.inl rfl) q,⟨o,k _ _ (.inl rfl) e⟩,st⟩
theorem pJ.lt(x:pJ P w H h)(e:H a=some o):a < h.objs.size:=(x a o e).lt
theorem pJ.fresh(x:pJ P w H h)(e:h.objs.size<=a):H a=none:=by
 cases q:H a with
 | none=>rfl
 | some u=>exact absurd (bK (x.lt q) e) (jk _)
theorem pJ.kept(x:pJ P w H h)(k:∀ b u,h.get? b=some u->h'.get? b=some u):pJ P w H h':=fun a o e =>
 (x a o e).k9 (fun b u _ q=>k b u q) (fun _ q=>q) fun _ _ q=>q
theorem pJ.laid(x:pJ P w H h)(k:∀ b u,h.get? b=some u->h'.get? b=some u)(hp:h.objs.size<=a)(new:fu P w (upd H a o) h' a o):pJ P w (upd H a o) h':=fun b u e=>by
 have hn:=x.fresh hp;by_cases hb:b=a
 ·subst hb; rw [bN] at e; cases e; exact new
 ·rw [bz hb] at e;exact(x b u e).k9 (fun c v _ q=>k c v q) (fun c q=>by rw [bz (eC q hn)]; exact q) fun c xs q=>by rw [bz (eC q hn)]; exact q
end
def Rd(H:Hp)(a:Addr)(u:HO):Prop:=H a=some u\/∃ o,H a=some (.jC o u)
theorem Rd.ok{P:bE}{w:World}{H:Hp}{h:Heap}{a:Addr}{u:HO}(r:Rd H a u)(x:pJ P w H h):fu P w H h a u:=by
 rcases r with r | ⟨o,r⟩
 ·exact x a u r
 ·obtain⟨_,q⟩:=x a _ r;exact q
def Y9:Option HO->Prop
 | some (.lst _)=>True
 | some (.dK _)=>True
 | some (.dT _)=>True
 | some (.set _ _)=>True
 | some (.ins _ _ _)=>True
 | some (.ext _)=>True
 | _=>False
section
variable {P:bE} {w:World} {H:Hp} {h h':Heap} {x e:Addr} {o':HO}
theorem pJ.write(ok:pJ P w H h)(mu:Y9 (H x))(he:e=x\/H e=some (.own x))(k:∀ b u,b≠e->h.get? b=some u->h'.get? b=some u)(W6:∃ u,h'.get? e=some u)
  (new:fu P w (upd H x o') h' x o'):pJ P w (upd H x o') h':=fun b u q=>by
 have XI:∀ c y,H c=some (.own y)->c≠x:=fun c y r z=>by subst z; rw [r] at mu; exact mu
 have aar:∀ c xs,H c=some (.tup xs)->c≠x:=fun c xs r z=>by subst z; rw [r] at mu; exact mu
 by_cases hb:b=x
 ·subst hb; rw [bN] at q; cases q; exact new
 ·rw [bz hb] at q;by_cases Wk:b=e
  ·have q':H b=some (.own x):=by
    rcases he with z | z
    ·exact absurd (Wk.trans z) hb
    ·rw [Wk]; exact z
   rw [q] at q'; cases q';obtain⟨v,hv⟩:=W6;exact⟨v,by rw [Wk]; exact hv⟩
  ·refine(ok b u q).k9 (fun c v hc r=>k c v ?_ r) (fun c r=>by rw [bz (XI c b r)]; exact r) fun c xs r=>by rw [bz (aar c xs r)]; exact r
   rcases hc with rfl | hc
   ·exact Wk
   ·rintro rfl;rcases he with z | z
    ·exact XI c b hc z
    ·rw [hc] at z; cases z; exact hb rfl
end
structure Un(fs ex:List Addr)(H H':Hp)(h h':Heap):Prop where
 keep:∀ b o,h.get? b=some o->H b=none->b∉fs->b∉ex->h'.get? b=some o
 slot:∀ b o,h.get? b=some o->H b=none->b∈fs->b∉ex->∃ sl,h'.get? b=some { o with slots:=sl }
 free:∀ b o,h.get? b=some o->H b=none->b∉ex->H' b=none
 there:∀ b o,h.get? b=some o->b∉ex->∃ o',h'.get? b=some o'
 sG:∀ b xs,H b=some (.tup xs)->H' b=some (.tup xs)
 rZ:∀ b o u,H b=some (.jC o u)->H' b=some (.jC o u)
 uR:∀ b q,H b=some (.Sq q)->H' b=some (.Sq q)
 uX:∀ b x,H b=some (.own x)->H' b=some (.own x)
section
variable {fs fs' ex ex':List Addr} {H H1 H2:Hp} {h h1 h2 h':Heap} {a x e:Addr} {o:HO}
theorem Un.any(u:Un fs ex H H1 h h1){b:Addr}{ob:Obj}(q:h.get? b=some ob)(n:H b=none)(hx:b∉ex):∃ sl,h1.get? b=some { ob with slots:=sl }:=by
 by_cases hb:b∈fs
 ·exact u.slot b ob q n hb hx
 ·exact⟨ob.slots,u.keep b ob q n hb hx⟩
theorem Un.kept(k:∀ b u,h.get? b=some u->h'.get? b=some u):Un fs ex H H h h' :=
 ⟨fun b ob q _ _ _=>k b ob q,fun b ob q _ _ _=>⟨ob.slots,k b ob q⟩,fun _ _ _ n _=>n,fun b ob q _=>⟨ob,k b ob q⟩,fun _ _ q=>q,fun _ _ _ q=>q,fun _ _ q=>q,fun _ _ q=>q⟩
theorem Un.refl:Un fs ex H H h h:=Un.kept fun _ _ q=>q
theorem Un.laid(k:∀ b u,h.get? b=some u->h'.get? b=some u)(hp:h.objs.size<=a)(hn:H a=none):Un fs ex H (upd H a o) h h' where
 keep:=fun b u q _ _ _=>k b u q
 slot:=fun b u q _ _ _=>⟨u.slots,k b u q⟩
 free:=fun b u q n _=>by rw [bz (bu (bK (aP q) hp))]; exact n
 there:=fun b u q _=>⟨u,k b u q⟩
 sG:=fun b xs q=>by rw [bz (eC q hn)]; exact q
 rZ:=fun b u xs q=>by rw [bz (eC q hn)]; exact q
 uR:=fun b ps q=>by rw [bz (eC q hn)]; exact q
 uX:=fun b ps q=>by rw [bz (eC q hn)]; exact q
theorem Un.write(mu:Y9 (H x))(he:e=x\/H e=some (.own x))(k:∀ b u,b≠e->h.get? b=some u->h'.get? b=some u)(W6:∃ u,h'.get? e=some u):Un fs ex H (upd H x o) h h':=by
 have hx:∀ b,H b=none->b≠x:=fun b n z=>by subst z; rw [n] at mu; exact mu
 have hb:∀ b,H b=none->b≠e:=fun b n z=>by
  subst z;rcases he with r | r
  ·exact hx b n r
  ·rw [n] at r; cases r
 have hm:∀ b u,H b=some u->¬ Y9 (some u)->b≠x:=fun b u q nm z=>by subst z; rw [q] at mu; exact nm mu
 refine⟨fun b u q n _ _=>k b u (hb b n) q,fun b u q n _ _=>⟨u.slots,k b u (hb b n) q⟩,fun b u q n _=>by rw [bz (hx b n)]; exact n,fun b u q _=>?_,
  fun b xs q=>by rw [bz (hm b _ q fun z=>z)]; exact q,fun b u xs q=>by rw [bz (hm b _ q fun z=>z)]; exact q,fun b ps q=>by rw [bz (hm b _ q fun z=>z)]; exact q,fun b ps q=>by rw [bz (hm b _ q fun z=>z)]; exact q⟩
 by_cases Wk:b=e
 ·subst Wk; exact W6
 ·exact⟨u,k b u Wk q⟩
end
def Zf(h:Heap)(H:Hp):List Addr:=(i0 h.objs.size).filter fun a=>(H a).isSome
def Eo(h:Heap)(H:Hp):Heap:=PySem.W.hideAll h (Zf h H)
theorem Ny(h:Heap)(H:Hp):(Eo h H).objs.size=h.objs.size:=PySem.W.hideAll_size _ _
theorem QC{h:Heap}{H:Hp}{b:Addr}{o:Obj}(e:h.get? b=some o)(n:H b=none):(Eo h H).get? b=some o :=
 PySem.W.hideAll_get _ e fun hm=>by
  have q:(H b).isSome=true:=(List.mem_filter.mp hm).2;rw [n] at q; simp at q
theorem S8{h:Heap}{H:Hp}{b:Addr}{o:Obj}(e:(Eo h H).get? b=some o):h.get? b=some o/\H b=none:=by
 have e':h.get? b=some o:=PySem.W.of_hideAll (Zf h H) e;refine⟨e',?_⟩;cases q:H b with
 | none=>rfl
 | some x =>
  have hm:b∈Zf h H:=List.mem_filter.mpr ⟨List.mem_range.mpr (aP e'),by simp [q]⟩;have z:(Eo h H).get? b=none:=PySem.W.hideAll_none (Zf h H) hm;rw [z] at e; cases e
def ug(g h:Heap)(L:Addr):List (Addr×Obj):=(i0 h.objs.size).filterMap fun a=>if a=L\/(g.get? a).isSome=true then none else (h.get? a).map fun o=>(a,o)
theorem yH{g h:Heap}{L a:Addr}{o:Obj}(h1:a≠L)(h2:g.get? a=none)(h3:h.get? a=some o):(a,o)∈ug g h L :=
 List.mem_filterMap.mpr ⟨a,List.mem_range.mpr (aP h3),by simp [h1,h2,h3]⟩
theorem AN{g h:Heap}{L:Addr}{p:Addr×Obj}(hp:p∈ug g h L):p.1≠L/\g.get? p.1=none/\h.get? p.1=some p.2:=by
 obtain⟨b,_,e⟩:=List.mem_filterMap.mp hp;split at e
 ·cases e
 ·rename_i hn;cases q:h.get? b with
  | none=>rw [q] at e; simp at e
  | some u =>
   rw [q] at e;simp only [mf,Mr] at e;subst e;refine⟨fun z=>hn (.inl z),?_,q⟩;show g.get? b=none;cases r:g.get? b with
   | none=>rfl
   | some v=>exact(hn (.inr (by simp [r]))).elim
def rest(g h:Heap)(L d:Addr):List (Addr×Obj):=(ug g h L).filter fun p=>decide (p.1≠d)
theorem Gy{g h:Heap}{L:Addr}:News g L h (ug g h L):=fun p hp=>let ⟨a,b,c⟩:=AN hp; ⟨c,a,b⟩
structure Mod(K:ar)(mg:Str->Option Value)(base:Heap):Prop where
 WZ:K.In base
 glob:base.Ns bR mg
 blt:∃ mb,base.Ns builtinsNs mb/\∀ x:Str,x≠"__name__"->mb x=dZ x
 nolimit:base.NoLimit
structure Cx where
 prog:bE
 w:World
 K:ar
 mg:Str->Option Value
 base:Heap
 A:dg
 N:List Str
 oz:aA
 RH:Hp
 env:Env
 outer:List Env
 stack:List Env
 ex:List Addr
 fn:Str->Bool
 calm:Bool
 pn:List (Addr×Obj)
 xe:Value->aA->Prop
def NF(l:List Env):List Addr:=l.filterMap (·.frame)
abbrev Cx.fs(X:Cx):List Addr:=NF X.outer
def ZQ(sc:Scope)(x:Str):Prop:=sc.names.lookup x=some .local\/sc.names.lookup x=some .cell\/sc.names.lookup x=some .free
def Loc(sc:Scope)(x:Str):Prop:=sc.names.lookup x=some .local\/sc.names.lookup x=some .cell
def Look(env:Env)(h:Heap)(m:Str->Option Value)(x:Str)(u:Value):Prop :=
 (env.kindOf x=some .local/\m x=some u)\/((env.kindOf x=some .cell\/env.kindOf x=some .free)/\∃ c,env.cells.lookup x=some c/\h.IsCell c (some u))
structure Cx.Ok(X:Cx):Prop where
 mod:Mod X.K X.mg X.base
 kind:X.env.scope.kind=.function
 glob:X.env.globals=bR
 blt:X.env.builtins=builtinsNs
 above:X.oz.heap.objs.size<=X.env.locals
 inj:∀ x y c,X.env.cells.lookup x=some c->X.env.cells.lookup y=some c->x=y
 has:∀ x,(X.env.kindOf x=some .cell\/X.env.kindOf x=some .free)->∃ c,X.env.cells.lookup x=some c
 YZ:∀ x c,X.fn x=true->X.env.cells.lookup x=some c->X.oz.heap.objs.size<=c
 hd:X.calm=true->X.A.handled=none
 frames:X.A.frames=some X.stack
 Zi:X.stack=X.outer\/(X.stack=X.env :: X.outer/\X.env.frame=some X.env.locals)
 ZM:∀ b∈X.ex,b≠X.env.locals/\∀ x c,X.env.cells.lookup x=some c->c≠b
 bs:∀ b o,X.base.get? b=some o->X.oz.heap.get? b=some o/\X.RH b=none
 R4:X.base.objs.size<=X.oz.heap.objs.size
 M1:∀ b o,X.base.get? b=some o->b∉X.ex
 QR:∀ b∈X.ex,b∉X.fs
 zi:X.oz.heap.FunFrames X.base X.outer
 UU:∀ b∈X.fs,X.RH b=none
structure Inv(X:Cx)(pins:List (Addr×Obj))(σ:List (Option V))(H:Hp)(s:aA):Prop where
 ok:X.Ok
 os:s.os=X.oz.os
 bare:zY s.gens
 base:Un X.fs X.ex X.RH H X.oz.heap s.heap
 loc:∃ m,s.heap.Ns X.env.locals m/\∀ (i:Nat) (x:Str) (v:V),X.N[i]?=some x->σ[i]?=some (some v)->ZQ X.env.scope x->∃ u,RelV v u/\Look X.env s.heap m x u
 cell:∀ x c,X.env.cells.lookup x=some c->∃ v,s.heap.IsCell c v
 free:H X.env.locals=none
 mG:∀ x c,X.env.cells.lookup x=some c->H c=none
 pin:∀ p∈X.pn++pins,s.heap.get? p.1=some p.2/\H p.1=none/\p.1≠X.env.locals/\p.1∉X.fs/\∀ v,p.2.data≠.cell v
 cu:pJ X.prog X.w H s.heap
 len:σ.length=X.N.length
section
variable {X:Cx} {pins:List (Addr×Obj)} {σ:List (Option V)} {H H':Hp} {s:aA} {h':Heap}
theorem Cx.Ok.aat(ok:X.Ok){b:Addr}{o:Obj}(e:X.base.get? b=some o):b∉X.fs:=fun hb=>by
 have:=(ok.zi.mem hb).1;rw [e] at this; cases this
theorem Inv.bs(I:Inv X pins σ H s):∀ b o,X.base.get? b=some o->s.heap.get? b=some o/\H b=none:=fun b o e =>
 ⟨I.base.keep b o (I.ok.bs b o e).1 (I.ok.bs b o e).2 (I.ok.aat e) (I.ok.M1 b o e),I.base.free b o (I.ok.bs b o e).1 (I.ok.bs b o e).2 (I.ok.M1 b o e)⟩
theorem Inv.bk(I:Inv X pins σ H s):∀ b o,X.base.get? b=some o->s.heap.get? b=some o:=fun b o e=>(I.bs b o e).1
theorem Inv.mod(I:Inv X pins σ H s):Mod X.K X.mg X.base:=I.ok.mod
theorem Inv.Fh(I:Inv X pins σ H s):X.K.In s.heap:=I.ok.mod.WZ.keeps I.bk
theorem Inv.fr(I:Inv X pins σ H s):∃ m,Fr X.base X.env.locals s.heap m :=
 let ⟨m,hn,_⟩:=I.loc
 ⟨m,hn,I.bk,aU I.ok.R4 I.ok.above⟩
theorem Inv.lt(I:Inv X pins σ H s):X.env.locals < s.heap.objs.size:=let ⟨_,hn,_⟩:=I.loc; hn.lt
theorem Inv.sz(I:Inv X pins σ H s):X.oz.heap.objs.size<=s.heap.objs.size:=aU I.ok.above (Sb I.lt)
theorem Inv.aas(I:Inv X pins σ H s){a:Addr}(h:s.heap.objs.size<=a):a∉X.fs:=fun hb=>by
 obtain⟨_,o,ho,_⟩:=I.ok.zi.mem hb;exact absurd (bK (aP ho) (aU I.sz h)) (jk _)
theorem Inv.WD(I:Inv X pins σ H s):∀ x c,X.env.cells.lookup x=some c->c≠X.env.locals:=fun x c e z=>by
 obtain⟨v,o,ho,hd⟩:=I.cell x c e;obtain⟨m,⟨o',es,ep,Fm,yM,_⟩,_⟩:=I.loc;rw [z,Fm] at ho; cases ho; rw [yM] at hd; cases hd
theorem Inv.zi(I:Inv X pins σ H s):s.heap.FunFrames X.base X.outer:=by
 have all:∀ (l:List Env),(∀ b∈NF l,b∈X.fs)->X.oz.heap.FunFrames X.base l->s.heap.FunFrames X.base l:=by
  intro l;induction l with
  | nil=>intro _ _; trivial
  | cons env r ih =>
   intro hs hl;obtain⟨hk,⟨L,o,hf,hn,ho,hd⟩,hr⟩:=hl;have hL:L∈X.fs:=hs L (by unfold NF; rw [zq,hf]; exact cA);obtain⟨sl,e⟩:=I.base.slot L o ho (I.ok.UU L hL) hL fun z=>I.ok.QR L z hL;exact⟨hk,⟨L,_,hf,hn,e,hd⟩,ih (fun b hb=>hs b (by unfold NF; rw [zq,hf]; exact aJ _ hb)) hr⟩
 exact all X.outer (fun _ hb=>hb) I.ok.zi
theorem Inv.stack(I:Inv X pins σ H s):s.heap.FunFrames X.base X.stack:=by
 rcases I.ok.Zi with e | ⟨e,hf⟩
 ·rw [e]; exact I.zi
 ·rw [e];obtain⟨m,hn,_⟩:=I.loc;refine .cons (by rw [I.ok.kind]; decide) hf hn ?_ I.zi;exact Sf (aU I.ok.R4 I.ok.above)
theorem Inv.Jc(I:Inv X pins σ H s):∀ b∈NF X.stack,b∈X.env.locals :: X.fs:=fun b hb=>by
 rcases I.ok.Zi with e | ⟨e,hf⟩
 ·rw [e] at hb; exact aJ _ hb
 ·rw [e] at hb;unfold NF at hb;rw [zq,hf] at hb;exact hb
theorem Inv.K5(I:Inv X pins σ H s):∀ b∈NF X.stack,H b=none:=fun b hb=>by
 rcases List.mem_cons.mp (I.Jc b hb) with e | hb
 ·rw [e]; exact I.free
 ·obtain⟨_,o,ho,_⟩:=I.ok.zi.mem hb;exact I.base.free b o ho (I.ok.UU b hb) fun z=>I.ok.QR b z hb
theorem Inv.step{g':Array GenState}{t':Nat}{d':Drawn}{ch:List Addr}(I:Inv X pins σ H s)
  (R3:∀ b∈ch,(b∈X.ex\/X.oz.heap.objs.size<=b)/\b≠X.env.locals/\(∀ x c,X.env.cells.lookup x=some c->c≠b)/\∀ p∈X.pn++pins,p.1≠b)
  (keep:∀ b o,b≠X.env.locals->b∉X.fs->b∉ch->s.heap.get? b=some o->H b=none->h'.get? b=some o)
  (slot:∀ b o,b≠X.env.locals->b∈X.fs->b∉ch->s.heap.get? b=some o->H b=none->∃ sl,h'.get? b=some { o with slots:=sl }) (free:∀ b o,b∉ch->s.heap.get? b=some o->H b=none->H' b=none)
  (there:∀ b o,b∉ch->s.heap.get? b=some o->∃ o',h'.get? b=some o')
  (sG:∀ b xs,H b=some (.tup xs)->H' b=some (.tup xs)) (rZ:∀ b o u,H b=some (.jC o u)->H' b=some (.jC o u)) (uR:∀ b q,H b=some (.Sq q)->H' b=some (.Sq q)) (uX:∀ b x,H b=some (.own x)->H' b=some (.own x))
  (ns:∀ m,s.heap.Ns X.env.locals m->h'.Ns X.env.locals m) (cu:pJ X.prog X.w H' h') (hg:zY g') :
  Inv X pins σ H' { s with heap:=h',gens:=g',drawn:=d',toks:=t' }:=by
 have neL:∀ b o,X.oz.heap.get? b=some o->b≠X.env.locals:=fun b o e=>bu (bK (aP e) I.ok.above);have Zw:∀ b o,X.oz.heap.get? b=some o->b∉X.ex->b∉ch:=fun b o e hx hb=>by
  rcases (R3 b hb).1 with z | z
  ·exact hx z
  ·exact absurd (bK (aP e) z) (jk _)
 have cellK:∀ x c,X.env.cells.lookup x=some c->∀ v,s.heap.IsCell c v->h'.IsCell c v:=fun x c e v ⟨o,ho,hd⟩=>by
  have XS:c∉ch:=fun z=>(R3 c z).2.2.1 x c e rfl;by_cases hc:c∈X.fs
  ·obtain⟨sl,q⟩:=slot c o (I.WD x c e) hc XS ho (I.mG x c e);exact⟨_,q,hd⟩
  ·exact⟨o,keep c o (I.WD x c e) hc XS ho (I.mG x c e),hd⟩
 refine⟨I.ok,I.os,hg,⟨fun b o e n hb hx=>?_,fun b o e n hb hx=>?_,fun b o e n hx=>?_,fun b o e hx=>?_,fun b xs e=>sG b xs (I.base.sG b xs e),fun b o xs e=>rZ b o xs (I.base.rZ b o xs e),fun b ps e=>?_,fun b x e=>uX b x (I.base.uX b x e)⟩,?_,fun x c e=>?_,?_,fun x c e=>?_,fun p hp=>?_,cu,I.len⟩
 ·exact keep b o (neL b o e) hb (Zw b o e hx) (I.base.keep b o e n hb hx) (I.base.free b o e n hx)
 ·obtain⟨sl,e1⟩:=I.base.slot b o e n hb hx;obtain⟨sl',e2⟩:=slot b _ (neL b o e) hb (Zw b o e hx) e1 (I.base.free b o e n hx);exact⟨sl',e2⟩
 ·obtain⟨o',e1⟩:=I.base.there b o e hx;exact free b o' (Zw b o e hx) e1 (I.base.free b o e n hx)
 ·obtain⟨o',e1⟩:=I.base.there b o e hx;exact there b o' (Zw b o e hx) e1
 ·exact uR b _ (I.base.uR b ps e)
 ·obtain⟨m,hn,hl⟩:=I.loc;refine⟨m,ns m hn,fun i x v e1 e2 e3=>?_⟩;obtain⟨u,r,l⟩:=hl i x v e1 e2 e3;refine⟨u,r,?_⟩;rcases l with l | ⟨k,c,e,z⟩
  ·exact .inl l
  ·exact .inr ⟨k,c,e,cellK x c e _ z⟩
 ·obtain⟨v,z⟩:=I.cell x c e;exact⟨v,cellK x c e v z⟩
 ·obtain⟨m,⟨o,_,_,ho,_⟩,_⟩:=I.loc;exact free _ o (fun z=>(R3 _ z).2.1 rfl) ho I.free
 ·obtain⟨v,o,ho,hd⟩:=I.cell x c e;exact free c o (fun z=>(R3 c z).2.2.1 x c e rfl) ho (I.mG x c e)
 ·obtain⟨e,n,ne,nf,d⟩:=I.pin p hp;have XS:p.1∉ch:=fun z=>(R3 p.1 z).2.2.2 p hp rfl;exact⟨keep p.1 p.2 ne nf XS e n,free p.1 p.2 XS e n,ne,nf,d⟩
theorem Inv.un{t':Nat}(I:Inv X pins σ H s)(u:Un X.fs [] H H' s.heap h')(cu:pJ X.prog X.w H' h'):Inv X pins σ H' { s with heap:=h',toks:=t' }:=by
 obtain⟨m,⟨o,es,ep,ho,r⟩,_⟩:=id I.loc;obtain⟨sl,hL⟩:=u.any ho I.free (by simp);exact I.step (g':=s.gens) (d':=s.drawn) (ch:=[]) (fun _ z=>nomatch z) (fun b o _ hb _ e n=>u.keep b o e n hb (by simp)) (fun b o _ hb _ e n=>u.slot b o e n hb (by simp)) (fun b o _ e n=>u.free b o e n (by simp)) (fun b o _ e=>u.there b o e (by simp)) u.sG u.rZ u.uR u.uX (fun m' hm=>by
  obtain⟨o',es',ep',Fm,r'⟩:=hm;rw [ho] at Fm; cases Fm;exact⟨_,es',ep',hL,r'⟩) cu I.bare
theorem Inv.call{g':Array GenState}{t':Nat}{d':Drawn}{ch:List Addr}(I:Inv X pins σ H s)(u:Un (NF X.stack) ch H H' s.heap h')(cu:pJ X.prog X.w H' h')(hg:zY g')
  (R3:∀ b∈ch,(b∈X.ex\/X.oz.heap.objs.size<=b)/\b≠X.env.locals/\(∀ x c,X.env.cells.lookup x=some c->c≠b)/\∀ p∈X.pn++pins,p.1≠b) :
  Inv X pins σ H' { s with heap:=h',gens:=g',drawn:=d',toks:=t' }:=by
 obtain⟨m,⟨o,es,ep,ho,r⟩,_⟩:=id I.loc;obtain⟨sl,hL⟩:=u.any ho I.free fun z=>(R3 _ z).2.1 rfl;exact I.step (ch:=ch) R3 (fun b o hL hb hc e n=>u.keep b o e n (fun z=>(List.mem_cons.mp (I.Jc b z)).elim hL hb) hc) (fun b o _ _ hc e n=>u.any e n hc) (fun b o hc e n=>u.free b o e n hc) (fun b o hc e=>u.there b o e hc) u.sG u.rZ u.uR u.uX (fun m' hm=>by
  obtain⟨o',es',ep',Fm,r'⟩:=hm;rw [ho] at Fm; cases Fm;exact⟨_,es',ep',hL,r'⟩) cu hg
theorem Inv.turned{t':Nat}{it:Addr}(I:Inv X pins σ H s)(k:∀ b o,b≠it->s.heap.get? b=some o->h'.get? b=some o)(hn:H it=none)(hL:it≠X.env.locals)
  (h1:it∈X.ex\/X.oz.heap.objs.size<=it) (h2:∀ x c,X.env.cells.lookup x=some c->c≠it) (h3:∀ p∈X.pn++pins,p.1≠it):Inv X pins σ H { s with heap:=h',toks:=t' }:=by
 have nit:∀ b u,H b=some u->b≠it:=fun b u e z=>by rw [z,hn] at e; cases e
 refine I.step (g':=s.gens) (d':=s.drawn) (ch:=[it]) (fun b hb=>?_) (fun b o _ _ hc e _=>k b o (fun z=>hc (by simp [z])) e) (fun b o _ _ hc e _=>⟨o.slots,k b o (fun z=>hc (by simp [z])) e⟩) (fun _ _ _ _ n=>n)
  (fun b o hc e=>⟨o,k b o (fun z=>hc (by simp [z])) e⟩) (fun _ _ e=>e) (fun _ _ _ e=>e) (fun _ _ e=>e) (fun _ _ e=>e) (fun m hm=>?_) (fun b u e=>?_) I.bare
 ·have e:b=it:=by simpa using hb
  subst e;exact⟨h1,hL,h2,h3⟩
 ·obtain⟨o,es,ep,ho,r⟩:=hm;exact⟨o,es,ep,k _ o (dG hL) ho,r⟩
 ·refine(I.cu b u e).k9 (fun c v hc q=>k c v ?_ q) (fun _ q=>q) fun _ _ q=>q;rcases hc with z | z
  ·rw [z]; exact nit b u e
  ·exact nit c _ z
theorem Inv.tok(I:Inv X pins σ H s)(t:Nat):Inv X pins σ H { s with toks:=t }:=I.un (h':=s.heap) (t':=t) Un.refl I.cu
theorem Inv.kept{t':Nat}(I:Inv X pins σ H s)(k:∀ b u,s.heap.get? b=some u->h'.get? b=some u):Inv X pins σ H { s with heap:=h',toks:=t' }:=I.un (Un.kept k) (I.cu.kept k)
theorem Inv.laid{a:Addr}{o:HO}{t':Nat}(I:Inv X pins σ H s)(k:∀ b u,s.heap.get? b=some u->h'.get? b=some u)(hp:s.heap.objs.size<=a)(new:fu X.prog X.w (upd H a o) h' a o) :
  Inv X pins σ (upd H a o) { s with heap:=h',toks:=t' }:=I.un (Un.laid k hp (I.cu.fresh hp)) (I.cu.laid k hp new)
theorem Inv.write{x e:Addr}{o:HO}{t':Nat}(I:Inv X pins σ H s)(mu:Y9 (H x))(he:e=x\/H e=some (.own x))(k:∀ b u,b≠e->s.heap.get? b=some u->h'.get? b=some u)(W6:∃ u,h'.get? e=some u)
  (new:fu X.prog X.w (upd H x o) h' x o):Inv X pins σ (upd H x o) { s with heap:=h',toks:=t' }:=I.un (Un.write mu he k W6) (I.cu.write mu he k W6 new)
theorem Inv.Ll{Uu:List (Addr×Obj)}(I:Inv X pins σ H s)(h:∀ p∈Uu,s.heap.get? p.1=some p.2/\H p.1=none/\p.1≠X.env.locals/\p.1∉X.fs/\∀ v,p.2.data≠.cell v):Inv X Uu σ H s :=
 ⟨I.ok,I.os,I.bare,I.base,I.loc,I.cell,I.free,I.mG,fun p hp=>(List.mem_append.mp hp).elim (fun z=>I.pin p (cH _ z)) (h p),I.cu,I.len⟩
theorem Gu{N:List Str}(hN:N.Nodup){i j:Nat}{x:Str}(a:N[i]?=some x)(b:N[j]?=some x):i=j:=by
 obtain⟨h1,e1⟩:=List.getElem?_eq_some_iff.mp a;obtain⟨h2,e2⟩:=List.getElem?_eq_some_iff.mp b;exact(List.getElem_inj hN).mp (e1.trans e2.symm)
theorem CG{M:Model}{A:dg}{E:Value->aA->Prop}{i:Nat}{x:Str}{v:V}{u:Value}{Q:Unit->aA->Prop}(I:Inv X pins σ H s)(hN:X.N.Nodup)(hi:X.N[i]?=some x)(hx:Loc X.env.scope x)(r:RelV v u)
  (h:∀ s',Inv X pins (σ.set i (some v)) H s'->(∃ a,fI a s.heap s'.heap/\(a=X.env.locals\/X.env.cells.lookup x=some a))->Q () s') (hf:autoParam (X.fn x=true\/X.env.scope.names.lookup x=some .local) Ao._auto_1):wpAny M A (storeName X.env x u) Q E s:=by
 obtain⟨m,hn,hl⟩:=id I.loc;have abv:(X.env.scope.kind == .class||(X.env.scope.kind == .module&&X.env.locals != X.env.globals))=false:=by rw [I.ok.kind]; rfl
 have Ys:i < σ.length:=by rw [I.len]; exact(List.getElem?_eq_some_iff.mp hi).1
 have WD:=I.WD;have tracked:∀ {a:Addr} {h':Heap},(∃ o,s.heap.get? a=some o/\H a=none)->fI a s.heap h'->pJ X.prog X.w H h':=fun {a h'} ha hs b ob e=>by
  obtain⟨_,_,rL⟩:=ha;refine(I.cu b ob e).k9 (fun c w' hc q=>(hs.2 c ?_).trans q) (fun _ q=>q) fun _ _ q=>q;rintro rfl;rcases hc with rfl | hc
  ·rw [rL] at e; cases e
  ·rw [rL] at hc; cases hc
 rcases hx with hk | hk
 ·refine wpAny_storeName_local hk hn (fun h' hn' hs=>?_) abv;obtain⟨oL,_,_,hoL,_⟩:=id hn;refine h _ ⟨I.ok,I.os,I.bare,⟨fun b o e n hb hx=>?_,fun b o e n hb hx=>?_,I.base.free,fun b o e hx=>?_,I.base.sG,I.base.rZ,I.base.uR,I.base.uX⟩,⟨_,hn',fun j y v' e1 e2 e3=>?_⟩,fun y c e=>?_,I.free,I.mG,fun p hp=>?_,tracked ⟨oL,hoL,I.free⟩ hs,by simpa using I.len⟩ ⟨_,hs,.inl rfl⟩
  ·exact(hs.2 b (bu (bK (aP e) I.ok.above))).trans (I.base.keep b o e n hb hx)
  ·obtain⟨sl,e1⟩:=I.base.slot b o e n hb hx;exact⟨sl,(hs.2 b (bu (bK (aP e) I.ok.above))).trans e1⟩
  ·obtain⟨o',e1⟩:=I.base.there b o e hx;exact⟨o',(hs.2 b (bu (bK (aP e) I.ok.above))).trans e1⟩
  ·by_cases hj:j=i
   ·subst hj;rw [hi] at e1; cases e1;rw [eU Ys] at e2;cases e2;exact⟨u,r,.inl ⟨hk,by simp⟩⟩
   ·rw [fG (dG hj)] at e2;obtain⟨u',r',q⟩:=hl j y v' e1 e2 e3;refine⟨u',r',?_⟩;rcases q with ⟨k,e⟩ | ⟨k,c,e,z⟩
    ·refine .inl ⟨k,?_⟩;have:y≠x:=fun e=>hj (Gu hN e1 (e ▸ hi));simp [this,e]
    ·exact .inr ⟨k,c,e,z.sameBut hs (WD y c e)⟩
  ·obtain⟨w',z⟩:=I.cell y c e;exact⟨w',z.sameBut hs (WD y c e)⟩
  ·obtain⟨e,n,ne,nf,d⟩:=I.pin p hp;exact⟨(hs.2 p.1 ne).trans e,n,ne,nf,d⟩
 ·have hfn:X.fn x=true:=by
   rcases hf with z | z
   ·exact z
   ·rw [z] at hk; cases hk
  obtain⟨c,hc⟩:=I.ok.has x (.inl hk);obtain⟨w',z⟩:=I.cell x c hc;refine wpAny_storeName_cell I.ok.kind hk hc z (fun h' UR hs=>?_);obtain⟨oc,W4,aa8⟩:=id z;refine h { s with heap:=h' } ⟨I.ok,I.os,I.bare,⟨fun b o e n hb hx=>?_,fun b o e n hb hx=>?_,I.base.free,fun b o e hx=>?_,I.base.sG,I.base.rZ,I.base.uR,I.base.uX⟩,⟨m,hn.sameBut hs (dG (WD x c hc)),fun j y v' e1 e2 e3=>?_⟩,fun y c' e=>?_,I.free,I.mG,fun p hp=>?_,tracked ⟨oc,W4,I.mG x c hc⟩ hs,by simpa using I.len⟩ ⟨c,hs,.inr hc⟩
  ·exact(hs.2 b (bu (bK (aP e) (I.ok.YZ x c hfn hc)))).trans (I.base.keep b o e n hb hx)
  ·obtain⟨sl,e1⟩:=I.base.slot b o e n hb hx;exact⟨sl,(hs.2 b (bu (bK (aP e) (I.ok.YZ x c hfn hc)))).trans e1⟩
  ·obtain⟨o',e1⟩:=I.base.there b o e hx;exact⟨o',(hs.2 b (bu (bK (aP e) (I.ok.YZ x c hfn hc)))).trans e1⟩
  ·by_cases hj:j=i
   ·subst hj;rw [hi] at e1; cases e1;rw [eU Ys] at e2;cases e2;exact⟨u,r,.inr ⟨.inl hk,c,hc,UR⟩⟩
   ·rw [fG (dG hj)] at e2;obtain⟨u',r',q⟩:=hl j y v' e1 e2 e3;refine⟨u',r',?_⟩;rcases q with q | ⟨k,c',e,z'⟩
    ·exact .inl q
    ·refine .inr ⟨k,c',e,z'.sameBut hs ?_⟩;rintro rfl;exact hj (Gu hN e1 (I.ok.inj _ _ _ e hc ▸ hi))
  ·by_cases hcc:c'=c
   ·subst hcc; exact⟨_,UR⟩
   ·obtain⟨w2,z2⟩:=I.cell y c' e;exact⟨w2,z2.sameBut hs hcc⟩
  ·obtain⟨e,n,ne,nf,d⟩:=I.pin p hp;refine⟨(hs.2 p.1 ?_).trans e,n,ne,nf,d⟩;intro q;rw [q,W4] at e;have q':oc=p.2:=ba e;exact d w' (by rw [<-q']; exact aa8)
theorem FK{M:Model}{A:dg}{E:Value->aA->Prop}{i:Nat}{x:Str}{v:V}{u:Value}{Q:Unit->aA->Prop}(I:Inv X pins σ H s)(hN:X.N.Nodup)(hi:X.N[i]?=some x)(hx:Loc X.env.scope x)(r:RelV v u)
  (h:∀ s',Inv X pins (σ.set i (some v)) H s'->Q () s') (hf:autoParam (X.fn x=true\/X.env.scope.names.lookup x=some .local) Ao._auto_1):wpAny M A (storeName X.env x u) Q E s :=
 CG I hN hi hx r (fun s' I' _=>h s' I') hf
theorem Inv.YY{s':aA}{ch:List Addr}(I:Inv X pins σ H s)(ho:s'.os=s.os)(u:Un (NF X.stack) ch H H' s.heap s'.heap)(cu:pJ X.prog X.w H' s'.heap)(hg:zY s'.gens)
  (R3:∀ b∈ch,(b∈X.ex\/X.oz.heap.objs.size<=b)/\b≠X.env.locals/\(∀ x c,X.env.cells.lookup x=some c->c≠b)/\∀ p∈X.pn++pins,p.1≠b):Inv X pins σ H' s':=by
 obtain⟨h',g',d',t',o'⟩:=s';have e:o'=s.os:=ho;subst e;exact I.call (g':=g') (t':=t') (d':=d') u cu hg R3
end
abbrev XK:=Value->Option Addr->Hp->Prop
abbrev St:=List (Option V)
abbrev VK:=V->Hp->Prop
abbrev TE:=St->Hp->VK->Prop
abbrev TT:=St->Hp->(Bool->Hp->Prop)->Prop
abbrev TA:=St->Hp->(List V->Hp->Prop)->Prop
structure Ends where
 nx:St->Hp->Prop
 rt:VK
 bk:St->Hp->Prop:=fun _ _=>False
 ct:St->Hp->Prop:=fun _ _=>False
abbrev TS:=Ends->St->Hp->Prop
def EP(X:Cx)(pins:List (Addr×Obj))(σ:St)(Q:VK)(u:Value)(s':aA):Prop:=∃ v H',Inv X pins σ H' s'/\RelV v u/\Q v H'
def TP(X:Cx)(pins:List (Addr×Obj))(σ:St)(Q:Bool->Hp->Prop)(b:Bool)(s':aA):Prop:=∃ H',Inv X pins σ H' s'/\Q b H'
def SP(X:Cx)(pins:List (Addr×Obj))(D:Ends)(f:Flow)(s':aA):Prop :=
 match f with
 | .next=>∃ kR H',Inv X pins kR H' s'/\D.nx kR H'
 | .brk=>∃ kR H',Inv X pins kR H' s'/\D.bk kR H'
 | .cont=>∃ kR H',Inv X pins kR H' s'/\D.ct kR H'
 | .ret u=>∃ v kR H',Inv X pins kR H' s'/\RelV v u/\D.rt v H'
def PE(X:Cx)(e:Expr)(t:TE):Prop :=
 ∀ (pins:List (Addr×Obj)) (s:aA) (σ:St) (H:Hp) (Q:VK),Inv X pins σ H s->t σ H Q->wpAny (model X.prog X.w) X.A (eval e X.env) (EP X pins σ Q) X.xe s
def Xd(X:Cx)(st:List Stmt)(t:TS):Prop :=
 ∀ (pins:List (Addr×Obj)) (s:aA) (σ:St) (H:Hp) (D:Ends),Inv X pins σ H s->t D σ H->wpAny (model X.prog X.w) X.A (execs st X.env) (SP X pins D) X.xe s
theorem iB{α:Type}{t:Sem α}{Q Q':α->aA->Prop}{M:Model}{A:dg}{E:Value->aA->Prop}{s:aA}(h:wpAny M A t Q E s)(hQ:∀ a s,Q a s->Q' a s):wpAny M A t Q' E s:=IB h hQ fun _ _ x=>x
section
variable {X:Cx}
def Z5(i:Nat):TE:=fun σ H Q=>∃ v,σ[i]?=some (some v)/\Q v H
def tC(v:V):TE:=fun _ H Q=>Q v H
theorem VF {i:Nat} {x:Str} {pos:Pos} (hN:X.N[i]?=some x) (hv:ZQ X.env.scope x) (hd:autoParam ((x == ("__debug__" : Str))=false) Ad._auto_1) (LO:autoParam ((x == ("__classdict__" : Str))=false) Ad._auto_1):PE X (.Name x pos) (Z5 i):=by
 intro pins s σ H Q I h;obtain⟨v,e,h⟩:=h;obtain⟨m,hn,hl⟩:=I.loc;obtain⟨u,r,l⟩:=hl i x v hN e hv;have fin:EP X pins σ Q u s:=⟨v,H,I,r,h⟩;rcases l with ⟨hk,hm⟩ | ⟨hk,c,hc,rM⟩
 ·exact wpAny_Name (wpAny_loadName_local I.ok.kind hk hn hm fin) hd
 ·rcases hk with hk | hk
  ·exact wpAny_Name (wpAny_loadName_cell I.ok.kind hk hc rM fin) hd
  ·exact wpAny_Name (wpAny_loadName_free I.ok.kind hk hc rM fin LO) hd
theorem VG{i j pos}:PE X (.Constant (.int i) j pos) (tC (.int i)):=fun _ _ _ H _ I h=>wpAny_Constant_int ⟨.int i,H,I.tok _,⟨_,rfl⟩,h⟩
theorem XB{b j pos}:PE X (.Constant (.bool b) j pos) (tC (.bl b)):=fun _ _ _ H _ I h=>Constant_bool ⟨.bl b,H,I,rfl,h⟩
def Gl(X:Cx)(x:Str):Prop:=X.env.kindOf x=some .globalImplicit
theorem wc{E:Value->aA->Prop}{pins:List (Addr×Obj)}{s:aA}{σ:St}{H:Hp}{x:Str}{u:Value}{pos:Pos}{Q:Value->aA->Prop}(I:Inv X pins σ H s)(hg:Gl X x)(hm:X.mg x=some u)(h:Q u s)
  (hd:autoParam ((x == ("__debug__" : Str))=false) Ad._auto_1):wpAny (model X.prog X.w) X.A (eval (.Name x pos) X.env) Q E s :=
 Ip I.ok.kind hg (Calls.loadGlobal_global (by rw [I.ok.glob]; exact I.mod.glob.keeps I.bk) hm h) hd
theorem nj{E:Value->aA->Prop}{pins:List (Addr×Obj)}{s:aA}{σ:St}{H:Hp}{x:Str}{u:Value}{pos:Pos}{Q:Value->aA->Prop}(I:Inv X pins σ H s)(hg:Gl X x)(hm:X.mg x=none)(hv:dZ x=some u)(h:Q u s)
  (hn:autoParam (x≠"__name__") Ad._auto_1) (hd:autoParam ((x == ("__debug__" : Str))=false) Ad._auto_1):wpAny (model X.prog X.w) X.A (eval (.Name x pos) X.env) Q E s:=by
 obtain⟨mb,h1,h2⟩:=I.mod.blt;exact Ip I.ok.kind hg (Calls.loadGlobal_builtin (by rw [I.ok.glob]; exact I.mod.glob.keeps I.bk) hm (by rw [I.ok.blt]; exact h1.keeps I.bk) ((h2 x hn).trans hv) h) hd
theorem SW {x:Str} {v:V} {u:Value} {pos:Pos} (hg:Gl X x) (hm:X.mg x=some u) (r:RelV v u) (hd:autoParam ((x == ("__debug__" : Str))=false) Ad._auto_1):PE X (.Name x pos) (tC v) :=
 fun _ _ _ H _ I h=>wc I hg hm ⟨v,H,I,r,h⟩ hd
variable {a b:Expr} {ta tb:TE} {pos:Pos}
def tB(t:TE):TT:=fun σ H Q=>t σ H fun x H1=>∃ c,x=.bl c/\Q c H1
variable {tA tB':TT} {rest:List Expr}
end
def qL(K:ar)(H:Hp)(a:Addr)(xs:List V):Prop :=
 Rd H a (.lst xs) \/
  ∃ (o:Obj) (bQ:Array Value) (n:Nat),K.lookup a=some o/\o.cls=.type "list"/\o.dict=none/\o.data=.seq bQ n/\bQ.size<=a9/\Vals xs bQ.toList
def zL(K:ar)(H:Hp)(a:Addr)(xs:List V):Prop :=
 Rd H a (.tup xs) \/
  ∃ (o:Obj) (bQ:Array Value) (n:Nat),K.lookup a=some o/\o.cls=.type "tuple"/\o.data=.seq bQ n/\bQ.size<=a9/\Vals xs bQ.toList
def ab0:Value->Option V
 | .none=>some .fg
 | .bool b=>some (.bl b)
 | .int i _=>some (.int i)
 | .str x _=>some (.str x)
 | .bytes b _=>some (.WI b)
 | .float b _=>some (.flt b)
 | .ref a=>some (.ref a)
 | .type n=>some (.ty n)
 | _=>none
theorem RelV.abs{x:V}{u:Value}(r:RelV x u):ab0 u=some x:=by
 cases x with
 | fg=>cases r; rfl
 | bl _=>cases r; rfl
 | int _=>obtain⟨t,rfl⟩:=r; rfl
 | str _=>obtain⟨t,rfl⟩:=r; rfl
 | WI _=>obtain⟨t,rfl⟩:=r; rfl
 | flt _=>obtain⟨t,rfl⟩:=r; rfl
 | ref _=>cases r; rfl
 | ty _=>cases r; rfl
theorem RelV.inj{x y:V}{u:Value}(r:RelV x u)(q:RelV y u):x=y:=ba (r.abs.symm.trans q.abs)
theorem Vals.inj:∀ {xs ys:List V} {us:List Value},Vals xs us->Vals ys us->xs=ys:=by
 intro xs ys us h;induction h generalizing ys with
 | nil=>intro k; cases k; rfl
 | cons r t ih =>
  intro k;cases k with
  | cons r' t'=>rw [r.inj r',ih t']
section
variable {X:Cx} {pins:List (Addr×Obj)} {σ:St} {H:Hp} {s:aA} {a:Addr} {xs ys:List V}
theorem qL.of{K:ar}(h:H a=some (.lst xs)):qL K H a xs:=.inl (.inl h)
theorem zL.of{K:ar}(h:H a=some (.tup xs)):zL K H a xs:=.inl (.inl h)
theorem Inv.list(I:Inv X pins σ H s)(h:qL X.K H a xs):∃ bQ:List Value,Vals xs bQ/\PlainL s.heap a bQ.toArray/\xs.length<=a9:=by
 rcases h with h | ⟨o,bQ,n,hk,hc,hd,hs,hz,r⟩
 ·obtain⟨z,bQ,n,r,e⟩:=h.ok I.cu;exact⟨bQ,r,⟨_,n,e,rfl,rfl,rfl⟩,z⟩
 ·refine⟨bQ.toList,r,⟨o,n,I.Fh a o hk,hc,hd,by simpa using hs⟩,?_⟩;have e:=r.length;simp only [ff] at e;lia
theorem Inv.tuple(I:Inv X pins σ H s)(h:zL X.K H a xs):∃ bQ:List Value,Vals xs bQ/\IsTup s.heap a bQ.toArray/\xs.length<=a9:=by
 rcases h with h | ⟨o,bQ,n,hk,hc,hs,hz,r⟩
 ·obtain⟨z,bQ,r,p⟩:=h.ok I.cu;exact⟨bQ,r,p,z⟩
 ·refine⟨bQ.toList,r,⟨o,I.Fh a o hk,hc,n,by simpa using hs⟩,?_⟩;have e:=r.length;simp only [ff] at e;lia
theorem Inv.v9(I:Inv X pins σ H s)(h:qL X.K H a xs)(h':qL X.K H a ys):xs=ys:=by
 obtain⟨bQ,r,⟨o,n,e,_,_,d⟩,_⟩:=I.list h;obtain⟨its',r',⟨o',n',e',_,_,d'⟩,_⟩:=I.list h';rw [e] at e'; cases e';rw [d] at d';injection d' with d1 _
 have:bQ=its':=by simpa using congrArg Array.toList d1
 subst this;exact r.inj r'
theorem Inv.Mz(I:Inv X pins σ H s)(h:zL X.K H a xs)(h':zL X.K H a ys):xs=ys:=by
 obtain⟨bQ,r,⟨o,e,_,n,d⟩,_⟩:=I.tuple h;obtain⟨its',r',⟨o',e',_,n',d'⟩,_⟩:=I.tuple h';rw [e] at e'; cases e';rw [d] at d';injection d' with d1 _
 have:bQ=its':=by simpa using congrArg Array.toList d1
 subst this;exact r.inj r'
end
abbrev Cx.B4(X:Cx)(E:Value->aA->Prop):Cx:={ X with xe:=E }
abbrev Cx.VS(X:Cx):Cx:=X.B4 fun _ _=>False
theorem Cx.Ok.B4{X:Cx}(ok:X.Ok)(E:Value->aA->Prop):(X.B4 E).Ok :=
 ⟨ok.mod,ok.kind,ok.glob,ok.blt,ok.above,ok.inj,ok.has,ok.YZ,ok.hd,ok.frames,ok.Zi,ok.ZM,ok.bs,ok.R4,ok.M1,ok.QR,ok.zi,ok.UU⟩
theorem Cx.Ok.sF{X:Cx}{E:Value->aA->Prop}(ok:(X.B4 E).Ok):X.Ok :=
 ⟨ok.mod,ok.kind,ok.glob,ok.blt,ok.above,ok.inj,ok.has,ok.YZ,ok.hd,ok.frames,ok.Zi,ok.ZM,ok.bs,ok.R4,ok.M1,ok.QR,ok.zi,ok.UU⟩
section
variable {X:Cx} {pins:List (Addr×Obj)} {σ:St} {H:Hp} {s:aA} {E:Value->aA->Prop}
theorem Inv.B4(I:Inv X pins σ H s)(E:Value->aA->Prop):Inv (X.B4 E) pins σ H s:=⟨I.ok.B4 E,I.os,I.bare,I.base,I.loc,I.cell,I.free,I.mG,I.pin,I.cu,I.len⟩
theorem Inv.sF(I:Inv (X.B4 E) pins σ H s):Inv X pins σ H s:=⟨I.ok.sF,I.os,I.bare,I.base,I.loc,I.cell,I.free,I.mG,I.pin,I.cu,I.len⟩
theorem SP.sF{D:Ends}{f:Flow}{s':aA}(h:SP (X.B4 E) pins D f s'):SP X pins D f s':=by
 cases f with
 | next=>obtain⟨kR,H',I,q⟩:=h; exact⟨kR,H',I.sF,q⟩
 | brk=>obtain⟨kR,H',I,q⟩:=h; exact⟨kR,H',I.sF,q⟩
 | cont=>obtain⟨kR,H',I,q⟩:=h; exact⟨kR,H',I.sF,q⟩
 | ret u=>obtain⟨v,kR,H',I,r,q⟩:=h; exact⟨v,kR,H',I.sF,r,q⟩
theorem Xd.VS{st:List Stmt}{t:TS}(h:Xd X.VS st t):Xd X st t:=fun pins s σ H D I hw =>
 IB (h pins s σ H D (I.B4 _) hw) (fun _ _ q=>q.sF) fun _ _ z=>bJ z
end
section
variable {X:Cx} {st:Stmt} {rest:List Stmt} {t u:TS} {e:Expr} {te:TE} {pos:Pos}
theorem Inv.quiet{pins:List (Addr×Obj)}{σ:St}{H:Hp}{s:aA}(I:Inv X pins σ H s):interactive X.env=false:=by simp [interactive,I.ok.kind]
end
abbrev ab4:=V->V->V->Hp->(Hp->Prop)->Prop
def ab7(X:Cx)(t:ab4):Prop :=
 ∀ (pins:List (Addr×Obj)) (s:aA) (σ:St) (H:Hp) (o i v:V) (ov iv u:Value) (Q:Hp->Prop),Inv X pins σ H s->RelV o ov->RelV i iv->RelV v u->t o i v H Q ->
  wpAny (model X.prog X.w) X.A (setItem ov iv u) (fun _ s'=>∃ H',Inv X pins σ H' s'/\Q H') X.xe s
structure It where
 go:Nat->Hp->Prop
 yld:Nat->Hp->V->Hp->Prop
 stop:Nat->Hp->Prop
def o6(X:Cx)(pins:List (Addr×Obj))(H:Hp)(b:Addr):Prop :=
 H b=none/\b≠X.env.locals/\b∉X.fs/\(b∈X.ex\/X.oz.heap.objs.size<=b)/\(∀ x c,X.env.cells.lookup x=some c->c≠b)/\∀ p∈X.pn++pins,p.1≠b
theorem Inv.Cd{X:Cx}{pins:List (Addr×Obj)}{σ:St}{H H':Hp}{s:aA}{b:Addr}(I:Inv X pins σ H s)(hb:s.heap.objs.size<=b)(hn:H' b=none):o6 X pins H' b:=by
 refine⟨hn,oV (bK I.lt hb),I.aas hb,.inr (aU I.sz hb),fun x c e z=>?_,fun p hp z=>?_⟩
 ·obtain⟨v,q⟩:=I.cell x c e;exact absurd (bK q.lt (by rw [z]; exact hb)) (jk _)
 ·exact absurd (bK (aP (I.pin p hp).1) (by rw [z]; exact hb)) (jk _)
structure Turn(P:bE)(w:World)(K:ar)(tg:Expr)(J:It)(fp:List Addr)(it:Addr)(tn:Nat->Heap->Prop):Prop where
 mem:it∈fp
 obj:∀ i h,tn i h->∀ b∈fp,∃ o,h.get? b=some o/\∀ v,o.data≠.cell v
 keep:∀ i h h',tn i h->(∀ b∈fp,∀ o,h.get? b=some o->h'.get? b=some o)->tn i h'
 item:∀ (X:Cx),X.prog=P->X.w=w->X.K=K->X.calm=true->∀ (i:Nat) (pins:List (Addr×Obj)) (s:aA) (σ:St) (H:Hp) (E:Value->aA->Prop),Inv X pins σ H s->(∀ b∈fp,o6 X pins H b)->tn i s.heap->J.go i H ->
  wpAny (model P w) X.A (nC (.ref it)) (fun r s1=>∃ u,r=some u /\
   wpAny (model P w) X.A (zR tg (.ref it) u) (fun _ s2=>∃ x H',Inv X pins σ H' s2/\RelV x u/\J.yld i H x H'/\tn (i+1) s2.heap/\∀ b∈fp,H' b=none) E s1) E s
 done:∀ (X:Cx),X.prog=P->X.w=w->X.K=K->X.calm=true->∀ (i:Nat) (pins:List (Addr×Obj)) (s:aA) (σ:St) (H:Hp) (E:Value->aA->Prop),Inv X pins σ H s->(∀ b∈fp,o6 X pins H b)->tn i s.heap->J.stop i H ->
  wpAny (model P w) X.A (nC (.ref it)) (fun r s1=>r=none/\Inv X pins σ H s1) E s
 self:∀ (A:dg) (i:Nat) (s:aA) (Q:Value->aA->Prop) (E:Value->aA->Prop),tn i s.heap->Q (.ref it) s->wpAny (model P w) A (Fu (.ref it)) Q E s
abbrev TI:=St->Hp->(It->Hp->Prop)->Prop
def PIE(X:Cx)(pins:List (Addr×Obj))(σ:St)(tg:Expr)(R:It->Hp->Prop)(UE:Value)(s2:aA):Prop :=
 ∃ (it:Addr) (fp:List Addr) (tn:Nat->Heap->Prop) (J:It) (H':Hp),UE=.ref it/\Inv X pins σ H' s2/\Turn X.prog X.w X.K tg J fp it tn/\tn 0 s2.heap/\(∀ b∈fp,o6 X pins H' b)/\R J H'
theorem LR{M:Model}{A:dg}{E:Value->aA->Prop}{s:aA}{tg:Expr}{it:Addr}{u:Value}{o:Obj}{n:String}{vs:Array Value}{Q:Unit->aA->Prop}(ho:s.heap.get? it=some o)(hc:o.cls=.type n)(hd:o.data=.fields vs)
    (hn:["enumerate","zip","dict_itemiterator","dict_reverseitemiterator","odict_iterator","itertools.zip_longest","itertools.pairwise"].contains n=false) (hQ:Q () s):wpAny M A (zR tg (.ref it) u) Q E s:=by
  unfold zR;cases tg <;> first
    | exact az hQ
    | (cases u <;> first
        | exact az hQ
        | (refine ah (wpAny_load ho ?_)
           rw [hc,hd];show wpAny M A (if (["enumerate","zip","dict_itemiterator","dict_reverseitemiterator","odict_iterator","itertools.zip_longest","itertools.pairwise"].contains n&&vs[0]? == some (vo _))=true then _ else _) Q E s;rw [if_neg (by intro h; rw [hn,KR] at h; cases h)];exact az hQ))
def Itl(K:ar)(a:Addr):It :=
 ⟨fun i H=>∃ xs x,qL K H a xs/\xs[i]?=some x,fun i H x H'=>H'=H/\∀ xs,qL K H a xs->xs[i]?=some x,fun i H=>∃ xs,qL K H a xs/\xs.length<=i⟩
def Itt(K:ar)(a:Addr):It :=
 ⟨fun i H=>∃ xs x,zL K H a xs/\xs[i]?=some x,fun i H x H'=>H'=H/\∀ xs,zL K H a xs->xs[i]?=some x,fun i H=>∃ xs,zL K H a xs/\xs.length<=i⟩
def Itr(lo:Int)(n:Nat):It:=⟨fun i _=>i < n,fun i H x H'=>H'=H/\x=.int (lo+i),fun i _=>n<=i⟩
theorem Mu{P:bE}{w:World}{K:ar}{tg:Expr}(a it:Addr):Turn P w K tg (Itl K a) [it] it (fun i h=>h.IsListIter it a i) where
 mem:=by simp
 obj:=fun i h st b hb=>by
  have e:b=it:=by simpa using hb
  subst e;obtain⟨o,e,c,d⟩:=st;exact⟨o,e,fun v z=>by rw [d] at z; cases z⟩
 keep:=fun i h h' st k=>st.at fun o e=>k it (by simp) o e
 item:=by
  intro X hP hw hK hc i pins s σ H E I hf st hg;subst hP hw hK;obtain⟨xs,x,hq,hx⟩:=hg;obtain⟨bQ,rv,p,hz⟩:=I.list hq;obtain⟨u,hu,ru⟩:=rv.get hx;obtain⟨f0,f1,f2,f3,f4,f5⟩:=hf it (by simp);refine wpAny_pyNext_list_item st p.isList (x:=u) (by simpa using hu) fun h' Ab sb=>?_;have I1:Inv X pins σ H { s with heap:=h' }:=I.turned (t':=s.toks) (fun b o hb e=>(sb.2 b hb).trans e) f0 f1 f3 f4 f5;obtain⟨o,e,c,d⟩:=id Ab;exact⟨u,rfl,LR (s:={ s with heap:=h' }) e c d (by decide) ⟨x,H,I1,ru,⟨rfl,fun ys hy=>by rw [I.v9 hy hq]; exact hx⟩,Ab,fun b hb=>(hf b hb).1⟩⟩
 done:=by
  intro X hP hw hK hc i pins s σ H E I hf st hg;subst hP hw hK;obtain⟨xs,hq,hx⟩:=hg;obtain⟨bQ,rv,p,hz⟩:=I.list hq;obtain⟨f0,f1,f2,f3,f4,f5⟩:=hf it (by simp);have hl:=rv.length;exact wpAny_pyNext_list_end (I.ok.hd hc) st p.isList (by simp; lia) fun h' eb=>⟨rfl,I.turned (t':=s.toks) (fun b o hb e=>eb b o hb e) f0 f1 f3 f4 f5⟩
 self:=fun _ _ _ _ _ st h=>wpAny_pyIter_listiter st h
theorem IX{P:bE}{w:World}{K:ar}{tg:Expr}(a it:Addr):Turn P w K tg (Itt K a) [it] it (fun i h=>h.IsTupleIter it a i) where
 mem:=by simp
 obj:=fun i h st b hb=>by
  have e:b=it:=by simpa using hb
  subst e;obtain⟨o,e,c,d⟩:=st;exact⟨o,e,fun v z=>by rw [d] at z; cases z⟩
 keep:=fun i h h' st k=>st.at fun o e=>k it (by simp) o e
 item:=by
  intro X hP hw hK hc i pins s σ H E I hf st hg;subst hP hw hK;obtain⟨xs,x,hq,hx⟩:=hg;obtain⟨bQ,rv,p,hz⟩:=I.tuple hq;obtain⟨u,hu,ru⟩:=rv.get hx;obtain⟨f0,f1,f2,f3,f4,f5⟩:=hf it (by simp);refine wpAny_pyNext_tuple_item st (show s.heap.IsTuple a bQ.toArray from p) (x:=u) (by simpa using hu) fun h' Ab sb=>?_;have I1:Inv X pins σ H { s with heap:=h' }:=I.turned (t':=s.toks) (fun b o hb e=>(sb.2 b hb).trans e) f0 f1 f3 f4 f5;obtain⟨o,e,c,d⟩:=id Ab;exact⟨u,rfl,LR (s:={ s with heap:=h' }) e c d (by decide) ⟨x,H,I1,ru,⟨rfl,fun ys hy=>by rw [I.Mz hy hq]; exact hx⟩,Ab,fun b hb=>(hf b hb).1⟩⟩
 done:=by
  intro X hP hw hK hc i pins s σ H E I hf st hg;subst hP hw hK;obtain⟨xs,hq,hx⟩:=hg;obtain⟨bQ,rv,p,hz⟩:=I.tuple hq;obtain⟨f0,f1,f2,f3,f4,f5⟩:=hf it (by simp);have hl:=rv.length;exact wpAny_pyNext_tuple_end (I.ok.hd hc) st (show s.heap.IsTuple a bQ.toArray from p) (by simp; lia) fun h' eb=>⟨rfl,I.turned (t':=s.toks) (fun b o hb e=>eb b o hb e) f0 f1 f3 f4 f5⟩
 self:=fun _ _ _ _ _ st h=>wpAny_pyIter_tupleiter st h
theorem IY{P:bE}{w:World}{K:ar}{tg:Expr}(it:Addr)(lo:Int)(n:Nat):Turn P w K tg (Itr lo n) [it] it (fun i h=>IsRangeIter h it (lo+(i:Nat) * 1) ((n:Int) - (i:Nat)) 1) where
 mem:=by simp
 obj:=fun i h st b hb=>by
  have e:b=it:=by simpa using hb
  subst e;exact⟨_,st,fun v z=>by
   have z':Data.fields _=Data.cell v:=z;cases z'⟩
 keep:=fun i h h' st k=>k it (by simp) _ st
 item:=by
  intro X hP hw hK hc i pins s σ H E I hf st hg;subst hP hw hK;obtain⟨f0,f1,f2,f3,f4,f5⟩:=hf it (by simp);have W:=Walks.range (prog:=X.prog) (w:=X.w) (I.ok.hd hc) it lo 1 n;refine W.item i s _ _ hg st fun v h' tk hv Ab kk=>?_;obtain⟨t,rfl⟩:=hv;have I1:Inv X pins σ H { s with heap:=h',toks:=tk }:=I.turned (fun b o hb e=>kk b o (by simpa using hb) e) f0 f1 f3 f4 f5;refine⟨_,rfl,LR (s:={ s with heap:=h',toks:=tk }) (n:="range_iterator") Ab rfl rfl (by decide) ⟨.int (lo+i),H,I1,⟨t,?_⟩,⟨rfl,rfl⟩,Ab,fun b hb=>(hf b hb).1⟩⟩;rw [Int.mul_one]
 done:=by
  intro X hP hw hK hc i pins s σ H E I hf st hg;subst hP hw hK;obtain⟨f0,f1,f2,f3,f4,f5⟩:=hf it (by simp);exact wpAny_pyNext_range_end (I.ok.hd hc) st (by have:n<=i:=hg; lia) fun h' eb=>⟨rfl,I.turned (t':=s.toks) (fun b o hb e=>eb b o hb e) f0 f1 f3 f4 f5⟩
 self:=fun _ _ _ _ _ st h=>wpAny_pyIter_rangeiter st h
section
variable {X:Cx} {tg:Expr}
theorem Pb{pins:List (Addr×Obj)}{σ:St}{H:Hp}{s:aA}{R:It->Hp->Prop}{E:Value->aA->Prop}{lo hi:Int}{t u v:Tok}{tk:Nat}(I:Inv X pins σ H s)(h1:-(2 ^ 62)<=lo)(h2:lo < 2 ^ 62)(h3:-(2 ^ 62)<=hi)(h4:hi < 2 ^ 62)
  (q:R (Itr lo (hi - lo).toNat) H):wpAny (model X.prog X.w) X.A (Fu (.ref s.heap.objs.size)) (PIE X pins σ tg R) E { s with heap:=s.heap.push { cls:=.type "range",data:=.fields #[.int lo t,.int hi u,.int 1 v] },toks:=tk }:=by
 refine wpAny_pyIter_range (IsRange.new ..) (small_one h1 h2 h3 h4) ?_;have I1:Inv X pins σ H { s with heap:=s.heap.push { cls:=.type "range",data:=.fields #[.int lo t,.int hi u,.int 1 v] },toks:=tk }:=I.kept fun b o e=>aF _ e
 refine⟨(s.heap.push { cls:=.type "range",data:=.fields #[.int lo t,.int hi u,.int 1 v] }).objs.size,[(s.heap.push { cls:=.type "range",data:=.fields #[.int lo t,.int hi u,.int 1 v] }).objs.size],_,_,H,rfl,
  I1.kept (t':=tk) fun b o e=>aF _ e,IY _ lo (hi - lo).toNat,?_,fun b hb=>?_,q⟩
 ·have e1:lo+((0:Nat):Int) * 1=lo:=by simp
  have e2:(((hi - lo).toNat:Nat):Int) - ((0:Nat):Int)=Builtin.Range.rangeSize lo hi 1:=by rw [rangeSize_one]; split <;> lia
  show IsRangeIter _ _ (lo+((0:Nat):Int) * 1) ((((hi - lo).toNat:Nat):Int) - ((0:Nat):Int)) 1;rw [e1,e2];exact bc _ rfl
 ·have e:b=(s.heap.push { cls:=.type "range",data:=.fields #[.int lo t,.int hi u,.int 1 v] }).objs.size:=by simpa using hb
  subst e;exact I1.Cd (aH _) (I1.cu.fresh (aH _))
def sW(fp:List Addr)(h:Heap):List (Addr×Obj):=fp.filterMap fun b=>(h.get? b).map fun o=>(b,o)
theorem qY{fp:List Addr}{h:Heap}{b:Addr}{o:Obj}(hb:b∈fp)(e:h.get? b=some o):(b,o)∈sW fp h:=List.mem_filterMap.mpr ⟨b,hb,by rw [e]; rfl⟩
theorem M0{fp:List Addr}{h:Heap}{p:Addr×Obj}(hp:p∈sW fp h):p.1∈fp/\h.get? p.1=some p.2:=by
 obtain⟨b,hb,e⟩:=List.mem_filterMap.mp hp;cases q:h.get? b with
 | none=>rw [q] at e; cases e
 | some o =>
  rw [q] at e;have e':(b,o)=p:=ba e;subst e';exact⟨hb,q⟩
theorem Inv.pinned{pins:List (Addr×Obj)}{σ:St}{H:Hp}{s:aA}{fp:List Addr}(I:Inv X pins σ H s)(hf:∀ b∈fp,o6 X pins H b)(ho:∀ b∈fp,∃ o,s.heap.get? b=some o/\∀ v,o.data≠.cell v):Inv X (pins++sW fp s.heap) σ H s :=
 I.Ll fun p hp=>(List.mem_append.mp hp).elim (fun z=>I.pin p (dw _ z)) fun z=>by
  obtain⟨hb,e⟩:=M0 z;obtain⟨f0,f1,f2,_⟩:=hf p.1 hb;obtain⟨o,e',d⟩:=ho p.1 hb;rw [e] at e'; cases e';exact⟨e,f0,f1,f2,d⟩
theorem Inv.vw{pins pl:List (Addr×Obj)}{σ:St}{H:Hp}{s:aA}(I:Inv X (pins++pl) σ H s):Inv X pins σ H s:=I.Ll fun p hp=>I.pin p (dw _ (cH _ hp))
end
abbrev R2:=V->V->Hp->VK->Prop
def Mg(X:Cx)(f:Value->Value->Sem Value)(r:R2):Prop :=
 ∀ (pins:List (Addr×Obj)) (s:aA) (σ:St) (H:Hp) (x y:V) (v u:Value) (Q:VK),Inv X pins σ H s->RelV x v->RelV y u->r x y H Q ->
  wpAny (model X.prog X.w) X.A (f v u) (EP X pins σ Q) X.xe s
def UnR(X:Cx)(f:Value->Sem Value)(r:V->Hp->VK->Prop):Prop :=
 ∀ (pins:List (Addr×Obj)) (s:aA) (σ:St) (H:Hp) (x:V) (v:Value) (Q:VK),Inv X pins σ H s->RelV x v->r x H Q ->
  wpAny (model X.prog X.w) X.A (f v) (EP X pins σ Q) X.xe s
def RK(X:Cx)(f:Value)(r:List V->Hp->VK->Prop):Prop :=
 ∀ (pins:List (Addr×Obj)) (s:aA) (σ:St) (H:Hp) (xs:List V) (us:List Value) (Q:VK),Inv X pins σ H s->Vals xs us->r xs H Q ->
  wpAny (model X.prog X.w) X.A (call f us) (EP X pins σ Q) X.xe s
def ab2(X:Cx)(r:V->Hp->(Bool->Hp->Prop)->Prop):Prop :=
 ∀ (pins:List (Addr×Obj)) (s:aA) (σ:St) (H:Hp) (x:V) (v:Value) (Q:Bool->Hp->Prop),Inv X pins σ H s->RelV x v->r x H Q ->
  wpAny (model X.prog X.w) X.A (truthy v) (TP X pins σ Q) X.xe s
def rI(C:Int->Int->Prop)(g:Int->Int->V):R2:=fun x y H Q=>∃ i j,x=.int i/\y=.int j/\C i j/\Q (g i j) H
def WU(g:Int->Int->V):R2:=fun x y H Q=>∃ i j,x=.int i/\y=.int j/\Q (g i j) H
def rU(g:Int->V):V->Hp->VK->Prop:=fun x H Q=>∃ i,x=.int i/\Q (g i) H
section
variable {X:Cx} {a b c:Expr} {ta tb tc:TE} {pos:Pos}
theorem Zo{f:Value->Value->Sem Value}{C:Int->Int->Prop}{g:Int->Int->Int}
  (rule:∀ (i j:Int) (t u:Tok) (s:aA) (Q:Value->aA->Prop) (E:Value->aA->Prop),C i j->Q (.int (g i j) s.toks) { s with toks:=s.toks+1 }->wpAny (model X.prog X.w) X.A (f (.int i t) (.int j u)) Q E s) :
  Mg X f (rI C fun i j=>.int (g i j)):=by
 intro pins s σ H x y v u Q I rx ry h;obtain⟨i,j,rfl,rfl,hc,q⟩:=h;obtain⟨t,rfl⟩:=rx;obtain⟨t',rfl⟩:=ry;exact rule i j t t' s _ _ hc ⟨.int (g i j),H,I.tok _,⟨_,rfl⟩,q⟩
theorem XE{f:Value->Value->Sem Value}{g:Int->Int->Int}
  (rule:∀ (i j:Int) (t u:Tok) (s:aA) (Q:Value->aA->Prop) (E:Value->aA->Prop),Q (.int (g i j) s.toks) { s with toks:=s.toks+1 }->wpAny (model X.prog X.w) X.A (f (.int i t) (.int j u)) Q E s) :
  Mg X f (WU fun i j=>.int (g i j)):=by
 intro pins s σ H x y v u Q I rx ry h;obtain⟨i,j,rfl,rfl,q⟩:=h;obtain⟨t,rfl⟩:=rx;obtain⟨t',rfl⟩:=ry;exact rule i j t t' s _ _ ⟨.int (g i j),H,I.tok _,⟨_,rfl⟩,q⟩
theorem XF{f:Value->Value->Sem Value}{g:Int->Int->Bool}
  (rule:∀ (i j:Int) (t u:Tok) (s:aA) (Q:Value->aA->Prop) (E:Value->aA->Prop),Q (.bool (g i j)) s->wpAny (model X.prog X.w) X.A (f (.int i t) (.int j u)) Q E s) :
  Mg X f (WU fun i j=>.bl (g i j)):=by
 intro pins s σ H x y v u Q I rx ry h;obtain⟨i,j,rfl,rfl,q⟩:=h;obtain⟨t,rfl⟩:=rx;obtain⟨t',rfl⟩:=ry;exact rule i j t t' s _ _ ⟨.bl (g i j),H,I,rfl,q⟩
def acf(i j:Int):Prop:=0 < j/\j < 1073741824
def WS(i j:Int):Prop:=(-(2 ^ 64) < i/\i < 2 ^ 64)\/(-(2 ^ 64) < j/\j < 2 ^ 64)
theorem WS.ok{i j:Int}(h:WS i j):IntMulOk i j:=by
 rcases h with ⟨h1,h2⟩ | ⟨h1,h2⟩
 ·exact .of_left (intBits_le_64 h1 h2)
 ·exact .of_right (intBits_le_64 h1 h2)
theorem VP:Mg X (jT .Add) (WU fun i j=>.int (i+j)):=XE fun _ _ _ _ _ _ _ q=>add_int q
theorem VL:Mg X (jT .Sub) (WU fun i j=>.int (i - j)):=XE fun _ _ _ _ _ _ _ q=>sub_int q
theorem VM:Mg X (jT .Mult) (rI WS fun i j=>.int (i * j)):=Zo fun _ _ _ _ _ _ _ hc q=>mul_int q hc.ok
theorem S2:Mg X (jT .FloorDiv) (rI acf fun i j=>.int (i / j)):=Zo fun i j _ _ _ _ _ hc q=>by
 have h1:(0:Int) < j:=hc.1;have h2:j < 1073741824:=hc.2;exact floordiv_int (by lia) (by rw [Int.fdiv_eq_ediv_of_nonneg i (by lia)]; exact q) (.inl (PyProof.noPylong_small (by lia)))
theorem VN:Mg X (jT .Mod) (rI (fun _ j=>0 < j) fun i j=>.int (i % j)):=Zo fun i j _ _ _ _ _ hc q=>by
 have h1:(0:Int) < j:=hc;exact mod_int' (by lia) (by rw [Int.fmod_eq_emod_of_nonneg i (by lia)]; exact q)
theorem unI{f:Value->Sem Value}{g:Int->Int}
  (rule:∀ (i:Int) (t:Tok) (s:aA) (Q:Value->aA->Prop) (E:Value->aA->Prop),Q (.int (g i) s.toks) { s with toks:=s.toks+1 }->wpAny (model X.prog X.w) X.A (f (.int i t)) Q E s) :
  UnR X f (rU fun i=>.int (g i)):=by
 intro pins s σ H x v Q I rx h;obtain⟨i,rfl,q⟩:=h;obtain⟨t,rfl⟩:=rx;exact rule i t s _ _ ⟨.int (g i),H,I.tok _,⟨_,rfl⟩,q⟩
theorem Vd:UnR X (unaryOp .USub) (rU fun i=>.int (-i)):=unI fun _ _ _ _ _ q=>neg_int q
end
section
variable {X:Cx} {a b c:Expr} {ta tb tc:TE} {pos:Pos}
theorem XC:Mg X (eS .Lt) (WU fun i j=>.bl (decide (i < j))):=XF fun _ _ _ _ _ _ _ q=>lt_int q
theorem XD:Mg X (eS .Gt) (WU fun i j=>.bl (decide (j < i))):=XF fun _ _ _ _ _ _ _ q=>gt_int q
theorem gR(b:Expr){op:CmpOp}(h:autoParam (op≠.In) Ad._auto_1)(h2:autoParam (op≠.NotIn) Ad._auto_1):behindInMarks op b=false:=by
 have e1:(op == CmpOp.In)=false:=by cases op <;> first | rfl | exact absurd rfl h
 have e2:(op == CmpOp.NotIn)=false:=by cases op <;> first | rfl | exact absurd rfl h2
 cases b with
 | Set es k _ =>
  show (k == 0&&(op == .In||op == .NotIn)&&es.all (constantsAlone 8))=false;rw [e1,e2,Bool.or_false,KS,KR]
 | _=>rfl
def WM(K:ar)(x:V)(H:Hp)(k:Bool):Prop :=
 match x with
 | .fg=>k=false
 | .bl b=>k=b
 | .int i=>k=(i != 0)
 | .str y=>y.length<=a9/\k=((y.length:Int) != 0)
 | .WI y=>y.size<=a9/\k=((y.size:Int) != 0)
 | .ref p=>(∃ xs,qL K H p xs/\k=!xs.isEmpty)\/(∃ xs,zL K H p xs/\k=!xs.isEmpty)\/∃ kvs,H p=some (.dK kvs)/\k=!kvs.isEmpty
 | _=>False
theorem JR{κ:Type}{kvs:List (κ×V)}{vs:List (κ×Value)}(r:KV kvs vs):(!vs.isEmpty)=!kvs.isEmpty:=by
 cases r <;> rfl
theorem A5{xs:List V}{bQ:List Value}(r:Vals xs bQ):(!bQ.toArray.isEmpty)=!xs.isEmpty:=by
 cases r <;> simp
theorem A2:(a9:Nat) < 2 ^ 63:=by rw [cV]; decide
theorem Vf:ab2 X (fun x H Q=>∃ k,WM X.K x H k/\Q k H):=by
 intro pins s σ H x v Q I rx h;obtain⟨k,e,q⟩:=h;have hl:=A2;have hs:a9=16777216:=cV;cases x with
 | fg =>
  cases rx;have e':k=false:=e;subst e';exact truthy_none ⟨H,I,q⟩
 | bl b =>
  cases rx;have e':k=b:=e;subst e';exact pL ⟨H,I,q⟩
 | int i =>
  obtain⟨t,rfl⟩:=rx;have e':k=(i != 0):=e;subst e';exact PySem.P.truthy_int ⟨H,I,q⟩
 | str y =>
  obtain⟨t,rfl⟩:=rx;obtain⟨hy,e'⟩:y.length<=a9/\k=((y.length:Int) != 0):=e;subst e';exact PySem.P.truthy_str (by lia) ⟨H,I.tok _,q⟩
 | WI y =>
  obtain⟨t,rfl⟩:=rx;obtain⟨hy,e'⟩:y.size<=a9/\k=((y.size:Int) != 0):=e;subst e';exact PySem.W.truthy_bytes (by lia) ⟨H,I.tok _,q⟩
 | ref p =>
  cases rx;have e':(∃ xs,qL X.K H p xs/\k=!xs.isEmpty)\/(∃ xs,zL X.K H p xs/\k=!xs.isEmpty)\/∃ kvs,H p=some (.dK kvs)/\k=!kvs.isEmpty:=e;rcases e' with ⟨xs,hx,e'⟩ | ⟨xs,hx,e'⟩ | ⟨kvs,hx,e'⟩
  ·subst e';obtain⟨bQ,r,pl,hz⟩:=I.list hx;have hlen:=r.length;exact wpAny_truthy_list pl.isList (by simp only [a8]; lia) ⟨H,I.tok _,by rw [A5 r]; exact q⟩
  ·subst e';obtain⟨bQ,r,pl,hz⟩:=I.tuple hx;have hlen:=r.length;exact truthy_tuple pl (by simp only [a8]; lia) ⟨H,I.tok _,by rw [A5 r]; exact q⟩
  ·subst e';obtain⟨hz,hS,vs,r,m⟩:kvs.length<=a9/\(p == cS)=false/\∃ vs,KV kvs vs/\s.heap.DictOf (cK X.prog X.w) p vs:=I.cu p _ hx;have hlen:kvs.length=vs.length:=jd r;exact Iz hS m (by lia) ⟨H,I.tok _,by rw [JR r]; exact q⟩
 | _=>exact(show False from e).elim
theorem Jr:Mg X (jT .Add) (fun x y H Q=>∃ i j,x=.str i/\y=.str j/\i.length+j.length<=a9/\Q (.str (i++j)) H):=by
 intro pins s σ H x y v u Q I rx ry h;obtain⟨i,j,rfl,rfl,hz,q⟩:=h;obtain⟨t,rfl⟩:=rx;obtain⟨t',rfl⟩:=ry;exact add_str (fun t' tk=>⟨.str (i++j),H,I.tok _,⟨_,rfl⟩,q⟩) hz
theorem vals1{x:V}{us:List Value}(r:Vals [x] us):∃ u,us=[u]/\RelV x u:=by
 cases r with
 | cons r1 r2=>cases r2; exact⟨_,rfl,r1⟩
theorem vals2{x y:V}{us:List Value}(r:Vals [x,y] us):∃ u w',us=[u,w']/\RelV x u/\RelV y w':=by
 cases r with
 | cons r1 r2 =>
  cases r2 with
  | cons r3 r4=>cases r4; exact⟨_,_,rfl,r1,r3⟩
def Za(K:ar)(x:V)(H:Hp)(n:Nat):Prop :=
 match x with
 | .str y=>y.length<=a9/\n=y.length
 | .WI y=>y.size<=a9/\n=y.size
 | .ref p=>(∃ xs,qL K H p xs/\n=xs.length)\/∃ xs,zL K H p xs/\n=xs.length
 | _=>False
theorem Rm:RK X (.builtin "len") (fun xs H Q=>∃ x n,xs=[x]/\Za X.K x H n/\Q (.int n) H):=by
 intro pins s σ H xs us Q I r h;obtain⟨x,n,rfl,e,q⟩:=h;obtain⟨u,rfl,rx⟩:=vals1 r;have hl:=A2;have hs:a9=16777216:=cV;cases x with
 | str y =>
  obtain⟨t,rfl⟩:=rx;obtain⟨hy,e'⟩:y.length<=a9/\n=y.length:=e;subst e';exact len_str (by lia) ⟨.int _,H,I.tok _,⟨_,rfl⟩,q⟩
 | WI y =>
  obtain⟨t,rfl⟩:=rx;obtain⟨hy,e'⟩:y.size<=a9/\n=y.size:=e;subst e';exact PySem.W.len_bytes (by lia) ⟨.int _,H,I.tok _,⟨_,rfl⟩,q⟩
 | ref p =>
  cases rx;have e':(∃ xs,qL X.K H p xs/\n=xs.length)\/∃ xs,zL X.K H p xs/\n=xs.length:=e;rcases e' with ⟨xs,hx,e'⟩ | ⟨xs,hx,e'⟩
  ·subst e';obtain⟨bQ,r',pl,hz⟩:=I.list hx;have hlen:=r'.length;exact Calls.call_len_list pl.isList (by simp only [a8]; lia) ⟨.int xs.length,H,I.tok _,⟨_,by simp only [a8]; rw [hlen]⟩,q⟩
  ·subst e';obtain⟨bQ,r',pl,hz⟩:=I.tuple hx;have hlen:=r'.length;exact len_tuple pl (by simp only [a8]; lia) ⟨.int xs.length,H,I.tok _,⟨_,by simp only [a8]; rw [hlen]⟩,q⟩
 | _=>exact(show False from e).elim
end
theorem yg.some_of{v:V}{o:Option Value}(r:yg (some v) o):∃ u,o=some u/\RelV v u:=by
 cases o with
 | none=>exact(show False from r).elim
 | some u=>exact⟨u,rfl,r⟩
structure mJ(k:Nat)(A:dg):Prop where
 hd:A.handled=none
 dp:A.depth+3 * k+5 < recursionLimit
 un:A.units+16 * k+200 < cLine
theorem mJ.mono{j k:Nat}{A:dg}(r:mJ k A)(h:j<=k):mJ j A:=⟨r.hd,by have:=r.dp; lia,by have:=r.un; lia⟩
theorem mJ.deeper{k:Nat}{A:dg}(r:mJ (k+1) A)(env:Env):mJ k (A.deeper env) :=
 ⟨r.hd,by have:=r.dp; show A.depth+1+3 * k+5 < _; lia,by have:=r.un; show A.units+3+16 * k+200 < _; lia⟩
theorem mJ.depth{k:Nat}{A:dg}(r:mJ k A):A.depth < recursionLimit:=by have:=r.dp; lia
theorem mJ.units{k:Nat}{A:dg}(r:mJ k A):A.units+64 < cLine:=by have:=r.un; lia
theorem mJ.OH{k:Nat}{A:dg}(r:mJ k A):A.units < cLine:=by have:=r.un; lia
abbrev Sp:=List V->Hp->VK->XK->Prop
abbrev Kz:=List Env->Hp->aA->XK->Value->aA->Prop
structure RI(P:bE)(w:World)(K:ar)(mg:Str->Option Value)(base:Heap)(A:dg)(outer:List Env)(s:aA)(H:Hp):Prop where
 frames:A.frames=some outer
 mod:Mod K mg base
 bs:∀ b o,base.get? b=some o->s.heap.get? b=some o/\H b=none
 R4:base.objs.size<=s.heap.objs.size
 zi:s.heap.FunFrames base outer
 UU:∀ b∈NF outer,H b=none
 cu:pJ P w H s.heap
 bare:zY s.gens
def CE(outer:List Env)(P:bE)(w:World)(H:Hp)(s:aA)(Q:VK)(u:Value)(s':aA):Prop :=
 ∃ v H',s'.os=s.os/\zY s'.gens/\Un (NF outer) [] H H' s.heap s'.heap/\pJ P w H' s'.heap/\RelV v u/\Q v H'
def CR(CX:Kz)(outer:List Env)(P:bE)(w:World)(H:Hp)(s:aA)(Q:VK)(E:XK)(r:Result)(s':aA):Prop :=
 match r with
 | .ok (.ret u)=>CE outer P w H s Q u s'
 | .ok _=>False
 | .error e=>CX outer H s E e s'
structure uw(P:bE)(w:World)(K:ar)(mg:Str->Option Value)(base:Heap)(CX:Kz)(k:Nat)(f:Addr)(fd:gy)(ps:List Str)(sp:Sp):Prop where
 len:∀ vs H Q E,sp vs H Q E->vs.length=ps.length
 run:∀ (A:dg) (outer:List Env) (s:aA) (H:Hp) (args:Args) (us:List Value) (vs:List V) (Q:VK) (E:XK),mJ k A->RI P w K mg base A outer s H->BindsTo s fd args (ps.zip us)->Vals vs us->sp vs H Q E ->
  xk (model P w) A (.call (.ref f) args) (CR CX outer P w H s Q E) s
section
variable {X:Cx} {pins:List (Addr×Obj)} {σ:St} {H:Hp} {s s':aA}
theorem Inv.YQ(I:Inv X pins σ H s):RI X.prog X.w X.K X.mg X.base X.A X.stack s H :=
 ⟨I.ok.frames,I.ok.mod,I.bs,aU I.ok.R4 I.sz,I.stack,I.K5,I.cu,I.bare⟩
theorem Inv.after{Q:VK}{u:Value}(I:Inv X pins σ H s)(h:CE X.stack X.prog X.w H s Q u s'):EP X pins σ Q u s':=by
 obtain⟨v,H',os,bare,un,cu,r,q⟩:=h;obtain⟨hh,g,d,t,os'⟩:=s';obtain rfl:os'=s.os:=os;exact⟨v,H',I.call (h':=hh) (g':=g) (d':=d) (t':=t) (ch:=[]) un cu bare (fun b z=>absurd z (by simp)),r,q⟩
end
def Binds(K:ar)(fd:gy)(ps:List Str)(ds:List Value):Prop :=
 ∀ (s:aA) (us:List Value),K.In s.heap->(us++ds).length=ps.length->BindsTo s fd ⟨us,[]⟩ (ps.zip (us++ds))
theorem Binds.all{K:ar}{fd:gy}{ps:List Str}(h:∀ us:List Value,us.length=ps.length->bindArgs fd ⟨us,[]⟩=pure (ps.zip us)):Binds K fd ps []:=fun s us _ hl=>by
 rw [cj] at hl ⊢;exact .of_eq (h us hl)
def Passes(CX:Kz)(X:Cx)(E:XK):Prop:=∀ (pins:List (Addr×Obj)) (σ:St) (H:Hp) (s:aA) (e:Value) (s':aA),Inv X pins σ H s->CX X.stack H s E e s'->X.xe e s'
section
variable {X:Cx} {CX:Kz} {k:Nat} {f C:Addr} {fd:gy} {ps:List Str} {sp:Sp} {ZN:List V} {ds:List Value} {E:XK} {x m:Str} {p pos apos:Pos} {e o:Expr} {es:List Expr} {ta:TE} {t:TA}
theorem O6{pins:List (Addr×Obj)}{σ:St}{H:Hp}{s:aA}{Q:VK}{us:List Value}{vs:List V}(F:uw X.prog X.w X.K X.mg X.base CX k f fd ps sp)(hr:mJ k X.A)(hb:Binds X.K fd ps ds)(hd:Vals ZN ds)(hx:Passes CX X E)
  (I:Inv X pins σ H s) (r:Vals vs us) (h:sp (vs++ZN) H Q E):wpAny (model X.prog X.w) X.A (call (.ref f) us) (EP X pins σ Q) X.xe s:=by
 have r2:Vals (vs++ZN) (us++ds):=r.append hd;have hl:(us++ds).length=ps.length:=by rw [<-r2.length]; exact F.len _ _ _ _ h
 refine wpAny_call (KG (F.run X.A X.stack s H ⟨us,[]⟩ (us++ds) (vs++ZN) Q E hr I.YQ (hb s us I.Fh hl) r2 h) fun r s' hq=>?_);cases r with
 | error e=>exact hx pins σ H s e s' I hq
 | ok fl =>
  cases fl with
  | ret u=>exact I.after hq
  | next=>exact bJ hq
  | brk=>exact bJ hq
  | cont=>exact bJ hq
end
structure pK(N P:List Str)(sc:Scope):Prop where
 kind:sc.kind=.function
 co:sc.isCoroutine=false
 gen:sc.isGenerator=false
 nd:N.Nodup
 pre:N.take P.length=P
 par:∀ x∈P,sc.names.lookup x=some .local\/sc.names.lookup x=some .cell
 VT:∀ y∈sc.names,y.2≠.free
theorem Dt{kindOf:Str->Option uA}{x:Str}:∀ {binds:List (Str×Value)} {m:Str->Option Value},(∀ v,(x,v)∉binds)->bindL kindOf binds m x=m x
 | [],_,_=>rfl
 | (n,v) :: r,m,h=>by
  unfold bindL;rw [Dt fun w hw=>h w (aJ _ hw)];split
  ·have:x≠n:=by rintro rfl; exact h v cA
   simp [this]
  ·rfl
theorem Dv{kindOf:Str->Option uA}{x:Str}:∀ {binds:List (Str×Value)} {m:Str->Option Value},(∀ v,(x,v)∉binds)->bindC kindOf binds m x=m x
 | [],_,_=>rfl
 | (n,v) :: r,m,h=>by
  unfold bindC;rw [Dv fun w hw=>h w (aJ _ hw)];split
  ·rfl
  ·have:x≠n:=by rintro rfl; exact h v cA
   simp [this]
theorem Du{kindOf:Str->Option uA}{x:Str}{v:Value}:∀ {P:List Str} {vs:List Value} {i:Nat} {m:Str->Option Value},P.Nodup->P[i]?=some x->vs[i]?=some v->kindOf x=some .local ->
  bindL kindOf (P.zip vs) m x=some v
 | [],_,_,_,_,h,_,_=>by simp at h
 | _ :: _,[],_,_,_,_,h,_=>by simp at h
 | p :: P,w :: vs,0,m,nd,h1,h2,hk=>by
  simp at h1 h2; subst h1; subst h2;show bindL kindOf ((p,w) :: P.zip vs) m p=_;unfold bindL;rw [Dt fun v hv=>(List.nodup_cons.mp nd).1 (Ik hv).1,if_pos hk];simp
 | p :: P,w :: vs,i+1,m,nd,h1,h2,hk=>by
  show bindL kindOf ((p,w) :: P.zip vs) m x=_;unfold bindL;exact Du (i:=i) (List.nodup_cons.mp nd).2 (by simpa using h1) (by simpa using h2) hk
theorem Dw{kindOf:Str->Option uA}{x:Str}{v:Value}:∀ {P:List Str} {vs:List Value} {i:Nat} {m:Str->Option Value},P.Nodup->P[i]?=some x->vs[i]?=some v->kindOf x≠some .local ->
  bindC kindOf (P.zip vs) m x=some v
 | [],_,_,_,_,h,_,_=>by simp at h
 | _ :: _,[],_,_,_,_,h,_=>by simp at h
 | p :: P,w :: vs,0,m,nd,h1,h2,hk=>by
  simp at h1 h2; subst h1; subst h2;show bindC kindOf ((p,w) :: P.zip vs) m p=_;unfold bindC;rw [Dv fun v hv=>(List.nodup_cons.mp nd).1 (Ik hv).1,if_neg hk];simp
 | p :: P,w :: vs,i+1,m,nd,h1,h2,hk=>by
  show bindC kindOf ((p,w) :: P.zip vs) m x=_;unfold bindC;exact Dw (i:=i) (List.nodup_cons.mp nd).2 (by simpa using h1) (by simpa using h2) hk
def start(N:List Str)(vs:List V):St:=vs.map some++aR (N.length - vs.length) none
def EL(CX:Kz)(P:bE)(w:World)(K:ar)(mg:Str->Option Value)(base:Heap)(N:List Str)(qual:Str)(scope:Scope)(f:Addr)(cd:Value)(A:dg)(outer:List Env)(s:aA)(H:Hp)(E:XK):Cx where
 prog:=P
 w:=w
 K:=K
 mg:=mg
 base:=base
 A:=A.deeper (Cz qual scope s.heap.objs.size f cd)
 N:=N
 oz:=s
 RH:=H
 env:=Cz qual scope s.heap.objs.size f cd
 outer:=outer
 stack:=Cz qual scope s.heap.objs.size f cd :: outer
 ex:=[]
 calm:=true
 fn:=fun _=>true
 pn:=[]
 xe:=fun e s'=>wpAny (model P w) (A.deeper (Cz qual scope s.heap.objs.size f cd)) (leaving (Cz qual scope s.heap.objs.size f cd) e) (fun _ Xq=>CX outer H s E e Xq) (fun e' Xq=>CX outer H s E e' Xq) s'
theorem HG{sc:Scope}{n:Nat}{x:Str}(h:sc.names.lookup x=some .cell):∃ c,(cellsFrom n sc.names []).lookup x=some c:=by
 have q:=KJ sc.names n [] (.inl h);exact Option.isSome_iff_exists.mp q
theorem Np{CX:Kz}{P:bE}{w:World}{K:ar}{mg:Str->Option Value}{base:Heap}{N ps:List Str}{qual:Str}{scope:Scope}{f:Addr}{cd:Value}{A:dg}{outer:List Env}{s s1:aA}{H:Hp}{E:XK}{us:List Value}{vs:List V}
  (S:pK N ps scope) (hd:A.handled=none) (e0:RI P w K mg base A outer s H) (hl:vs.length=ps.length) (r:Vals vs us)
  (x:InCallC s s.heap.objs.size (bindL (Cz qual scope s.heap.objs.size f cd).kindOf (ps.zip us) fun _=>none) (cellsFrom (s.heap.objs.size+1) scope.names []) (bindC (Cz qual scope s.heap.objs.size f cd).kindOf (ps.zip us) fun _=>none) s1) :
  Inv (EL CX P w K mg base N qual scope f cd A outer s H E) [] (start N vs) H s1:=by
 have Cc:ps.length<=N.length:=by have:=congrArg cM S.pre; rw [eB] at this; lia
 obtain⟨h1,tk,rfl,hk⟩:=x.done;have XQ:∀ b:Addr,b∉(EL CX P w K mg base N qual scope f cd A outer s H E).ex:=fun b z=>absurd (show b∈([]:List Addr) from z) (by simp);refine⟨⟨e0.mod,S.kind,rfl,rfl,aH _,fun y z c h1 h2=>?_,fun y hy=>?_,fun y c _ h=>?_,fun _=>hd,Around.frames_deeper e0.frames,.inr ⟨rfl,rfl⟩,fun b z=>absurd z (XQ b),e0.bs,e0.R4,fun b _ _=>XQ b,fun b z=>absurd z (XQ b),e0.zi,e0.UU⟩,
  rfl,e0.bare,Un.kept hk,⟨_,x.toInCall.ns,fun i y v h1 h2 h3=>?_⟩,fun y c h=>⟨_,x.cell y c h⟩,e0.cu.fresh (aH _),fun y c h=>?_,fun p hp=>absurd (show p∈([]:List (Addr×Obj)) from hp) (by simp),e0.cu.kept hk,?_⟩
 ·exact name_of_addr x.apart (jh h1) (jh h2)
 ·have hy:scope.names.lookup y=some .cell\/scope.names.lookup y=some .free:=hy;rcases hy with hy | hy
  ·exact HG hy
  ·exact absurd rfl (S.VT _ (jh hy))
 ·exact Sb (x.above y c (jh h))
 ·have hi:i < vs.length:=by
   unfold start at h2;by_cases hi:i < vs.length
   ·exact hi
   ·rw [cD (by simpa using hi)] at h2;rw [mR] at h2;split at h2 <;> cases h2
  have ha:vs[i]?=some v:=by
   unfold start at h2;rw [cY (by simpa using hi),bx] at h2;cases e:vs[i]? with
   | none=>rw [e] at h2; cases h2
   | some a=>rw [e] at h2; cases h2; rfl
  obtain⟨u,hu,rv⟩:=r.get ha;have hp:ps[i]?=some y:=by
   rw [<-S.pre,List.getElem?_take_of_lt (by lia)]; exact h1
  have ndP:ps.Nodup:=by rw [<-S.pre]; exact S.nd.sublist (List.take_sublist _ _)
  refine⟨u,rv,?_⟩;rcases S.par y (gO hp) with k | k
  ·exact .inl ⟨k,Du ndP hp hu k⟩
  ·obtain⟨c,e⟩:=HG (n:=s.heap.objs.size+1) k;refine .inr ⟨.inl k,c,e,?_⟩;have q:=x.cell y c e;rw [Dw ndP hp hu (by show scope.names.lookup y≠_; rw [k]; decide)] at q;exact q
 ·exact e0.cu.fresh (Sb (x.above y c (jh h)))
 ·unfold start;show _=N.length;rw [av,ao,fx];lia
theorem YN{CX:Kz}{P:bE}{w:World}{K:ar}{mg:Str->Option Value}{base:Heap}{k:Nat}{f:Addr}{name qual:Str}{params:Arguments}{body:List Stmt}{scope:Scope}{dV kV doc pm ot ct oc:Value}{an od:Option Addr}
  {MY:Array (Option Value)} {N ps:List Str} {sp:Sp} (lk:K.lookup f=some ⟨oc,od,.func (lA name qual params body scope dV kV doc pm an ot ct),MY⟩) (LO:Fw K ot qual=true) (S:pK N ps scope)
  (len:∀ vs H Q E,sp vs H Q E->vs.length=ps.length)
  (QE:∀ (A:dg) (outer:List Env) (s:aA) (H:Hp) (vs:List V) (Q:VK) (E:XK),mJ k (A.deeper (Cz qual scope s.heap.objs.size f ot))->sp vs H Q E ->
   ∃ t,Xd (EL CX P w K mg base N qual scope f ot A outer s H E) body t/\t { nx:=fun _ H'=>Q .fg H',rt:=Q } (start N vs) H) :
  uw P w K mg base CX (k+1) f (lA name qual params body scope dV kV doc pm an ot ct) ps sp:=by
 refine⟨len,fun A outer s H args us vs Q E hr e0 hb r Og=>?_⟩;have hl:=len _ _ _ _ Og;have KX:K.In s.heap:=e0.mod.WZ.keeps fun b o e=>(e0.bs b o e).1;have lim:s.heap.NoLimit:=e0.mod.nolimit.keeps fun b o e=>(e0.bs b o e).1;have C4:∀ y∈ps.zip us,scope.names.lookup y.1=some .local\/(scope.names.lookup y.1=some .cell/\((cellsFrom (s.heap.objs.size+1) scope.names []).lookup y.1).isSome=true):=fun ⟨n,v⟩ hy=>by
  rcases S.par n (Ik hy).1 with q | q
  ·exact .inl q
  ·exact .inr ⟨q,KJ _ _ _ (.inl q)⟩
 refine codeAny_call_function hr.depth (KX _ _ lk) rfl S.co S.gen rfl (PySem.W.codeRec_of KX LO) (hb _ _ _ _ ?_);refine wpAny_newFunctionEnv_cells S.kind C4 fun env he s1 x=>?_;subst he;refine⟨lim.keeps x.toInCall.keep,codeAny_func ?_⟩;obtain⟨t,ht,hq⟩:=QE A outer s H vs Q E (hr.deeper _) Og;have I:Inv (EL CX P w K mg base N qual scope f ot A outer s H E) [] (start N vs) H s1:=Np S hr.hd e0 hl r x;refine IB (ht [] s1 (start N vs) H _ I hq) (fun fl s' hs=>?_) fun e s' hs=>hs;have fin:∀ {kR:St} {H':Hp} {v:V} {u:Value},Inv (EL CX P w K mg base N qual scope f ot A outer s H E) [] kR H' s'->RelV v u->Q v H'->CE outer P w H s Q u s' :=
  fun {kR H' v u} J rv q=>⟨v,H',J.os,J.bare,J.base,J.cu,rv,q⟩
 cases fl with
 | ret u =>
  obtain⟨v,kR,H',J,rv,q⟩:=hs;exact fin J rv q
 | next =>
  obtain⟨kR,H',J,q⟩:=hs;exact fin (v:=V.fg) (u:=gQ) J rfl q
 | brk =>
  obtain⟨_,_,_,q⟩:=hs;exact bJ q
 | cont =>
  obtain⟨_,_,_,q⟩:=hs;exact bJ q
end L2
namespace HT
open PySem PyProof.Rows
def lexLt:List Int->List Int->Bool
 | [],[]=>false
 | [],_ :: _=>true
 | _ :: _,[]=>false
 | x :: xs,y :: ys=>if x=y then lexLt xs ys else decide (x < y)
theorem JN(x y:Int)(xs ys:List Int):lexLt (x :: xs) (y :: ys)=if x=y then lexLt xs ys else decide (x < y):=rfl
theorem Ca:lexLt [] []=false:=rfl
theorem A3(y:Int)(ys:List Int):lexLt [] (y :: ys)=true:=rfl
theorem A4(x:Int)(xs:List Int):lexLt (x :: xs) []=false:=rfl
theorem QT(A:dg)(s:aA)(a:Int)(t:Tok)(c:Int)(u:Tok):∃ e,SeqAt.EqAt A s (.int a t) (.int c u) e/\(e=true↔a=c) :=
 ⟨(a == c),SeqAt.EqAt.int_int a t c u,by simp⟩
theorem Aw(A:dg)(s:aA)(a:Int)(t:Tok)(c:Int)(u:Tok)(prog:bE)(w:World)(E:Value->aA->Prop)(Q:Value->aA->Prop)(h:Q (.bool (decide (a < c))) s) :
  wpAny (model prog w) A (si .Lt (.int a t) (.int c u)) Q E s :=
 (PyProof.Rows.lt_int h:wpAny (model prog w) A (eS .Lt (.int a t) (.int c u)) Q E s)
section
open PySem.SeqAt
open PySem.AutoSeq1 (wpAny_loadPart')
open PySem.MeetsSeq PySem.MeetsSeq2 PySem.MeetsSeq3
theorem B5(l b:Addr)(items pZ:Array Value)(n n2:Nat)(dd Fo:Option Addr)(sl La:Array (Option Value))(ns ms:List Int)(hi:ox items.toList ns)(hj:ox pZ.toList ms) :
  Meets (Builtin.«tuple.__lt__» ⟨[.ref l,.ref b],[]⟩)
   (fun _ R s=>s.heap.get? l=some { cls:=.type "tuple",dict:=dd,data:=.seq items n,slots:=sl }/\s.heap.get? b=some { cls:=.type "tuple",dict:=Fo,data:=.seq pZ n2,slots:=La } /\
    R (.ok (.ret (.bool (lexLt ns ms)))) s) :=
 .of_wp fun prog w A R s h=>by
  obtain⟨hp,g,d,tk,os⟩:=s; obtain⟨hl,hb,h⟩:=h;have f2:=rG;have z1:items.size=ns.length:=by rw [<-hi.length]; simp
  have z2:pZ.size=ms.length:=by rw [<-hj.length]; simp
  wp_walk using ck hl,ck hb,mO _ (fun rest b s'=>b.1=none/\s'=⟨hp,g,d,tk,os⟩/\∃ (vs ws:List Value) (WV WX:List Int),rest=vs.zip ws /\
   ox vs WV/\ox ws WX/\WV.length+pZ.size=WX.length+items.size/\R (.ok (.ret (.bool (lexLt WV WX)))) ⟨hp,g,d,tk,os⟩) _
  case turn =>
   rintro⟨y,x⟩ rest b s' ⟨Hg,rfl,vs,ws,WV,WX,hz,hvi,ZC,hlen,hR⟩;cases hvi with
   | nil=>rw [List.zip_nil_left] at hz; cases hz
   | cons a t aaV =>
    cases ZC with
    | nil=>rw [List.zip_nil_right] at hz; cases hz
    | cons c u aaT =>
     rw [rV] at hz;injection hz with hyx Qz
     injection hyx with hy hx
     subst hy hx;rw [JN] at hR;simp only [ai] at hlen;obtain⟨e,he,Yt⟩:=QT A.in1 ⟨hp,g,d,tk,os⟩ a t c u;refine ah (he prog w _ _ ?_);cases e with
     | true =>
      rw [if_pos (Yt.mp rfl)] at hR
      wp_walk
      exact⟨rfl,rfl,_,_,_,_,Qz,aaV,aaT,by lia,hR⟩
     | false =>
      rw [if_neg (fun q=>absurd (Yt.mpr q) iG)] at hR;have Yh:=Aw A.in1 ⟨hp,g,d,tk,os⟩ a t c u prog w
      wp_walk using Yh
      exact⟨_,rfl,by simpa using hR⟩
  case fin =>
   rintro⟨b1,b2⟩ s' ⟨Hg,rfl,vs,ws,WV,WX,hz,hvi,ZC,hlen,hR⟩;simp only at Hg;subst Hg;have hv:lexLt WV WX=decide (items.size < pZ.size):=by
    cases hvi with
    | nil =>
     cases ZC with
     | nil =>
      simp only [aB] at hlen;rw [Ca];exact(decide_eq_false (by lia)).symm
     | cons c u hw =>
      simp only [aB,ai] at hlen;rw [A3];exact(decide_eq_true (by lia)).symm
    | cons a t hv =>
     cases ZC with
     | nil =>
      simp only [aB,ai] at hlen;rw [A4];exact(decide_eq_false (by lia)).symm
     | cons c u hw =>
      rw [rV] at hz;cases hz
   rw [hv] at hR
   wp_walk
   exact⟨_,rfl,by simpa [vr] using hR⟩
  case h =>
   exact⟨rfl,rfl,items.toList,pZ.toList,ns,ms,rfl,hi,hj,by lia,h⟩
end
section
variable {prog:bE} {w:World} {A:dg} {E:Value->aA->Prop} {s:aA}
theorem AY{l b:Addr}{items pZ:Array Value}{ns ms:List Int}{Q:Value->aA->Prop}(hl:IsTup s.heap l items)(hb:IsTup s.heap b pZ)(hi:ox items.toList ns)(hj:ox pZ.toList ms)
  (hu:A.units < cLine) (h:Q (.bool (lexLt ns ms)) s):wpAny (model prog w) A (eS .Lt (.ref l) (.ref b)) Q E s:=by
 obtain⟨⟨cls,dd,data,sl⟩,ho,hc,n,hd⟩:=id hl;obtain⟨⟨Rk,Fo,data2,La⟩,C3,BY,n2,hd2⟩:=id hb;simp only at hc hd BY hd2;subst hc hd BY hd2;exact y8 (op:=.Lt) ⟨_,ho,rfl⟩ ⟨_,C3,rfl⟩ nI ui (sA _ _) (B5 l b items pZ n n2 dd Fo sl La ns ms hi hj)
  ⟨ho,C3,show Value.bool (lexLt ns ms)≠Value.notImplemented/\Q (.bool (lexLt ns ms)) s from⟨(fun x=>nomatch x),h⟩⟩ hu
theorem TQ{t b:Addr}{vs ws:List Value}{Q:Value->aA->Prop}(ht:IsTup s.heap t vs.toArray)(hb:IsTup s.heap b ws.toArray)(hv:vs≠[])
  (h1:ws=[]->Q (.ref t) s) (h2:ws≠[]->Q (.ref s.heap.objs.size) { s with heap:=s.heap.push { cls:=.type "tuple",data:=.seq (vs++ws).toArray } })
  (hsz:vs.length+ws.length<=a9):wpAny (model prog w) A (jT .Add (.ref t) (.ref b)) Q E s:=by
 obtain⟨⟨cls,dd,data,sl⟩,ho,hc,n,hd⟩:=id ht;obtain⟨⟨Rk,Fo,data2,La⟩,C3,BY,n2,hd2⟩:=id hb;simp only at hc hd BY hd2;subst hc hd BY hd2;have e:vs.toArray++ws.toArray=(vs++ws).toArray:=by simp
 by_cases hw:ws=[]
 ·exact concat_meets ⟨_,ho,rfl⟩ ⟨_,C3,rfl⟩ noFill_tuple_add seq_tuple_add KL IJ (Ij _ _)
   (tuple_addW1 t b vs.toArray ws.toArray n n2 dd Fo sl La (by simpa using hv) (by simp [hw])) ⟨ho,C3,h1 hw⟩
 ·refine concat_meets ⟨_,ho,rfl⟩ ⟨_,C3,rfl⟩ noFill_tuple_add seq_tuple_add KL IJ (Ij _ _)
   (tuple_addW2 t b vs.toArray ws.toArray n n2 dd Fo sl La (by simpa using hv) (by simpa using hw) (by rw [a8,a8]; exact hsz)) ⟨ho,C3,?_⟩
  rw [e];exact h2 hw
def kn(n d:Nat):Option Int->Nat
 | none=>d
 | some v=>if v < 0 then (v+(n:Int)).toNat else min v.toNat n
theorem Vr(n d:Nat)(hd:d<=n)(o:Option Int):kn n d o<=n:=by
 cases o with
 | none=>exact hd
 | some v =>
  show (if v < 0 then (v+(n:Int)).toNat else min v.toNat n)<=n;by_cases hv:v < 0
  ·rw [if_pos hv]; lia
  ·rw [if_neg hv]; exact Nat.min_le_right _ _
theorem L5(v:Int)(n d:Nat):(if v < 0 then max (v+(n:Int)) 0 else min v (n:Int))=((kn n d (some v):Nat):Int):=by
 show (if v < 0 then max (v+(n:Int)) 0 else min v (n:Int))=(((if v < 0 then (v+(n:Int)).toNat else min v.toNat n):Nat):Int);by_cases hv:v < 0
 ·simp only [if_pos hv]; lia
 ·simp only [if_neg hv]; lia
theorem Kt(lo hi:Option Int)(n:Nat):oX lo hi 1 (n:Int)=(((kn n 0 lo:Nat):Int),((kn n n hi:Nat):Int)):=by
 have h1:¬ ((1:Int) < 0):=by lia
 unfold oX;simp only [h1,if_false];refine Prod.ext ?_ ?_
 ·cases lo with
  | none=>rfl
  | some v=>exact L5 v n 0
 ·cases hi with
  | none=>rfl
  | some v=>exact L5 v n n
theorem Jn(i j:Nat):jX (i:Int) (j:Int) 1=j - i:=by
 unfold jX;have h1:(1:Int) > 0:=by lia
 simp only [h1,if_true,Int.ediv_one];split <;> lia
theorem Ag{v:Value}{o:Option Int}{Q:Option Int->aA->Prop}(p:IsPart v o)(h:Q o s):wpAny (model prog w) A (Builtin.Slice.slicePartIndex v) Q E s:=by
 cases p with
 | none=>exact slicePart_none h
 | int i t=>exact slicePart_int h
theorem xx{sl:Addr}{vl vu:Value}{lo hi:Option Int}{n:Nat}{Q:Int×Int×Nat->aA->Prop}(hs:s.heap.IsSliceOf sl vl vu .none)(pl:IsPart vl lo)(pu:IsPart vu hi)
  (h:Q (((kn n 0 lo:Nat):Int),1,kn n n hi - kn n 0 lo) s):wpAny (model prog w) A (zu (.ref sl) (pure (n:Int))) Q E s:=by
 obtain⟨os,Yo,YD,ZI⟩:=id hs;unfold zu Builtin.Slice.sliceFields;refine ah (ah (iu Yo ZI (x:=vl) rfl (ah (iu Yo ZI (x:=vu) rfl (ah (iu Yo ZI (x:=.none) rfl (az ?_)))))));refine ah (slicePart_none ?_);show wpAny _ _ (if ((1:Int) == 0)=true then _ else _) _ _ s;rw [if_neg (by decide)];refine ah (Ag pl (ah (Ag pu (ah (az ?_)))));show wpAny _ _ (match oX lo hi 1 (n:Int) with | (lo,hi)=>pure (lo,(1:Int),jX lo hi 1)) _ _ s;rw [Kt lo hi n];show wpAny _ _ (pure (((kn n 0 lo:Nat):Int),(1:Int),jX ((kn n 0 lo:Nat):Int) ((kn n n hi:Nat):Int) 1)) _ _ s;rw [Jn];exact az h
theorem Pu(xs:Array Value)(i k:Nat):((i0 k).filterMap fun (m:Nat)=>xs[((i:Int)+(m:Int) * 1).toNat]?).toArray=((xs.toList.drop i).take k).toArray:=by
 have e:(fun (m:Nat)=>xs[((i:Int)+(m:Int) * 1).toNat]?)=fun m=>xs[i+m]?:=by
  funext m;have:((i:Int)+(m:Int) * 1).toNat=i+m:=by lia
  rw [this]
 rw [e];have:=pick_run xs i k;rw [List.filterMap_map] at this;have e2:((fun x=>xs[x]?)∘fun x=>i+x)=fun m=>xs[i+m]?:=rfl;rw [e2] at this;rw [this]
theorem wA{t sl:Addr}{items:Array Value}{vl vu:Value}{lo hi:Option Int}{Q:Value->aA->Prop}(ht:IsTup s.heap t items)(hs:s.heap.IsSliceOf sl vl vu .none)(pl:IsPart vl lo)(pu:IsPart vu hi)
  (hw:¬ (kn items.size 0 lo=0/\kn items.size items.size hi=items.size))
  (h:Q (.ref s.heap.objs.size) { s with heap:=s.heap.push { cls:=.type "tuple",data:=.seq ((items.toList.drop (kn items.size 0 lo)).take (kn items.size items.size hi - kn items.size 0 lo)).toArray } })
  (hsz:items.size<=a9):wpAny (model prog w) A (getItem (.ref t) (.ref sl)) Q E s:=by
 have LN:sizeOk (.seq ((items.toList.drop (kn items.size 0 lo)).take (kn items.size items.size hi - kn items.size 0 lo)).toArray):=by
  show ((items.toList.drop (kn items.size 0 lo)).take (kn items.size items.size hi - kn items.size 0 lo)).toArray.size<=a9;rw [a8];exact aU (aU (List.length_take_le' _ _) (by rw [cP,ff]; exact Nat.sub_le _ _)) hsz
 have hj:kn items.size items.size hi<=items.size:=Vr _ _ (aH _) hi;obtain⟨os,Yo,YD,ZI⟩:=id hs;have hTs:s.TypeIs (.ref sl) "slice":=⟨os,Yo,YD⟩;unfold getItem
 try with_reducible refine cG ?_
 first | refine ah (az ?_) | skip
 refine ah (wpAny_sequenceKey ht.typeIs (by decide) ?_);refine ah (eP (name:=kD "__getitem__") ht.typeIs xa
  (cQ xa ht.typeIs entry_tuple_getitem ?_ (args_tuple_getitem _ _)))
 show wpAny _ _ (zt (.ref t) >>= _) _ _ s;refine ah (tupleItemsOf_ ht ?_);refine ah (wpAny_typeOf hTs ?_);rw [if_pos (by decide)];refine ah (xx hs pl pu ?_);have We:¬ ((((kn items.size 0 lo:Nat):Int) == 0&&(1:Int) == 1&&(kn items.size items.size hi - kn items.size 0 lo) == items.size)=true):=by
  intro q;rw [aK,aK] at q;have q1:((kn items.size 0 lo:Nat):Int)=0:=eq_of_beq q.1.1;have q2:kn items.size items.size hi - kn items.size 0 lo=items.size:=eq_of_beq q.2;exact hw ⟨by lia,by lia⟩
 show wpAny _ _ (if (((kn items.size 0 lo:Nat):Int) == 0&&(1:Int) == 1&&(kn items.size items.size hi - kn items.size 0 lo) == items.size)=true then _ else _) _ _ s;rw [if_neg We,Pu]
 first
  | exact ah (m:=kl _) (dj (az ⟨_,rfl,az h⟩) LN)
  | exact ah (m:=kl _) (dj (ah (az (az ⟨_,rfl,az h⟩))) LN)
  | exact ah (ah (m:=kl _) (dj (az (az ⟨_,rfl,az h⟩)) LN))
  | exact ah (ah (m:=kl _) (dj (az ⟨_,rfl,az h⟩) LN))
end
end HT
namespace L2
open PySem PySem.Spec PyProof.Rows
abbrev TO:=St->Hp->(Option Int->Hp->Prop)->Prop
theorem intsAre_of{ns:List Int}:∀ {us:List Value},Vals (ns.map V.int) us->ox us ns:=by
 induction ns with
 | nil=>intro us r; rw [aS] at r; cases r; exact .nil
 | cons n ns ih =>
  intro us r;rw [ak] at r;cases r with
  | cons r1 r2 =>
   obtain⟨t,e⟩:=r1;subst e;exact .cons n t (ih r2)
section
variable {X:Cx} {e:Expr} {te:TE} {lo hi:Option Expr} {tl th:TO} {pos p2:Pos}
def SlR(X:Cx)(r:V->Option Int->Option Int->Hp->VK->Prop):Prop :=
 ∀ (pins:List (Addr×Obj)) (s:aA) (σ:St) (H:Hp) (x:V) (v vl vu:Value) (lo hi:Option Int) (sl:Addr) (Q:VK),Inv X pins σ H s->RelV x v->s.heap.IsSliceOf sl vl vu .none->IsPart vl lo->IsPart vu hi->r x lo hi H Q ->
  ∃ T id,typeLookup (.type T) "__getitem__" = pure (some (.builtin id))/\s.TypeIs v T/\wpAny (model X.prog X.w) X.A (getItem v (.ref sl)) (EP X pins σ Q) X.xe s
def HC(xs:List V)(lo hi:Option Int):List V:=(xs.drop (HT.kn xs.length 0 lo)).take (HT.kn xs.length xs.length hi - HT.kn xs.length 0 lo)
theorem yQ(xs:List V)(lo hi:Option Int):(HC xs lo hi).length<=xs.length:=by
 unfold HC;rw [eB,cP];lia
def aae(K:ar):V->Option Int->Option Int->Hp->VK->Prop:=fun x lo hi H Q=>∃ a xs,x=.ref a/\zL K H a xs /\
 ¬ (HT.kn xs.length 0 lo=0/\HT.kn xs.length xs.length hi=xs.length)/\∀ p,H p=none->Q (.ref p) (upd H p (.tup (HC xs lo hi)))
theorem Vp:SlR X (aae X.K):=by
 intro pins s σ H x v vl vu lo hi sl Q I rx hs pl pu h;obtain⟨a,xs,rfl,hx,hw,q⟩:=h;cases rx;obtain⟨bQ,r,ht,hz⟩:=I.tuple hx;have hlen:bQ.toArray.size=xs.length:=by rw [a8]; exact r.length.symm
 refine⟨"tuple",_,PyProof.Rows.slot_tuple_getitem.lookup,ht.typeIs,?_⟩;refine HT.wA ht hs pl pu (by rw [hlen]; exact hw) ?_ (by rw [hlen]; exact hz);rw [hlen];refine⟨.ref s.heap.objs.size,_,I.laid (t':=s.toks) (o:=.tup (HC xs lo hi)) (fun b ob q=>aF _ q) (aH _) ?_,rfl,q _ (I.cu.fresh (aH _))⟩;exact⟨aU (yQ xs lo hi) hz,_,(r.drop (HT.kn xs.length 0 lo)).take (HT.kn xs.length xs.length hi - HT.kn xs.length 0 lo),IsTup.new _ _⟩
def aah(K:ar):R2:=fun x y H Q=>∃ a b ns ms,x=.ref a/\y=.ref b/\zL K H a (ns.map V.int)/\zL K H b (ms.map V.int)/\Q (.bl (HT.lexLt ns ms)) H
theorem VO(hu:X.A.units < cLine):Mg X (eS .Lt) (aah X.K):=by
 intro pins s σ H x y v u Q I rx ry h;obtain⟨a,b,ns,ms,rfl,rfl,ha,hb,q⟩:=h;cases rx;cases ry;obtain⟨bQ,r1,p1,_⟩:=I.tuple ha;obtain⟨nS,r2,p2,_⟩:=I.tuple hb;have i1:ox bQ.toArray.toList ns:=intsAre_of r1;have i2:ox nS.toArray.toList ms:=intsAre_of r2;exact HT.AY p1 p2 i1 i2 hu ⟨.bl (HT.lexLt ns ms),H,I,rfl,q⟩
def Xw(K:ar):R2:=fun x y H Q=>∃ a b xs ys,x=.ref a/\y=.ref b/\zL K H a xs/\zL K H b ys/\xs≠[]/\xs.length+ys.length<=a9 /\
 (ys=[]->Q (.ref a) H)/\(ys≠[]->∀ p,H p=none->Q (.ref p) (upd H p (.tup (xs++ys))))
theorem Vals.Ef{xs:List V}{us:List Value}(r:Vals xs us):us=[]↔xs=[]:=by
 cases r with
 | nil=>simp
 | cons _ _=>simp
theorem S3:Mg X (jT .Add) (Xw X.K):=by
 intro pins s σ H x y v u Q I rx ry h;obtain⟨a,b,xs,ys,rfl,rfl,ha,hb,hx,hz,q1,q2⟩:=h;cases rx;cases ry;obtain⟨bQ,r1,p1,_⟩:=I.tuple ha;obtain⟨nS,r2,p2,_⟩:=I.tuple hb;refine HT.TQ p1 p2 (fun z=>hx (r1.Ef.mp z)) (fun z=>⟨.ref a,H,I,rfl,q1 (r2.Ef.mp z)⟩) (fun z=>?_) (by rw [<-r1.length,<-r2.length]; exact hz);refine⟨.ref s.heap.objs.size,_,I.laid (t':=s.toks) (o:=.tup (xs++ys)) (fun b ob q=>aF _ q) (aH _) ?_,rfl,q2 (fun w=>z (r2.Ef.mpr w)) _ (I.cu.fresh (aH _))⟩;exact⟨by rw [av]; exact hz,_,r1.append r2,IsTup.new _ _⟩
end
def LM(n:Nat)(i:Int):Option Nat:=if 0<=i then (if i < n then some i.toNat else none) else if -(n:Int)<=i then some (i+n).toNat else none
def uf{α:Type}(xs:List α)(i:Int):Option α:=(LM xs.length i).bind fun j=>xs[j]?
theorem LL{n:Nat}{i:Int}{j:Nat}(h:LM n i=some j):seqIndex? i n=some j/\j < n/\-(n:Int)<=i/\i < n:=by
 unfold LM at h;by_cases h0:0<=i
 ·rw [if_pos h0] at h;by_cases h1:i < n
  ·rw [if_pos h1] at h;have e:i.toNat=j:=ba h;exact⟨by rw [seqIndex_of h0 h1,e],by lia,by lia,h1⟩
  ·rw [if_neg h1] at h; cases h
 ·rw [if_neg h0] at h;by_cases h1:-(n:Int)<=i
  ·rw [if_pos h1] at h;have e:(i+n).toNat=j:=ba h;exact⟨by rw [seqIndex_neg (by lia) h1,e],by lia,h1,by lia⟩
  ·rw [if_neg h1] at h; cases h
theorem Mc{α:Type}{xs:List α}{i:Int}{v:α}(h:uf xs i=some v):∃ j,seqIndex? i xs.length=some j/\xs[j]?=some v/\j < xs.length/\-(xs.length:Int)<=i/\i < xs.length:=by
 unfold uf at h;cases e:LM xs.length i with
 | none=>rw [e] at h; cases h
 | some j =>
  rw [e] at h;obtain⟨h1,h2,h3,h4⟩:=LL e;exact⟨j,h1,h,h2,h3,h4⟩
def T6(b:Expr):Prop:=∀ o i,subscripted b false o i=operate [o,i] (getItem o i)
def IxR(X:Cx)(r:R2):Prop :=
 ∀ (value slice:Expr) (pins:List (Addr×Obj)) (s:aA) (σ:St) (H:Hp) (x y:V) (v u:Value) (Q:VK),Inv X pins σ H s->RelV x v->RelV y u->r x y H Q ->
  subscripted slice false v u=operate [v,u] (getItem v u)->wpAny (model X.prog X.w) X.A (subscriptTail value slice v u) (EP X pins σ Q) X.xe s
def MtR(X:Cx)(id:String)(r:V->List V->Hp->VK->Prop):Prop :=
 ∀ (pins:List (Addr×Obj)) (s:aA) (σ:St) (H:Hp) (x:V) (xs:List V) (v:Value) (us:List Value) (Q:VK),Inv X pins σ H s->RelV x v->Vals xs us->r x xs H Q ->
  wpAny (model X.prog X.w) X.A (call (.builtin id) (v :: us)) (EP X pins σ Q) X.xe s
section
variable {X:Cx} {a b:Expr} {ta tb:TE} {pos:Pos}
def aaj(K:ar):R2:=fun x y H Q=>∃ p xs i v,x=.ref p/\y=.int i/\qL K H p xs/\uf xs i=some v/\Q v H
def aai(K:ar):R2:=fun x y H Q=>∃ p xs i v,x=.ref p/\y=.int i/\zL K H p xs/\uf xs i=some v/\Q v H
theorem LK:IxR X (aaj X.K):=by
 intro value slice pins s σ H x y v u Q I rx ry h hs;obtain⟨p,xs,i,z,rfl,rfl,hq,he,q⟩:=h;cases rx;obtain⟨t,rfl⟩:=ry;obtain⟨bQ,r,pl,hz⟩:=I.list hq;obtain⟨j,h1,h2,h3,h4,h5⟩:=Mc he;obtain⟨w,ew,rH⟩:=r.get h2;have hl:=r.length;have hn:=A2;have fin:EP X pins σ Q w s:=⟨z,H,I,rH,q⟩;by_cases h0:0<=i
 ·have hj:i.toNat=j:=by
   rw [seqIndex_of h0 h5] at h1;exact ba h1
  exact item_listR pl.isList h0 (by lia) (by rw [hj]; simpa using ew) fin hs
 ·have hj:(i+(bQ.toArray.size:Int)).toNat=j:=by
   rw [seqIndex_neg (by lia) h4] at h1;rw [a8,<-hl];exact ba h1
  exact subscriptTail_builtinR (x:=w) pl.isList.typeIs slot_list_getitem.lookup
   (wpAny_getItem_list_neg (Q:=fun r s'=>r=w/\EP X pins σ Q r s') pl.isList (by lia) (by rw [a8] <;> lia) (by lia) (by rw [hj]; simpa using ew) ⟨rfl,fin⟩) hs
theorem V6:IxR X (aai X.K):=by
 intro value slice pins s σ H x y v u Q I rx ry h hs;obtain⟨p,xs,i,z,rfl,rfl,hq,he,q⟩:=h;cases rx;obtain⟨t,rfl⟩:=ry;obtain⟨bQ,r,pl,hz⟩:=I.tuple hq;obtain⟨j,h1,h2,h3,h4,h5⟩:=Mc he;obtain⟨w,ew,rH⟩:=r.get h2;have hl:=r.length;have hn:=A2;have fin:EP X pins σ Q w s:=⟨z,H,I,rH,q⟩;exact subscriptTail_builtinR (x:=w) pl.typeIs slot_tuple_getitem.lookup
  (getItem_tuple (j:=j) (Q:=fun r s'=>r=w/\EP X pins σ Q r s') pl (by lia) (by lia) (by rw [a8,<-hl]; exact h1) (by simpa using ew) ⟨rfl,fin⟩) hs
theorem JH (bQ:List Value) (n j:Nat) (u:Value):jP (·.setIfInBounds j u) { cls:=.type "list",data:=.seq bQ.toArray n } = { cls:=.type "list",data:=.seq (bQ.set j u).toArray n }:=by
 simp [jP]
theorem Inv.lst{pins:List (Addr×Obj)}{σ:St}{H:Hp}{s:aA}{p:Addr}{xs:List V}(I:Inv X pins σ H s)(h:H p=some (.lst xs)) :
  ∃ (bQ:List Value) (n:Nat),Vals xs bQ/\s.heap.get? p=some { cls:=.type "list",data:=.seq bQ.toArray n }/\xs.length<=a9:=by
 obtain⟨z,bQ,n,r,e⟩:=I.cu p _ h;exact⟨bQ,n,r,e,z⟩
theorem Inv.VZ{pins:List (Addr×Obj)}{σ:St}{H:Hp}{s:aA}{p:Addr}{xs ys:List V}{bQ its':List Value}{n n':Nat}{f:Obj->Obj}(I:Inv X pins σ H s)(h:H p=some (.lst xs))
  (ho:s.heap.get? p=some { cls:=.type "list",data:=.seq bQ.toArray n }) (hf:f { cls:=.type "list",data:=.seq bQ.toArray n } = { cls:=.type "list",data:=.seq its'.toArray n' }) (r:Vals ys its') (hz:ys.length<=a9) (t:Nat) :
  Inv X pins σ (upd H p (.lst ys)) { s with heap:=s.heap.update p f,toks:=t }:=by
 have e:(s.heap.update p f).get? p=some { cls:=.type "list",data:=.seq its'.toArray n' }:=by
  rw [kg f ho (by rw [hf] <;> rfl),hf]
 refine I.write (x:=p) (e:=p) (by rw [h]; trivial) (.inl rfl) (fun b u hb q=>(dJ _ _ (dG hb)).trans q) ⟨_,e⟩ ?_;exact⟨hz,its',n',r,e⟩
def Xv:V->V->V->Hp->(Hp->Prop)->Prop:=fun o i v H Q=>∃ p xs k j,o=.ref p/\i=.int k/\H p=some (.lst xs)/\LM xs.length k=some j/\Q (upd H p (.lst (xs.set j v)))
theorem set_list:ab7 X Xv:=by
 intro pins s σ H o i v ov iv u Q I ro ri rv h;obtain⟨p,xs,k,j,rfl,rfl,hp,hj,q⟩:=h;cases ro;obtain⟨t,rfl⟩:=ri;obtain⟨bQ,n,r,ho,hz⟩:=I.lst hp;obtain⟨h1,h2,h3,h4⟩:=LL hj;have hl:=r.length;have hn:=A2;have I':Inv X pins σ (upd H p (.lst (xs.set j v))) { s with heap:=s.heap.update p (jP (·.setIfInBounds j u)) } :=
  I.VZ hp ho (JH bQ n j u) (r.set rv j) (by rw [fD]; exact hz) s.toks
 by_cases h0:0<=k
 ·have hk:k.toNat=j:=by
   rw [seqIndex_of h0 h4] at h1;exact ba h1
  exact PySem.W.ki_setAt ho h0 (by lia) (by rw [a8,<-hl]; exact h4) (by rw [hk]; exact⟨_,I',q⟩)
 ·have hk:(k+(bQ.toArray.size:Int)).toNat=j:=by
   rw [seqIndex_neg (by lia) h3] at h1;rw [a8,<-hl];exact ba h1
  exact PySem.W.ki_setBack ho (by lia) (by rw [a8,<-hl]; exact h3) (by lia) (by rw [hk]; exact⟨_,I',q⟩)
theorem DS(lo hi:Option Int)(n:Nat):(sg lo hi none n).1=((HT.kn n 0 lo:Nat):Int)/\(sg lo hi none n).2.1=((HT.kn n n hi:Nat):Int)/\(sg lo hi none n).2.2=1:=by
 refine⟨?_,?_,rfl⟩
 ·cases lo with
  | none=>simp [sg,HT.kn]
  | some i =>
   simp only [sg,HT.kn,CA,show (1:Int) > 0 by decide,if_true];by_cases h:i < 0
   ·simp only [h,if_true] <;> lia
   ·simp only [h,if_false] <;> lia
 ·cases hi with
  | none=>simp [sg,HT.kn]
  | some i =>
   simp only [sg,HT.kn,CA,show (1:Int) > 0 by decide,if_true];by_cases h:i < 0
   ·simp only [h,if_true] <;> lia
   ·simp only [h,if_false] <;> lia
theorem B7(bQ:List Value)(lo hi:Option Int):slicePick bQ.toArray lo hi none=((bQ.drop (HT.kn bQ.length 0 lo)).take (HT.kn bQ.length bQ.length hi - HT.kn bQ.length 0 lo)).toArray:=by
 obtain⟨h1,h2,h3⟩:=DS lo hi bQ.toArray.size;unfold slicePick;rw [h1,h2,h3];simp only [sliceRange_one,pick_run,a8] <;> rfl
def aaf(K:ar):V->Option Int->Option Int->Hp->VK->Prop:=fun x lo hi H Q=>∃ a xs,x=.ref a/\qL K H a xs/\∀ p,H p=none->Q (.ref p) (upd H p (.lst (HC xs lo hi)))
theorem K9:SlR X (aaf X.K):=by
 intro pins s σ H x v vl vu lo hi sl Q I rx hs pl pu h;obtain⟨a,xs,rfl,hx,q⟩:=h;cases rx;obtain⟨bQ,r,ht,hz⟩:=I.list hx;have hlen:=r.length;refine⟨"list",_,slot_list_getitem.lookup,ht.isList.typeIs,?_⟩;refine wpAny_getItem_list_slice ht.isList hs pl pu .none (by simp) ?_ (by rw [a8] <;> lia);rw [B7,<-hlen];refine⟨.ref s.heap.objs.size,_,I.laid (t':=s.toks) (o:=.lst (HC xs lo hi)) (fun b ob q=>aF _ q) (aH _) ?_,rfl,q _ (I.cu.fresh (aH _))⟩;exact⟨aU (yQ xs lo hi) hz,_,0,(r.drop (HT.kn xs.length 0 lo)).take (HT.kn xs.length xs.length hi - HT.kn xs.length 0 lo),bc _ rfl⟩
theorem ES:RK X (.type "list") (fun xs H Q=>∃ p ys,xs=[.ref p]/\(qL X.K H p ys\/zL X.K H p ys)/\∀ l,H l=none->Q (.ref l) (upd H l (.lst ys))):=by
 intro pins s σ H xs us Q I r h;obtain⟨p,ys,rfl,hq,q⟩:=h;obtain⟨u,rfl,rx⟩:=vals1 r;cases rx;have fin:∀ (bQ:List Value),Vals ys bQ->ys.length<=a9->∀ (h':Heap) (c':Nat),(∀ b o',s.heap.get? b=some o'->h'.get? b=some o') ->
   h'.get? s.heap.objs.size=some { cls:=.type "list",dict:=none,data:=.seq bQ.toArray c',slots:=#[] }->EP X pins σ Q (.ref s.heap.objs.size) { s with heap:=h' }:=fun bQ r' hz h' c' kp e =>
  ⟨.ref s.heap.objs.size,_,I.laid (t':=s.toks) kp (aH _) (show fu X.prog X.w _ h' _ (.lst ys) from⟨hz,bQ,c',r',e⟩),rfl,q _ (I.cu.fresh (aH _))⟩
 rcases hq with hq | hq
 ·obtain⟨bQ,r',pl,hz⟩:=I.list hq;have hlen:=r'.length;obtain⟨o,ho,hc,n,hd⟩:=pl.isList;exact call_list_seq p (.inl rfl) ho hc hd (fun h' c' kp e=>fin bQ r' hz h' c' kp e) (by simp only [a8] <;> lia)
 ·obtain⟨bQ,r',pl,hz⟩:=I.tuple hq;have hlen:=r'.length;obtain⟨o,ho,hc,n,hd⟩:=pl;exact call_list_seq p (.inr rfl) ho hc hd (fun h' c' kp e=>fin bQ r' hz h' c' kp e) (by simp only [a8] <;> lia)
theorem Cm:RK X (.type "tuple") (fun xs H Q=>∃ p ys,xs=[.ref p]/\((qL X.K H p ys/\∀ l,H l=none->Q (.ref l) (upd H l (.tup ys)))\/(zL X.K H p ys/\Q (.ref p) H))):=by
 intro pins s σ H xs us Q I r h;obtain⟨p,ys,rfl,h⟩:=h;obtain⟨u,rfl,rx⟩:=vals1 r;cases rx;rcases h with ⟨hq,q⟩ | ⟨hq,q⟩
 ·obtain⟨bQ,r',pl,hz⟩:=I.list hq;have hlen:=r'.length;refine call_tuple_list pl.isList (fun h' kp=>?_) (by simp only [a8] <;> lia);have I1:Inv X pins σ H { s with heap:=h' }:=I.kept (t':=s.toks) kp;have I2:Inv X pins σ (upd H h'.objs.size (.tup ys)) { s with heap:=h'.push { cls:=.type "tuple",data:=.seq bQ.toArray } } :=
   I1.laid (t':=s.toks) (fun b o e=>aF _ e) (aH _) (show fu X.prog X.w _ _ _ (.tup ys) from⟨hz,bQ,r',IsTup.new _ _⟩)
  exact⟨.ref h'.objs.size,_,I2,rfl,q _ (I1.cu.fresh (aH _))⟩
 ·obtain⟨bQ,r',pl,hz⟩:=I.tuple hq;exact call_tuple_same pl ⟨.ref p,H,I,rfl,q⟩
def tyV(K:ar)(T:String)(x:V)(H:Hp):Prop:=match x with
 | .str _=>T = "str"
 | .int _=>T = "int"
 | .ref p=>(T = "list"/\∃ xs,qL K H p xs)\/(T = "tuple"/\∃ o,K.lookup p=some o/\o.cls=.type "tuple"/\o.dict=none) \/
   (T = "dict"/\((∃ kvs,H p=some (.dK kvs))\/∃ kvs,H p=some (.dT kvs)))\/(T = "set"/\∃ S n,H p=some (.set S n))
 | _=>False
theorem DL{pins:List (Addr×Obj)}{σ:St}{H:Hp}{s:aA}{T:String}{x:V}{v:Value}(I:Inv X pins σ H s)(r:RelV x v)(ty:tyV X.K T x H) :
  s.TypeIs v T/\∀ a,v=.ref a->∃ ob,s.heap.get? a=some ob/\ob.dict=none:=by
 cases x with
 | str z =>
  obtain⟨t,rfl⟩:=r;cases (show T = "str" from ty);exact⟨typeIs_str s z t,fun _ e=>nomatch e⟩
 | int i =>
  obtain⟨t,rfl⟩:=r;cases (show T = "int" from ty);exact⟨typeIs_int s i t,fun _ e=>nomatch e⟩
 | ref p =>
  cases r;rcases ty with ⟨rfl,xs,hq⟩ | ⟨rfl,o,hk,hc,hd⟩ | ⟨rfl,hk⟩ | ⟨rfl,S,n,hk⟩
  ·obtain⟨bQ,_,pl,_⟩:=I.list hq;refine⟨pl.isList.typeIs,fun a e=>?_⟩;cases e;obtain⟨o,n,e,c,hd,_⟩:=pl;exact⟨o,e,hd⟩
  ·refine⟨⟨o,I.Fh p o hk,hc⟩,fun a e=>?_⟩;cases e;exact⟨o,I.Fh _ o hk,hd⟩
  ·have z:∃ o,s.heap.get? p=some o/\o.ExactDict:=by
    rcases hk with ⟨kvs,hk⟩ | ⟨kvs,hk⟩
    ·obtain⟨_,_,_,_,o,_,_,e,ex,_⟩:=I.cu p _ hk;exact⟨o,e,ex⟩
    ·obtain⟨_,_,_,_,o,_,_,e,ex,_⟩:=I.cu p _ hk;exact⟨o,e,ex⟩
   obtain⟨o,e,ex⟩:=z;refine⟨⟨o,e,ex.1⟩,fun a e2=>?_⟩;cases e2;exact⟨o,e,ex.2.1⟩
  ·obtain⟨o,_,_,_,e,ex,_⟩:=I.cu p _ hk;refine⟨⟨o,e,ex.1⟩,fun a e2=>?_⟩;cases e2;exact⟨o,e,ex.2.1⟩
 | _=>exact bJ ty
variable {o e:Expr} {es:List Expr} {to:TE} {t:TA} {name:Str} {apos rq:Pos} {T id:String} {r:V->List V->Hp->VK->Prop}
/- xs.append(e),list.index on a XU tuple .. are MtR facts of 06m -/
end
def MtM(X:Cx)(id:String)(r:V->List V->Hp->VK->Prop):Prop :=
 ∀ (pins:List (Addr×Obj)) (s:aA) (σ:St) (H:Hp) (x:V) (xs:List V) (v:Value) (us:List Value) (Q:VK),Inv X pins σ H s->RelV x v->Vals xs us->r x xs H Q ->
  wpAny (model X.prog X.w) X.A (call (.builtin id) (v :: us)) (EP X pins σ Q) X.xe s
theorem Vals.one:∀ {x:V} {us:List Value},Vals [x] us->∃ u,us=[u]/\RelV x u:=by
 intro x us h;cases h with
 | cons r t=>cases t; exact⟨_,rfl,r⟩
section
variable {X:Cx} {pins:List (Addr×Obj)} {σ:St} {H:Hp} {s:aA} {l b:Addr} {xs ys zs:List V}
theorem Inv.XX{bQ its':List Value}{n:Nat}{f:Array Value->Array Value}{t':Nat}(I:Inv X pins σ H s)(hH:H l=some (.lst xs))
  (e:s.heap.get? l=some { cls:=.type "list",data:=.seq bQ.toArray n }) (hf:f bQ.toArray=its'.toArray) (hv:Vals ys its') (hz:ys.length<=a9) :
  Inv X pins σ (upd H l (.lst ys)) { s with heap:=s.heap.update l (jP f),toks:=t' }:=by
 have q:=PySem.IsL.update e f;rw [hf] at q;refine I.write (x:=l) (e:=l) (by rw [hH]; exact trivial) (.inl rfl) (fun b' u hb hu=>(dJ s.heap (jP f) (dG hb)).trans hu) ⟨_,q⟩ ?_;exact⟨hz,its',_,hv,q⟩
theorem Inv.aaE{bQ:List Value}{t':Nat}(I:Inv X pins σ H s)(hv:Vals ys bQ)(hz:ys.length<=a9) :
  Inv X pins σ (upd H s.heap.objs.size (.lst ys)) { s with heap:=s.heap.push { cls:=.type "list",data:=.seq bQ.toArray },toks:=t' } :=
 I.laid (fun _ _ q=>aF _ q) (aH _) ⟨hz,bQ,0,hv,bc _ rfl⟩
theorem Inv.XW (I:Inv X pins σ H s) (hH:H l=some (.lst xs)):xs.length<=a9/\∃ (bQ:List Value) (n:Nat),Vals xs bQ/\xs.length=bQ.length/\s.heap.get? l=some { cls:=.type "list",data:=.seq bQ.toArray n }:=by
 obtain⟨z,bQ,n,r,e⟩:=I.cu l _ hH;exact⟨z,bQ,n,r,r.length,e⟩
theorem PQ{n:Nat}(h:n<=a9):kF n=false:=by
 unfold kF;exact decide_eq_false (by lia)
end
section
variable {X:Cx}
def SJ:V->List V->Hp->VK->Prop:=fun x vs H Q=>∃ l xs y,x=.ref l/\vs=[y]/\H l=some (.lst xs)/\xs.length < a9/\Q .fg (upd H l (.lst (xs++[y])))
theorem CP:MtM X "list.append" SJ:=by
 intro pins s σ H x vs v us Q I rx rv h;obtain⟨l,xs,y,rfl,rfl,hH,hz,q⟩:=h;cases rx;obtain⟨u,rfl,ru⟩:=rv.one;obtain⟨z,bQ,n,r,hl,e⟩:=I.XW hH;refine IG F.slot_list_append ⟨_,e,rfl⟩ F.entry_list_append (F.args_list_append_2 _ _) (PySem.list_append l bQ.toArray n u (by rw [a8]; lia)) ⟨e,?_⟩;refine⟨.fg,_,I.XX (its':=bQ++[u]) hH e (by simp) (r.append (.cons ru .nil)) ?_,rfl,q⟩;rw [av,cU];lia
end
section
variable {κ:Type} [DecidableEq κ]
def nO(kvs:List (κ×V))(k:κ):Option V:=(kvs.find? fun kv=>decide (kv.1=k)).map (·.2)
def putK(kvs:List (κ×V))(k:κ)(v:V):List (κ×V) :=
 if (kvs.any fun kv=>decide (kv.1=k))=true then kvs.map (fun kv=>if kv.1=k then (kv.1,v) else kv) else kvs++[(k,v)]
theorem sD{p:κ×V}{r:List (κ×V)}{k:κ}(e:p.1=k):nO (p :: r) k=some p.2:=by simp [nO,dD,e]
theorem sE{p:κ×V}{r:List (κ×V)}{k:κ}(e:¬ p.1=k):nO (p :: r) k=nO r k:=by simp [nO,dD,e]
theorem FH(k:κ):∀ kvs:List (κ×V),(kvs.any fun kv=>decide (kv.1=k))=(nO kvs k).isSome
 | []=>rfl
 | p :: r=>by
  rw [mS];by_cases e:p.1=k
  ·simp only [sD e,decide_eq_true e,Bool.true_or,Option.isSome_some]
  ·rw [sE e,decide_eq_false e,N8]; exact FH k r
theorem yI(kvs:List (κ×V))(k:κ)(v:V):(putK kvs k v).length<=kvs.length+1:=by
 unfold putK;split
 ·rw [ao]; lia
 ·rw [av,ai,aB]; lia
theorem yg.qz{o:Option V}{u:Option Value}(r:yg o u):o.isSome=u.isSome:=by
 cases o with
 | none=>cases u with
  | none=>rfl
  | some _=>exact(show False from r).elim
 | some _=>cases u with
  | none=>exact(show False from r).elim
  | some _=>rfl
theorem yg.getD{o:Option V}{u:Option Value}{d:V}{d':Value}(r:yg o u)(rd:RelV d d'):RelV (o.getD d) (u.getD d'):=by
 cases o with
 | none=>cases u with
  | none=>exact rd
  | some _=>exact(show False from r).elim
 | some _=>cases u with
  | none=>exact(show False from r).elim
  | some _=>exact r
theorem KV.val{kvs:List (κ×V)}{vs:List (κ×Value)}(r:KV kvs vs)(k:κ):yg (nO kvs k) (Ou vs k):=by
 unfold KV at r;induction r with
 | nil=>exact gT
 | @cons p q ps qs h t ih =>
  obtain⟨h1,h2⟩:=h;by_cases e:p.1=k
  ·have e':q.1=k:=h1.symm.trans e;have b:Ou (q :: qs) k=some q.2:=by simp [Ou,dD,e']
   rw [sD e,b]; exact h2
  ·have e':¬ q.1=k:=fun z=>e (h1.trans z);have b:Ou (q :: qs) k=Ou qs k:=by simp [Ou,dD,e']
   rw [sE e,b]; exact ih
theorem KV.any{kvs:List (κ×V)}{vs:List (κ×Value)}(r:KV kvs vs)(k:κ):(kvs.any fun kv=>decide (kv.1=k))=vs.any fun kv=>decide (kv.1=k):=by
 unfold KV at r;induction r with
 | nil=>rfl
 | cons h t ih=>rw [mS,mS,ih,h.1]
theorem KV.O8{kvs:List (κ×V)}{vs:List (κ×Value)}(r:KV kvs vs)(k:κ){y:V}{u:Value}(ry:RelV y u) :
  KV (kvs.map fun kv=>if kv.1=k then (kv.1,y) else kv) (vs.map fun kv=>if kv.1=k then (kv.1,u) else kv):=by
 unfold KV at r ⊢;induction r with
 | nil=>exact .nil
 | @cons p q ps qs h t ih =>
  rw [ak,ak];refine .cons ?_ ih;obtain⟨h1,h2⟩:=h;by_cases e:p.1=k
  ·rw [if_pos e,if_pos (h1.symm.trans e)]; exact⟨h1,ry⟩
  ·rw [if_neg e,if_neg (fun z=>e (h1.trans z))]; exact⟨h1,h2⟩
theorem KV.put{kvs:List (κ×V)}{vs:List (κ×Value)}(r:KV kvs vs)(k:κ){y:V}{u:Value}(ry:RelV y u):KV (putK kvs k y) (KD vs k u):=by
 unfold putK KD;rw [r.any k];by_cases e:(vs.any fun kv=>decide (kv.1=k))=true
 ·rw [if_pos e,if_pos e]; exact r.O8 k ry
 ·rw [if_neg e,if_neg e]; exact RN r ⟨rfl,ry⟩
theorem KV.length{kvs:List (κ×V)}{vs:List (κ×Value)}(r:KV kvs vs):kvs.length=vs.length:=jd r
end
theorem yJ{P:bE}{w:World}{k:Key}{u:Value}(r:RelV (kV k) u):(cK P w).is k u=true:=by
 cases k with
 | inl i=>obtain⟨t,e⟩:=(show ∃ t,u=eT i t from r); subst e; exact yG P w i t
 | inr x=>obtain⟨t,e⟩:=(show ∃ t,u=Value.str x t from r); subst e; exact GA P w x t
theorem C1{P:bE}{w:World}:∀ {ks:List Key} {us:List Value},Vals (ks.map kV) us->ItemsAre (cK P w) ks us
 | [],_,r=>by rw [aS] at r; cases r; exact .nil
 | k :: ks,_,r=>by
  rw [ak] at r;cases r with
  | cons h t=>exact .cons (yJ h) (C1 t)
abbrev KT(H:Hp):List (List Key×V)->List (List Key×Addr×Value)->Prop:=lE fun p q=>p.1=q.1/\H q.2.1=some (.tup (p.1.map kV))/\RelV p.2 q.2.2
theorem KT.val{H:Hp}{kvs:List (List Key×V)}{xs:List (List Key×Addr×Value)}(r:KT H kvs xs)(k:List Key):yg (nO kvs k) ((atKey xs k).map (·.2)):=by
 induction r with
 | nil=>exact gT
 | @cons p q ps qs h t ih =>
  obtain⟨h1,_,h2⟩:=h;by_cases e:p.1=k
  ·have e':q.1=k:=h1.symm.trans e;have b:atKey (q :: qs) k=some q.2:=by simp [atKey,dD,e']
   rw [sD e,b]; exact h2
  ·have e':¬ q.1=k:=fun z=>e (h1.trans z);have b:atKey (q :: qs) k=atKey qs k:=by simp [atKey,dD,e']
   rw [sE e,b]; exact ih
theorem KT.O8{H:Hp}{kvs:List (List Key×V)}{xs:List (List Key×Addr×Value)}(r:KT H kvs xs)(k:List Key){y:V}{u:Value}(ry:RelV y u) :
  KT H (kvs.map fun kv=>if kv.1=k then (kv.1,y) else kv) (xs.map (putAt k u)):=by
 induction r with
 | nil=>exact .nil
 | @cons p q ps qs h t ih =>
  rw [ak,ak];refine .cons ?_ ih;obtain⟨h1,h2,h3⟩:=h;unfold putAt;by_cases e:p.1=k
  ·rw [if_pos e,if_pos (h1.symm.trans e)]; exact⟨h1,h2,ry⟩
  ·rw [if_neg e,if_neg (fun z=>e (h1.trans z))]; exact⟨h1,h2,h3⟩
theorem KT.put{H:Hp}{kvs:List (List Key×V)}{xs:List (List Key×Addr×Value)}(r:KT H kvs xs)(k:List Key){b:Addr}{y:V}{u:Value}(hb:H b=some (.tup (k.map kV)))(ry:RelV y u) :
  KT H (putK kvs k y) (IC xs k b u):=by
 have e:(kvs.any fun kv=>decide (kv.1=k))=(atKey xs k).isSome:=by
  rw [FH,(r.val k).qz,BQ]
 unfold putK IC;rw [e];by_cases q:(atKey xs k).isSome=true
 ·rw [if_pos q,if_pos q]; exact r.O8 k ry
 ·rw [if_neg q,if_neg q]; exact RN r ⟨rfl,hb,ry⟩
theorem KT.keeps{H H':Hp}{kvs:List (List Key×V)}{xs:List (List Key×Addr×Value)}(r:KT H kvs xs)(ht:∀ b ys,H b=some (.tup ys)->H' b=some (.tup ys)):KT H' kvs xs :=
 Paired.VY r fun _ _ z=>⟨z.1,ht _ _ z.2.1,z.2.2⟩
section
variable {P:bE} {w:World} {H:Hp} {h:Heap} {a:Addr}
theorem Um{u:HO}(ok:pJ P w H h)(e:Rd H a u):fu P w H h a u:=e.ok ok
theorem tx{kvs:List (Key×V)}(ok:pJ P w H h)(e:Rd H a (.dK kvs)):kvs.length<=a9/\(a == cS)=false/\∃ vs,KV kvs vs/\h.DictOf (cK P w) a vs :=
 show fu P w H h a (.dK kvs) from Um ok e
theorem Dj{kvs:List (Key×V)}(ok:pJ P w H h)(e:H a=some (.dK kvs)):kvs.length<=a9/\(a == cS)=false/\∃ vs,KV kvs vs/\h.DictOf (cK P w) a vs:=tx ok (.inl e)
theorem u6{ks:List Key}(ok:pJ P w H h)(e:H a=some (.tup (ks.map kV))):(iS (cK P w)).is h ks a:=by
 obtain⟨_,bQ,r,o,h1,h2,n,h3⟩:=(show fu P w H h a (.tup (ks.map kV)) from ok a _ e);exact⟨o,bQ.toArray,n,h1,h2,h3,by simpa using C1 r⟩
theorem yP{kvs:List (List Key×V)}(ok:pJ P w H h)(e:Rd H a (.dT kvs)):kvs.length<=a9/\(a == cS)=false /\
  ∃ xs,KT H kvs xs/\h.DictOfH (iS (cK P w)) a xs:=by
 obtain⟨z,y,xs,r,o,es,ep,h1,h2,h3,h4,h5⟩:=(show fu P w H h a (.dT kvs) from Um ok e);refine⟨z,y,xs,r,o,es,ep,h1,h2,h3,h4,fun x hx=>?_,h5⟩;have all:∀ {l:List (List Key×V)} {m:List (List Key×Addr×Value)},KT H l m->∀ x∈m,(iS (cK P w)).is h x.1 x.2.1:=by
  intro l m q;induction q with
  | nil=>intro x hx; exact nomatch hx
  | @cons p q ps qs hq t ih =>
   intro x hx;rcases List.mem_cons.mp hx with e | hx
   ·subst e;exact u6 ok (by rw [<-hq.1]; exact hq.2.1)
   ·exact ih x hx
 exact all r x hx
theorem QY{kvs:List (List Key×V)}(ok:pJ P w H h)(e:H a=some (.dT kvs)):kvs.length<=a9/\(a == cS)=false /\
  ∃ xs,KT H kvs xs/\h.DictOfH (iS (cK P w)) a xs:=yP ok (.inl e)
end
def zo(H:Hp)(a:Addr)(y:V)(r:Option V):Prop :=
 (∃ kvs k,Rd H a (.dK kvs)/\y=kV k/\r=nO kvs k)\/∃ kvs k b,Rd H a (.dT kvs)/\y=.ref b/\H b=some (.tup (k.map kV))/\r=nO kvs k
def NY(H:Hp)(a:Addr)(y v:V)(H':Hp):Prop :=
 (∃ kvs k,H a=some (.dK kvs)/\y=kV k/\kvs.length < a9/\H'=upd H a (.dK (putK kvs k v))) \/
 ∃ kvs k b,H a=some (.dT kvs)/\y=.ref b/\H b=some (.tup (k.map kV))/\kvs.length < a9/\H'=upd H a (.dT (putK kvs k v))
theorem zo.k{H:Hp}{a:Addr}{kvs:List (Key×V)}{k:Key}(e:H a=some (.dK kvs)):zo H a (kV k) (nO kvs k):=.inl ⟨kvs,k,.inl e,rfl,rfl⟩
theorem zo.t{H:Hp}{a b:Addr}{kvs:List (List Key×V)}{k:List Key}(e:H a=some (.dT kvs))(eb:H b=some (.tup (k.map kV))):zo H a (.ref b) (nO kvs k):=.inr ⟨kvs,k,b,.inl e,rfl,eb,rfl⟩
theorem NY.k{H:Hp}{a:Addr}{kvs:List (Key×V)}{k:Key}{v:V}(e:H a=some (.dK kvs))(hl:kvs.length < a9):NY H a (kV k) v (upd H a (.dK (putK kvs k v))):=.inl ⟨kvs,k,e,rfl,hl,rfl⟩
theorem NY.t{H:Hp}{a b:Addr}{kvs:List (List Key×V)}{k:List Key}{v:V}(e:H a=some (.dT kvs))(eb:H b=some (.tup (k.map kV)))(hl:kvs.length < a9) :
  NY H a (.ref b) v (upd H a (.dT (putK kvs k v))):=.inr ⟨kvs,k,b,e,rfl,eb,hl,rfl⟩
section
variable {X:Cx} {pins:List (Addr×Obj)} {σ:St} {H:Hp} {s:aA} {a:Addr} {y v:V} {u r:Value} {o:Option V} {A:dg} {E:Value->aA->Prop}
theorem Inv.big(I:Inv X pins σ H s):cS < s.heap.objs.size:=by
 have h:bR < s.heap.objs.size:=(I.mod.glob.keeps I.bk).lt;exact Nat.lt_trans (by decide) h
theorem xX{Q:Value->aA->Prop}(hu:A.units+1 < cLine)(I:Inv X pins σ H s)(g:zo H a y (some v))(ry:RelV y u)(h:∀ w' s',Inv X pins σ H s'->RelV v w'->Q w' s') :
  wpAny (model X.prog X.w) A (getItem (.ref a) u) Q E s:=by
 rcases g with ⟨kvs,k,e,ey,l⟩ | ⟨kvs,k,b,e,ey,eb,l⟩
 ·subst ey;obtain⟨z,hd,vs,rel,dd⟩:=tx I.cu e;obtain⟨w',hw,rH⟩:=yg.some_of (v:=v) (o:=Ou vs k) (by rw [l]; exact rel.val k);exact wpAny_getItem_of (yJ ry) dd.mapOf hw (h w' _ (I.tok _) rH)
 ·subst ey;cases (show u=fK b from ry);obtain⟨z,hd,xs,rel,dd⟩:=yP I.cu e;obtain⟨w',hw,rH⟩:=yg.some_of (v:=v) (o:=(atKey xs k).map (·.2)) (by rw [l]; exact rel.val k);obtain⟨p,hp,qb⟩:=Option.map_eq_some_iff.mp hw;refine wpAny_getItem_heap (kP hu) (u6 I.cu eb) dd hp ?_;rw [qb];exact h w' _ (I.tok _) rH
theorem YS{Q:Value->aA->Prop}(hu:A.units+1 < cLine)(I:Inv X pins σ H s)(g:zo H a y o)(ry:RelV y u)(h:∀ s',Inv X pins σ H s'->Q (.bool o.isSome) s') :
  wpAny (model X.prog X.w) A (eS .In u (.ref a)) Q E s:=by
 rcases g with ⟨kvs,k,e,ey,l⟩ | ⟨kvs,k,b,e,ey,eb,l⟩
 ·subst ey;obtain⟨z,hd,vs,rel,dd⟩:=tx I.cu e;refine wpAny_in_of (yJ ry) hd dd.mapOf ?_;rw [<-(rel.val k).qz,<-l];exact h _ (I.tok _)
 ·subst ey;cases (show u=fK b from ry);obtain⟨z,hd,xs,rel,dd⟩:=yP I.cu e;refine wpAny_in_heap (kP hu) (u6 I.cu eb) hd dd ?_;have q:=(rel.val k).qz;rw [BQ] at q;rw [<-q,<-l];exact h _ (I.tok _)
theorem L4{Q:Value->aA->Prop}(hu:A.units+1 < cLine)(I:Inv X pins σ H s)(g:zo H a y o)(ry:RelV y u)(h:∀ s',Inv X pins σ H s'->Q (.bool (!o.isSome)) s') :
  wpAny (model X.prog X.w) A (eS .NotIn u (.ref a)) Q E s:=by
 rcases g with ⟨kvs,k,e,ey,l⟩ | ⟨kvs,k,b,e,ey,eb,l⟩
 ·subst ey;obtain⟨z,hd,vs,rel,dd⟩:=tx I.cu e;refine wpAny_notIn_of (yJ ry) hd dd.mapOf ?_;rw [<-(rel.val k).qz,<-l];exact h _ (I.tok _)
 ·subst ey;cases (show u=fK b from ry);obtain⟨z,hd,xs,rel,dd⟩:=yP I.cu e;refine wpAny_notIn_heap (kP hu) (u6 I.cu eb) hd dd ?_;have q:=(rel.val k).qz;rw [BQ] at q;rw [<-q,<-l];exact h _ (I.tok _)
theorem ub{h':Heap}{t':Nat}{ob:HO}(I:Inv X pins σ H s)(mu:Y9 (H a))(hs:fI a s.heap h')(he:∃ q,h'.get? a=some q)(new:fu X.prog X.w (upd H a ob) h' a ob) :
  Inv X pins σ (upd H a ob) { s with heap:=h',toks:=t' } :=
 I.write (x:=a) (e:=a) mu (.inl rfl) (fun b q hb z=>(hs.2 b hb).trans z) he new
theorem Bn{P:bE}{w:World}{H':Hp}{h':Heap}{kvs:List (Key×V)}{vs:List (Key×Value)}(z:kvs.length<=a9)(hd:(a == cS)=false)(rel:KV kvs vs)(dd:h'.DictOf (cK P w) a vs) :
  fu P w H' h' a (.dK kvs):=⟨z,hd,vs,rel,dd⟩
theorem NL{H':Hp}{Q:Unit->aA->Prop}(hu:A.units+1 < cLine)(I:Inv X pins σ H s)(g:NY H a y v H')(ry:RelV y u)(rv:RelV v r)(h:∀ s',Inv X pins σ H' s'->Q () s') :
  wpAny (model X.prog X.w) A (setItem (.ref a) u r) Q E s:=by
 rcases g with ⟨kvs,k,e,ey,l,eH⟩ | ⟨kvs,k,b,e,ey,eb,l,eH⟩
 ·subst ey eH;obtain⟨z,hd,vs,rel,dd⟩:=Dj I.cu e;have hz:vs.length<=a9:=by rw [<-rel.length]; exact z
  have hl:(putK kvs k v).length<=a9:=by have:=yI kvs k v; lia
  refine wpAny_setItem_pairs (hsz:=hz) (yJ ry) dd fun h' Dl hs=>h _ ?_;have he:∃ q,h'.get? a=some q:=let ⟨q,_,_,hq,_⟩:=Dl; ⟨q,hq⟩
  exact ub I (by rw [e]; exact gT) hs he (Bn hl hd (rel.put k rv) Dl)
 ·subst ey eH;cases (show u=fK b from ry);obtain⟨z,hd,xs,rel,dd⟩:=QY I.cu e;have hz:xs.length<=a9:=by rw [<-jd rel]; exact z
  have hl:(putK kvs k v).length<=a9:=by have:=yI kvs k v; lia
  refine wpAny_setItem_heap (hsz:=hz) (kP hu) (u6 I.cu eb) dd fun h' Dl hs=>h _ ?_;obtain⟨q,es,ep,hq,h2,h3,h4,_,h5⟩:=Dl;refine ub I (by rw [e]; exact gT) hs ⟨q,hq⟩ ⟨hl,hd,_,(rel.put k eb rv).keeps fun c ys ec=>?_,q,es,ep,hq,h2,h3,h4,h5⟩;rw [bz (UA ec e (fun z=>nomatch z))];exact ec
end
section
variable {X:Cx} {pins:List (Addr×Obj)} {σ:St} {H:Hp} {s:aA} {a:Addr} {kvs:List (Key×V)} {k:Key} {u:Value} {A:dg} {E:Value->aA->Prop}
theorem UX {Q:Value->aA->Prop} (I:Inv X pins σ H s) (e:Rd H a (.dK kvs)) (h:∀ t s',Inv X pins σ H s'->Q (.int kvs.length t) s'):wpAny (model X.prog X.w) A (call (.builtin "len") [.ref a]) Q E s:=by
 obtain⟨z,hd,vs,rel,dd⟩:=tx I.cu e;refine call_len_dict hd dd (by rw [<-rel.length]; rw [cV] at z; lia) ?_;rw [<-rel.length];exact h _ _ (I.tok _)
theorem TH{Q:Bool->aA->Prop}(I:Inv X pins σ H s)(e:Rd H a (.dK kvs))(h:∀ s',Inv X pins σ H s'->Q (!kvs.isEmpty) s'):wpAny (model X.prog X.w) A (truthy (.ref a)) Q E s:=by
 obtain⟨z,hd,vs,rel,dd⟩:=tx I.cu e;refine Iz hd dd (by rw [<-rel.length]; rw [cV] at z; lia) ?_;have q:kvs.isEmpty=vs.isEmpty:=by cases rel <;> rfl
 rw [<-q];exact h _ (I.tok _)
end
theorem tD {X:Cx} {pins:List (Addr×Obj)} {σ:St} {H:Hp} {s:aA} {a:Addr} {y:V} {o:Option V} (I:Inv X pins σ H s) (g:zo H a y o):s.TypeIs (.ref a) "dict":=by
 rcases g with ⟨kvs,k,e,_,_⟩ | ⟨kvs,k,b,e,_,_,_⟩
 ·obtain⟨_,_,vs,_,dd⟩:=tx I.cu e;exact dd.typeIs
 ·obtain⟨_,_,xs,_,dd⟩:=yP I.cu e;exact dd.typeIs
theorem Hz {P:bE} {w:World} {H:Hp} (h:Heap) (hb:cS < h.objs.size):fu P w H (h.push { cls:=.type "dict",data:=.dict #[] }) h.objs.size (.dK []) :=
 ⟨cp _,beq_eq_false_iff_ne.mpr (dG (bu hb)),[],.nil,OD h⟩
def Vk:TE:=fun _ H Q=>∀ p,H p=none->Q (.ref p) (upd H p (.dK []))
section
variable {X:Cx} {pos:Pos}
theorem Px:PE X (.Dict [] [] pos) Vk:=fun pins s σ H Q I h =>
 wpAny_Dict_empty ⟨.ref s.heap.objs.size,_,I.laid (a:=s.heap.objs.size) (o:=.dK []) (t':=s.toks) (fun _ _ q=>aF _ q) (aH _) (Hz s.heap I.big),rfl,h _ (I.cu.fresh (aH _))⟩
end
abbrev VV:List (V×V)->List (Value×Value)->Prop:=lE fun p q=>RelV p.1 q.1/\RelV p.2 q.2
def JA(kvs more:List (Key×V)):List (Key×V):=more.foldl (fun acc kv=>putK acc kv.1 kv.2) kvs
theorem KV.merge:∀ {more:List (Key×V)} {rs:List (Key×Value)} {kvs:List (Key×V)} {vs:List (Key×Value)},KV more rs->KV kvs vs->KV (JA kvs more) (merged vs rs):=by
 intro more rs kvs vs r;unfold KV at r;induction r generalizing kvs vs with
 | nil=>intro q; exact q
 | @cons p q ps qs h t ih =>
  intro r0;have e:KV (putK kvs p.1 p.2) (KD vs q.1 q.2):=by
   have:=r0.put p.1 h.2;rw [<-h.1]; exact this
  exact ih e
theorem Bu{P:bE}{w:World}:∀ {kvs:List (Key×V)} {ws:List (Value×Value)},VV (kvs.map fun kv=>(kV kv.1,kv.2)) ws->∃ rs,Carries (cK P w) ws rs/\KV kvs rs
 | [],_,r=>by rw [aS] at r; cases r; exact⟨[],gT,.nil⟩
 | p :: kvs,_,r=>by
  rw [ak] at r;cases r with
  | @cons a b as bs h t =>
   obtain⟨rs,c,q⟩:=Bu (P:=P) (w:=w) t;obtain⟨b1,b2⟩:=b;exact⟨(p.1,b2) :: rs,⟨yJ h.1,rfl,c⟩,.cons ⟨rfl,h.2⟩ q⟩
def IsD(H:Hp)(a:Addr):Prop:=(∃ kvs,Rd H a (.dK kvs))\/∃ kvs,Rd H a (.dT kvs)
theorem Qq{X:Cx}{pins:List (Addr×Obj)}{σ:St}{H:Hp}{s:aA}{a:Addr}(I:Inv X pins σ H s)(d:IsD H a) :
  s.TypeIs (.ref a) "dict"/\(∀ b,fK a=.ref b->∃ ob,s.heap.get? b=some ob/\ob.dict=none)/\(a == cS)=false:=by
 rcases d with ⟨kvs,e⟩ | ⟨kvs,e⟩
 ·obtain⟨_,hd,vs,_,dd⟩:=tx I.cu e;refine⟨dd.typeIs,fun b q=>?_,hd⟩;cases q;obtain⟨ob,_,_,h1,h2,_⟩:=dd;exact⟨ob,h1,h2.2.1⟩
 ·obtain⟨_,hd,xs,_,dd⟩:=yP I.cu e;refine⟨dd.typeIs,fun b q=>?_,hd⟩;cases q;obtain⟨ob,_,_,h1,h2,_⟩:=dd;exact⟨ob,h1,h2.2.1⟩
section
variable {X:Cx} {pins:List (Addr×Obj)} {σ:St} {H:Hp} {s:aA} {a:Addr} {y d:V} {u r:Value} {o:Option V} {A:dg} {E:Value->aA->Prop}
theorem Wz{Q:Value->aA->Prop}(hu:A.units+1 < cLine)(I:Inv X pins σ H s)(g:zo H a y o)(ry:RelV y u)(rd:RelV d r)(h:∀ w' s',Inv X pins σ H s'->RelV (o.getD d) w'->Q w' s') :
  wpAny (model X.prog X.w) A (call (.builtin "dict.get") [.ref a,u,r]) Q E s:=by
 rcases g with ⟨kvs,k,e,ey,l⟩ | ⟨kvs,k,b,e,ey,eb,l⟩
 ·subst ey;obtain⟨z,hd,vs,rel,dd⟩:=tx I.cu e;refine nE dh dd.typeIs mQ (lN _ _ _) (meets_dict_get_default (cK X.prog X.w) a (yJ ry) hd r) ⟨_,dd.mapOf,h _ _ (I.tok _) ?_⟩;rw [l];exact(rel.val k).getD rd
 ·subst ey;cases (show u=fK b from ry);obtain⟨z,hd,xs,rel,dd⟩:=yP I.cu e;refine nE dh dd.typeIs mQ (lN _ _ _) (meetsH_dict_get_default (iS (cK X.prog X.w)) a b hd r) ⟨kP hu,k,xs,u6 I.cu eb,dd,h _ _ (I.tok _) ?_⟩;rw [l];exact(rel.val k).getD rd
end
end L2
namespace Att
open PySem PySem.W PySem.Calls PyProof.Rows
theorem zf{P:Params}{h:Heap}:∀ (ns:List Int) (vs:List Value),WellAll P h vs (ns.map WData.int)->ox vs ns:=by
 intro ns;induction ns with
 | nil =>
  intro vs w;rw [aS] at w;cases w;exact .nil
 | cons n ns ih =>
  intro vs w;rw [ak] at w;cases w with
  | cons a b =>
   cases a;exact .cons _ _ (ih _ b)
theorem MI{l:OpenLaw}{n:Nat}(hn:l.most=some n){P:Params}{h:Heap}{args:List WData}{vals:List Value}
  (Cb:l.row.toRowW.claim.pre args=true) (hwl:WellAll P h vals args) :
  ∃ a vs ns,vals=[fK a]/\args=[WData.list (ns.map WData.int)]/\h.get? a=some { cls:=.type "list",data:=.seq vs.toArray }/\ox vs ns/\ns.length<=n:=by
 have hsh:WShape.hasAll [] args [.list .int]=true:=(pre_splitW Cb).1;have hc:l.pre.holds [] { args:=args } = true:=(pre_splitW Cb).2;obtain⟨d,r,rfl,h1,h2⟩:=hasAllW_cons hsh;obtain rfl:=hasAllW_nil h2;obtain⟨xs,rfl,h3⟩:=hasW_list h1;obtain⟨ns,rfl⟩:=items_int h3;have hlen:ns.length<=n:=by
  unfold OpenLaw.pre at hc;have h4:(WTm.not (.lt (.lit (.int (n:Int))) (.len (.arg 0)))).holds [] { args:=[.list (ns.map .int)] } = true:=by
   have h4:=(holds_andW hc).1;rw [hn] at h4;exact h4
  have h5:=condW_of h4 (w_not (w_lt w_lit (w_len_list (w_arg rfl))));rw [ao] at h5;refine Nat.le_of_not_lt fun q=>?_;have q':(n:Int) < ((ns.length:Nat):Int):=by lia
  first
   | (rw [decide_eq_true q'] at h5; exact absurd h5 (by decide))
   | (simp at h5; lia)
 cases hwl with
 | cons w1 w2 =>
  cases w2;cases w1 with
  | list ho xS=>exact⟨_,_,ns,rfl,rfl,ho,zf ns _ xS,hlen⟩
theorem MT(l:OpenLaw)(args:List WData):l.row.toRowW.claim.post args (.bool true) args=true :=
 postW_of (r:=l.row.toRowW) (X:=(true == true))
  (show WShape.has [] (.bool true) .bool=true by first | rfl | decide | simp [WShape.has,WShape.arms,WShape.armsAll])
  (show (WTm.eq .res (.lit (.bool true))).value [] { args:=args,res:=some (.bool true),after:=args } = some (.bool (true == true)) from w_eq_bool (w_res rfl) w_lit) rfl
theorem HU{l:OpenLaw}{n:Nat}{q:bE}{loose:List Str}{XP:(Str->Option Value)->Heap->Prop}{YP:World->Heap->Prop}{d:DefRec}
  (hn:l.most=some n) (Yz:d.params.defaults=[])
  (call:∀ (w:World) (oz fZ:aA) (mg mb:Str->Option Value) (fa:Addr) (o:Obj) (pm cd doc:Value) (a:Addr) (vs:List Value) (ns:List Int),
   Ground q loose [] XP w oz mg mb fZ.heap->YP w fZ.heap ->
   fZ.heap.get? fa=some o->o.data=.func (docDef d.name d.params d.body d.scope pm cd doc)->fZ.heap.CodeRec cd d.name->mg d.name=some (.ref fa) ->
   fZ.heap.get? a=some { cls:=.type "list",data:=.seq vs.toArray }->ox vs ns->ns.length<=n->fZ.gens=#[] ->
   xk (model l.prog w) IF (.call (.ref fa) ⟨[.ref a],[]⟩) (fun r s'=>r=.ok (.ret (.bool true))/\OldK fZ.heap s'.heap/\s'.os=fZ.os/\zY s'.gens) fZ) :
  WalkO q loose XP YP l.row.toRowW d [] (fun f vs=>KI f vs):=by
 intro w oz fZ mg mb G Y fa o pm cd doc dV kV ho hd LO hD Wf hg args vals as Cb ae8 hrd hwl hlo;obtain rfl:dV=.none:=Dflts.none hD Yz;obtain rfl:kV=.none:=Dflts.noKw hD;obtain⟨a,vs,ns,rfl,rfl,Wd,hints,hlen⟩:=MI hn Cb hwl;refine enter_call (KG (call w oz fZ mg mb fa o pm cd doc a vs ns G Y ho (fd_plain hd) LO Wf Wd hints hlen hg) fun r s' hq=>?_);obtain⟨rfl,h2,h3,h4⟩:=hq;exact⟨.inl ⟨.bool true,.bool true,[],rfl,fun _=>rfl,.bool true,MT l _,fun _=>⟨List.Pairwise.nil,fun _ hm=>(nomatch hm)⟩⟩,h2,h3,h4⟩
end Att
namespace L2
open PySem PySem.Spec PyProof.Rows
theorem CF:∀ {vs:List Value} {ns:List Int},ox vs ns->Vals (ns.map V.int) vs
 | _,_,.nil=>.nil
 | _,_,.cons n t h=>.cons ⟨t,rfl⟩ (CF h)
def T9(H:Hp):Prop:=∀ b,H b=none\/∃ o xs,H b=some (.jC o (.lst xs))
theorem P8{P:bE}{w:World}{K:ar}{mg mb:Str->Option Value}{CX:Kz}{k:Nat}{fa a:Addr}{fd:gy}{x:Str}{sp:Sp}{fZ:aA}{vs:List Value}{ns:List Int}
  (KX:K.In fZ.heap) (R1:fZ.heap.Ns bR mg) (hb:fZ.heap.Ns builtinsNs mb) (hbb:∀ x:Str,x≠"__name__"->mb x=dZ x) (abh:fZ.heap.NoLimit) (hg:fZ.gens=#[])
  (ha:fZ.heap.get? a=some { cls:=.type "list",data:=.seq vs.toArray }) (hi:ox vs ns) (hl:ns.length<=a9) (hr:mJ k IF)
  (F:∀ base:Heap,K.In base->base.Ns bR mg->uw P w K mg base CX k fa fd [x] sp) (YG:∀ (s:aA) (u:Value),BindsTo s fd ⟨[u],[]⟩ [(x,u)])
  (Og:∀ H:Hp,T9 H->qL K H a (ns.map V.int)->sp [.ref a] H (fun v _=>v=.bl true) fun _ _ _=>False)
  (hCX:∀ H e s',CX [] H fZ (fun _ _ _=>False) e s'->False) :
  xk (model P w) IF (.call (.ref fa) ⟨[.ref a],[]⟩) (fun r s'=>r=.ok (.ret (.bool true))/\OldK fZ.heap s'.heap/\s'.os=fZ.os/\zY s'.gens) fZ:=by
 have rv:=CF hi;have aaF:=hi.length;have core:∀ H:Hp,T9 H->qL K H a (ns.map V.int)->pJ P w H fZ.heap->(∀ b,H b≠none->b=a)->(H a≠none->K.lookup a=none) ->
   xk (model P w) IF (.call (.ref fa) ⟨[.ref a],[]⟩) (fun r s'=>r=.ok (.ret (.bool true))/\OldK fZ.heap s'.heap/\s'.os=fZ.os/\zY s'.gens) fZ:=by
  intro H hO hS cu hA hK;have Mb:∀ {b:Addr} {o:Obj},fZ.heap.get? b=some o->H b=none->(Eo fZ.heap H).get? b=some o:=fun e n=>QC e n;have XQ:∀ {b:Addr} {o:Obj} {es:Array fL} {ep:Nat},fZ.heap.get? b=some o->o.data=.dict es ep->H b=none:=fun {b o es ep} e d=>by
   cases q:H b with
   | none=>rfl
   | some u =>
    have e':b=a:=hA b (by rw [q]; simp);subst e';rw [ha] at e; cases e;have d':Data.seq vs.toArray _=Data.dict es ep:=d;cases d'
  have Zr:∀ {b:Addr} {m:Str->Option Value},fZ.heap.Ns b m->(Eo fZ.heap H).Ns b m:=fun {b m} ⟨o,es,ep,e,d,r⟩=>⟨o,es,ep,Mb e (XQ e d),d,r⟩;have hKb:K.In (Eo fZ.heap H):=fun b o e=>Mb (KX b o e) (by
   cases q:H b with
   | none=>rfl
   | some u =>
    have e':b=a:=hA b (by rw [q]; simp);subst e';rw [hK (by rw [q]; simp)] at e; cases e)
  have hM:Mod K mg (Eo fZ.heap H):=⟨hKb,Zr R1,⟨mb,Zr hb,hbb⟩,let ⟨mc,h1,h2⟩:=abh; ⟨mc,Zr h1,h2⟩⟩;have e0:RI P w K mg (Eo fZ.heap H) IF [] fZ H:=⟨rfl,hM,fun b o e=>S8 e,Nat.le_of_eq (Ny _ _),trivial,fun b hb=>absurd (show b∈([]:List Addr) from hb) (by simp),cu,.of_eq hg⟩;refine KG ((F _ hKb (Zr R1)).run IF [] fZ H ⟨[.ref a],[]⟩ [.ref a] [.ref a] _ _ hr e0 (YG fZ (.ref a)) (.cons rfl .nil) (Og H hO hS)) fun r s' h=>?_;cases r with
  | error e=>exact(hCX H e s' h).elim
  | ok fl =>
   cases fl with
   | next=>exact bJ h
   | brk=>exact bJ h
   | cont=>exact bJ h
   | ret u =>
    obtain⟨v,H',os,bare,un,Wc,r',q⟩:=h;have q':v=.bl true:=q;subst q';obtain rfl:u=Value.bool true:=r';refine⟨rfl,OldK.of_keep fun b o e=>?_,os,bare⟩;cases q:H b with
    | none=>exact un.keep b o e q (by intro z; exact absurd (show b∈([]:List Addr) from z) (by simp)) (by simp)
    | some u =>
     rcases hO b with z | ⟨ob,xs,z⟩
     ·rw [q] at z; cases z
     ·have z2:=un.rZ b ob _ z;obtain⟨e1,_⟩:=cu b _ z;obtain⟨e2,_⟩:=Wc b _ z2;rw [e] at e1; cases e1;exact e2
 cases hk:K.lookup a with
 | some o =>
  have e:=KX a o hk;rw [ha] at e;cases e;refine core (fun _=>none) (fun _=>.inl rfl) (.inr ⟨_,vs.toArray,_,hk,rfl,rfl,rfl,by rw [a8,aaF]; exact hl,by simpa using rv⟩) (fun b u z=>by have z':(none:Option HO)=some u:=z; cases z') (fun b z=>absurd rfl z) fun z=>absurd rfl z
 | none =>
  refine core (fun b=>if b=a then some (.jC { cls:=.type "list",data:=.seq vs.toArray } (.lst (ns.map V.int))) else none) (fun b=>?_) (.inl (.inr ⟨{ cls:=.type "list",data:=.seq vs.toArray },if_pos rfl⟩)) (fun b u z=>?_) (fun b z=>?_) fun _=>hk
  ·by_cases hb:b=a
   ·exact .inr ⟨_,_,if_pos hb⟩
   ·exact .inl (if_neg hb)
  ·by_cases hb:b=a
   ·have z':=(if_pos hb).symm.trans z;cases z';subst hb;exact⟨ha,by rw [ao]; exact hl,vs,_,rv,ha⟩
   ·have z':=(if_neg hb).symm.trans z;cases z'
  ·by_cases hb:b=a
   ·exact hb
   ·exact absurd (if_neg hb) z
theorem Sj{l:DF}{n k:Nat}{q:bE}{loose:List Str}{XP:(Str->Option Value)->Heap->Prop}{YP:World->Heap->Prop}{d:DefRec}{K:Params->ar}{CX:World->Kz}{sp:World->Sp}{x:Str}
  (hn:l.most=some n) (hn2:n<=a9) (Yz:d.params.defaults=[]) (hr:mJ k IF)
  (hY:∀ (w:World) (h:Heap),YP w h->(K w.params).In h)
  (F:∀ (w:World) (mg:Str->Option Value) (fa:Addr) (h:Heap),(K w.params).In h->h.Ns bR mg->mg d.name=some (.ref fa) ->
   ∃ fd:gy,(∀ (s:aA) (u:Value),BindsTo s fd ⟨[u],[]⟩ [(x,u)]) /\
    ∀ base:Heap,(K w.params).In base->base.Ns bR mg->uw l.prog w (K w.params) mg base (CX w) k fa fd [x] (sp w))
  (Og:∀ (w:World) (H:Hp) (a:Addr) (ns:List Int),ns.length<=n->T9 H->qL (K w.params) H a (ns.map V.int)->sp w [.ref a] H (fun v _=>v=.bl true) fun _ _ _=>False)
  (hCX:∀ (w:World) (H:Hp) (s:aA) (e:Value) (s':aA),CX w [] H s (fun _ _ _=>False) e s'->False) :
  PySem.W.WalkO q loose XP YP l.row.toRowW d [] (fun f vs=>KI f vs):=by
 refine Att.HU hn Yz fun w oz fZ mg mb fa o pm cd doc a vs ns G Y ho hd LO Wf Wd hints hlen hg=>?_;have KX:=hY w _ Y;obtain⟨fd,hb,hF⟩:=F w mg fa _ KX G.T.g Wf;exact P8 KX G.T.g G.T.b G.T.builtins G.T.nolimit hg Wd hints (aU hlen hn2) hr hF hb (fun H hO hS=>Og w H a ns hlen hO hS) fun H e s'=>hCX w H fZ e s'
end L2
/- THE agm ZR (shape; LID,My.* are acg):
   My.Adr: a structure of Z3 addresses adY adS acI names (classes,W7); My.Txt K t: a structure (Prop) of Z3 equations over K;
   My.Z2:{K} {implicit addresses ..} (e1:nsIn K bR "law" = some (some (.ref f))) (e2:K.lookup f=some ⟨oc,od,.func (fnOf "law" "law" params body scope dV kV doc pm an ot ct),sl⟩) (e3:codeIn K ot "law" = true) ..:∃ t,My.Txt K t
(Z3 tactic k_is has no namespace: write k_is) -/
namespace L2
open PySem PySem.Spec PyProof.Rows
def mw(s:Stmt):Arguments:=match s with
 | .FunctionDef _ a _ _ _ _ _ _ _ _=>a
 | _=>{ posonlyargs:=[],args:=[],vararg:=none,kwonlyargs:=[],kw_defaults:=[],kwarg:=none,defaults:=[] }
def jf(s:Stmt):List Stmt:=match s with
 | .FunctionDef _ _ b _ _ _ _ _ _ _=>b
 | _=>[]
def cf(s:Stmt):Scope:=match s with
 | .FunctionDef _ _ _ _ _ _ sc _ _ _=>sc
 | _=>{ kind:=.function,names:=[],isGenerator:=false,isCoroutine:=false }
abbrev Iy:Kz:=fun _ _ _ _ _ _=>False
abbrev E0:XK:=fun _ _ _=>False
theorem Uv{X:Cx}:Passes Iy X E0:=fun _ _ _ _ _ _ _ h=>h.elim
structure Ub(K:ar)(x qual:Str)(st:Stmt)(f:Addr)(fd:gy):Prop where
 ex:∃ (oc:Value) (od:Option Addr) (kV doc pm:Value) (an:Option Addr) (ot ct:Value) (MY:Array (Option Value)),
  fd=lA x qual (mw st) (jf st) (cf st) .none kV doc pm an ot ct/\K.lookup f=some ⟨oc,od,.func fd,MY⟩/\Fw K ot qual=true
 kp:qM K (.ref f)=true
section
variable {P:bE} {w:World} {K:ar} {mg:Str->Option Value} {base:Heap}
theorem Ub.ok{x qual:Str}{st:Stmt}{f:Addr}{fd:gy}{N ps:List Str}{k:Nat}{sp:Sp}(F:Ub K x qual st f fd)(S:pK N ps (cf st))(len:∀ vs H Q E,sp vs H Q E->vs.length=ps.length)
  (QE:∀ (ot:Value) (A:dg) (outer:List Env) (s:aA) (H:Hp) (vs:List V) (Q:VK) (E:XK),mJ k (A.deeper (Cz qual (cf st) s.heap.objs.size f ot))->sp vs H Q E ->
   ∃ t,Xd (EL Iy P w K mg base N qual (cf st) f ot A outer s H E).VS (jf st) t/\t { nx:=fun _ H'=>Q .fg H',rt:=Q } (start N vs) H):uw P w K mg base Iy (k+1) f fd ps sp:=by
 obtain⟨oc,od,kV,doc,pm,an,ot,ct,MY,rfl,lk,LO⟩:=F.ex;refine YN lk LO S len fun A outer s H vs Q E hr Og=>?_;obtain⟨t,h,q⟩:=QE ot A outer s H vs Q E hr Og;exact⟨t,h.VS,q⟩
theorem Ub.binds{x qual:Str}{st:Stmt}{f:Addr}{fd:gy}{ps:List Str}(F:Ub K x qual st f fd)
  (h:∀ (kV doc pm:Value) (an:Option Addr) (ot ct:Value) (us:List Value),us.length=ps.length->bindArgs (lA x qual (mw st) (jf st) (cf st) .none kV doc pm an ot ct) ⟨us,[]⟩=pure (ps.zip us)):Binds K fd ps []:=by
 obtain⟨oc,od,kV,doc,pm,an,ot,ct,MY,rfl,lk,LO⟩:=F.ex;exact .all (h kV doc pm an ot ct)
theorem Wu{x qual:Str}{st:Stmt}{f:Addr}{oc:Value}{od an:Option Addr}{MY:Array (Option Value)}{kV doc pm ot ct:Value}(l:K.lookup f=some ⟨oc,od,.func (lA x qual (mw st) (jf st) (cf st) .none kV doc pm an ot ct),MY⟩)
  (c:Fw K ot qual=true) (k:qM K (.ref f)=true):Ub K x qual st f (lA x qual (mw st) (jf st) (cf st) .none kV doc pm an ot ct):=⟨⟨oc,od,kV,doc,pm,an,ot,ct,MY,rfl,l,c⟩,k⟩
end
end L2
set_option autoImplicit false
section
namespace K2
open PySem (Str)
abbrev PK:=List (List (List Int))
inductive D where
 | fg | bl (b:Bool) | int (i:Int) | str (x:Str) | tup (ds:List D) | dN (ds:List D) | iL (kvs:List (D×D)) | ref (a:Nat) | exc (c:Str) | Hv (c:Str) (ns:List Str) (ds:List D) | oY (kvs:List (PK×D))
 deriving Inhabited
inductive GO where
 | lst (ds:List D)
 | eW (kvs:List (D×D))
 | ins (c:Str) (fs:List (Str×D))
 | ua (kvs:List (PK×D))
abbrev Gp:=Nat->Option GO
def dH(G:Gp)(a:Nat)(o:GO):Gp:=fun b=>if b=a then some o else G b
theorem ax{G:Gp}{a:Nat}{o:GO}:dH G a o a=some o:=by unfold dH; rw [if_pos rfl]
theorem cw{G:Gp}{a b:Nat}{o:GO}(h:b≠a):dH G a o b=G b:=by unfold dH; rw [if_neg h]
abbrev SZ:Nat:=16777216
structure Ex where
 cls:Str
 afO:List (Str×D)
abbrev nA:=Ex->Gp->Prop
abbrev jc:=List (Option D)
abbrev DK:=D->Gp->Prop
abbrev gK:=nA->jc->Gp->DK->Prop
abbrev yf:=nA->jc->Gp->(Bool->Gp->Prop)->Prop
abbrev Fp:=nA->jc->Gp->(List D->Gp->Prop)->Prop
structure mK where
 nx:jc->Gp->Prop
 rt:DK
 bk:jc->Gp->Prop
 ct:jc->Gp->Prop
abbrev iq:=nA->mK->jc->Gp->Prop
abbrev kC:=List D->Gp->DK->nA->Prop
abbrev Cv:=D->D->Gp->DK->Prop
def LM(n:Nat)(i:Int):Option Nat:=if 0<=i then (if i < n then some i.toNat else none) else if -(n:Int)<=i then some (i+n).toNat else none
def uf{α:Type}(xs:List α)(i:Int):Option α:=(LM xs.length i).bind fun j=>xs[j]?
def kn(n d:Nat):Option Int->Nat
 | none=>d
 | some v=>if v < 0 then (v+(n:Int)).toNat else min v.toNat n
def cut{α:Type}(xs:List α)(lo hi:Option Int):List α:=(xs.drop (kn xs.length 0 lo)).take (kn xs.length xs.length hi - kn xs.length 0 lo)
mutual
def jj:D->D->Bool
 | .fg,.fg=>true
 | .bl a,.bl b=>a == b
 | .bl a,.int b=>(if a then 1 else 0) == b
 | .int a,.bl b=>a == (if b then 1 else 0)
 | .int a,.int b=>a == b
 | .str a,.str b=>a == b
 | .tup a,.tup b=>mH a b
 | .dN a,.dN b=>mH a b
 | _,_=>false
def mH:List D->List D->Bool
 | [],[]=>true
 | a :: r,b :: t=>jj a b&&mH r t
 | _,_=>false
end
mutual
def nr:D->Bool
 | .ref _=>false
 | .exc _=>false
 | .Hv _ _ _=>false
 | .iL _=>false
 | .oY _=>false
 | .str x=>x.cps.all (· < 0x110000)
 | .tup ds=>sX ds
 | .dN ds=>sX ds
 | _=>true
def sX:List D->Bool
 | []=>true
 | d :: r=>nr d&&sX r
end
class inductive Sn (G:Gp):Nat->D->D->Prop
 | fg {n:Nat}:Sn G n .fg .fg
 | bl {n:Nat} (b:Bool):Sn G n (.bl b) (.bl b)
 | int {n:Nat} (i:Int):Sn G n (.int i) (.int i)
 | str {n:Nat} (x:Str) (h:x.cps.all (· < 0x110000)=true):Sn G n (.str x) (.str x)
 | I0 {n:Nat}:Sn G (n+1) (.tup []) (.tup [])
 | sH {n:Nat} {d s:D} {ds ss:List D}:Sn G n d s->Sn G (n+1) (.tup ds) (.tup ss)->Sn G (n+1) (.tup (d :: ds)) (.tup (s :: ss))
 | MM {n:Nat}:Sn G (n+1) (.dN []) (.dN [])
 | CN {n:Nat} {d s:D} {ds ss:List D}:Sn G n d s->Sn G (n+1) (.dN ds) (.dN ss)->Sn G (n+1) (.dN (d :: ds)) (.dN (s :: ss))
 | ref {n:Nat} {a:Nat} {ds ss:List D}:G a=some (.lst ds)->Sn G n (.dN ds) (.dN ss)->Sn G n (.ref a) (.dN ss)
abbrev SN:Nat:=8
theorem Sn.nr{G:Gp}{n:Nat}{d t:D}(h:Sn G n d t):K2.nr t=true:=by
 induction h with
 | fg=>rfl
 | bl b=>rfl
 | int i=>rfl
 | str x h=>exact h
 | I0=>rfl
 | sH _ _ Qw Qv =>
  show (K2.nr _&&K2.sX _)=true;rw [Qw];exact Qv
 | MM=>rfl
 | CN _ _ Qw Qv =>
  show (K2.nr _&&K2.sX _)=true;rw [Qw];exact Qv
 | ref _ _ ih=>exact ih
def rJ(k:PK):D:=.tup (k.map fun r=>.tup (r.map fun t=>.tup (t.map D.int)))
def dE:D->Bool
 | .int _=>true
 | .str _=>true
 | _=>false
def FJ:D->Gp->Option Bool
 | .fg,_=>some false
 | .bl b,_=>some b
 | .int i,_=>some (i != 0)
 | .str x,_=>if x.length<=SZ then some ((x.length:Int) != 0) else none
 | .tup ds,_=>some (!ds.isEmpty)
 | .dN ds,_=>some (!ds.isEmpty)
 | .exc _,_=>none
 | .Hv _ _ _,_=>none
 | .oY _,_=>none
 | .iL kvs,_=>if (kvs.all fun p=>dE p.1)=true then some (!kvs.isEmpty) else none
 | .ref a,G=>match G a with
  | some (.lst ds)=>some (!ds.isEmpty)
  | some (.eW kvs)=>if (kvs.all fun p=>dE p.1)=true then some (!kvs.isEmpty) else none
  | _=>none
def au(i:Nat):gK:=fun _ τ G Q=>match τ[i]? with
 | some (some d)=>Q d G
 | _=>False
def dC(d:D):gK:=fun _ _ G Q=>Q d G
def aQ:Fp:=fun _ _ G Q=>Q [] G
def aw(a:gK)(r:Fp):Fp:=fun E τ G Q=>a E τ G fun x G1=>r E τ G1 fun xs G2=>Q (x :: xs) G2
def ij(t:Fp):gK:=fun E τ G Q=>t E τ G fun ds G1=>ds.length<=SZ/\Q (.tup ds) G1
def gG(t:Fp):gK:=fun E τ G Q=>t E τ G fun ds G1=>ds.length<=SZ/\∀ p,G1 p=none->Q (.ref p) (dH G1 p (.lst ds))
def br(r:Cv)(a b:gK):gK:=fun E τ G Q=>a E τ G fun x G1=>b E τ G1 fun y G2=>r x y G2 Q
def W8(r:D->Gp->DK->Prop)(a:gK):gK:=fun E τ G Q=>a E τ G fun x G1=>r x G1 Q
def gv(G:Gp)(o:GO)(Q:DK):Prop:=∀ p,G p=none->Q (.ref p) (dH G p o)
def MulOk(i j:Int):Prop:=(-(2 ^ 64) < i/\i < 2 ^ 64)\/(-(2 ^ 64) < j/\j < 2 ^ 64)
def mE:D->Gp->Option (List D)
 | .dN ds,_=>some ds
 | .ref a,G=>match G a with
  | some (.lst ds)=>some ds
  | _=>none
 | _,_=>none
def yd(x y:D)(G:Gp)(Q:DK):Prop:=match mE x G,mE y G with
 | some xs,some ys=>xs.length+ys.length<=SZ/\gv G (.lst (xs++ys)) Q
 | _,_=>False
def ic:Cv
 | .int i,.int j,G,Q=>Q (.int (i+j)) G
 | .str a,.str b,G,Q=>a.length+b.length<=SZ/\Q (.str (a++b)) G
 | .tup a,.tup b,G,Q=>a≠[]/\a.length+b.length<=SZ/\Q (.tup (a++b)) G
 | x,y,G,Q=>yd x y G Q
def SA:Cv
 | .int i,.int j,G,Q=>Q (.int (i - j)) G
 | _,_,_,_=>False
def DW:Cv
 | .int i,.int j,G,Q=>MulOk i j/\Q (.int (i * j)) G
 | _,_,_,_=>False
def sR:Cv
 | .int i,.int j,G,Q=>0 < j/\Q (.int (i % j)) G
 | _,_,_,_=>False
def yB:Cv
 | .int i,.int j,G,Q=>0 < j/\j < 2 ^ 30/\Q (.int (i / j)) G
 | _,_,_,_=>False
def Vy:D->Gp->DK->Prop
 | .int i,G,Q=>Q (.int (-i)) G
 | _,_,_=>False
def Fg(neg:Bool):Cv:=fun x y G Q=>∃ a b,Sn G SN x a/\Sn G SN y b/\Q (.bl (if neg then !jj a b else jj a b)) G
def lexLt:List Int->List Int->Bool
 | [],[]=>false
 | [],_ :: _=>true
 | _ :: _,[]=>false
 | x :: xs,y :: ys=>if x=y then lexLt xs ys else decide (x < y)
def Zm:Cv
 | .int i,.int j,G,Q=>Q (.bl (decide (i < j))) G
 | .tup a,.tup b,G,Q=>∃ xs ys,a=xs.map D.int/\b=ys.map D.int/\Q (.bl (lexLt xs ys)) G
 | _,_,_,_=>False
def rLe:Cv
 | .int i,.int j,G,Q=>Q (.bl (decide (i<=j))) G
 | _,_,_,_=>False
def rGt:Cv
 | .int i,.int j,G,Q=>Q (.bl (decide (i > j))) G
 | _,_,_,_=>False
def rGe:Cv
 | .int i,.int j,G,Q=>Q (.bl (decide (i>=j))) G
 | _,_,_,_=>False
def itemsOf:D->Gp->Option (List D)
 | .tup ds,_=>some ds
 | .dN ds,_=>some ds
 | .ref a,G=>match G a with
  | some (.lst ds)=>some ds
  | _=>none
 | _,_=>none
def ly:D->Bool
 | .tup ds=>ds.all dE
 | _=>false
def ie(kvs:List (D×D))(k:D):Bool:=(dE k&&kvs.all fun p=>dE p.1)||(ly k&&kvs.all fun p=>ly p.1)
def look(kvs:List (D×D))(k:D):Option D:=(kvs.find? fun p=>jj p.1 k).map (·.2)
def put(kvs:List (D×D))(k v:D):List (D×D) :=
 if (kvs.any fun p=>jj p.1 k)=true then kvs.map (fun p=>if jj p.1 k=true then (p.1,v) else p) else kvs++[(k,v)]
def Of(neg:Bool):Cv:=fun x y G Q=>match y with
 | .ref a=>(match G a with
  | some (.eW kvs)=>ie kvs x=true/\Q (.bl (if neg then !(look kvs x).isSome else (look kvs x).isSome)) G
  | some (.lst ds)=>∃ s ss,Sn G SN x s/\Sn G SN (.dN ds) (.dN ss)/\Q (.bl (if neg then !ss.any (jj · s) else ss.any (jj · s))) G
  | _=>False)
 | .iL kvs=>kvs≠[]/\ie kvs x=true/\Q (.bl (if neg then !(look kvs x).isSome else (look kvs x).isSome)) G
 | .tup ds=>∃ s ss,Sn G SN x s/\Sn G SN (.dN ds) (.dN ss)/\Q (.bl (if neg then !ss.any (jj · s) else ss.any (jj · s))) G
 | .dN ds=>∃ s ss,Sn G SN x s/\Sn G SN (.dN ds) (.dN ss)/\Q (.bl (if neg then !ss.any (jj · s) else ss.any (jj · s))) G
 | _=>False
def mD:Cv
 | .tup ds,.int i,G,Q=>(match uf ds i with
  | some d=>Q d G
  | none=>False)
 | .dN ds,.int i,G,Q=>(match uf ds i with
  | some d=>Q d G
  | none=>False)
 | .iL kvs,k,G,Q=>ie kvs k=true/\(match look kvs k with
  | some d=>Q d G
  | none=>False)
 | .ref a,k,G,Q=>(match G a with
  | some (.lst ds)=>(match k with
   | .int i=>(match uf ds i with
    | some d=>Q d G
    | none=>False)
   | _=>False)
  | some (.eW kvs)=>ie kvs k=true/\(match look kvs k with
   | some d=>Q d G
   | none=>False)
  | _=>False)
 | _,_,_,_=>False
abbrev Y5:=nA->jc->Gp->(Option Int->Gp->Prop)->Prop
def ft:Y5:=fun _ _ G Q=>Q none G
def nH(t:gK):Y5:=fun E τ G Q=>t E τ G fun x G1=>match x with
 | .int i=>Q (some i) G1
 | _=>False
def RW:D->Option Int->Option Int->Gp->DK->Prop
 | .tup ds,lo,hi,G,Q=>¬ (kn ds.length 0 lo=0/\kn ds.length ds.length hi=ds.length)/\Q (.tup (cut ds lo hi)) G
 | .dN ds,lo,hi,G,Q=>gv G (.lst (cut ds lo hi)) Q
 | .ref a,lo,hi,G,Q=>(match G a with
  | some (.lst ds)=>gv G (.lst (cut ds lo hi)) Q
  | _=>False)
 | _,_,_,_,_=>False
def zk(a:gK)(lo hi:Y5):gK:=fun E τ G Q=>a E τ G fun x G1=>lo E τ G1 fun l G2=>hi E τ G2 fun h G3=>RW x l h G3 Q
def jD(a:gK):yf:=fun E τ G Q=>a E τ G fun x G1=>match FJ x G1 with
 | some b=>Q b G1
 | none=>False
def WA(a b:yf):yf:=fun E τ G Q=>a E τ G fun c G1=>if c=true then b E τ G1 Q else Q false G1
def Oi(a b:yf):yf:=fun E τ G Q=>a E τ G fun c G1=>if c=true then Q true G1 else b E τ G1 Q
def uq(a:yf):yf:=fun E τ G Q=>a E τ G fun c G1=>Q (!c) G1
def HB(a b:gK):gK:=fun E τ G Q=>a E τ G fun x G1=>match FJ x G1 with
 | some true=>b E τ G1 Q
 | some false=>Q x G1
 | none=>False
def YT(a b:gK):gK:=fun E τ G Q=>a E τ G fun x G1=>match FJ x G1 with
 | some true=>Q x G1
 | some false=>b E τ G1 Q
 | none=>False
def Q6(a:gK):gK:=fun E τ G Q=>a E τ G fun x G1=>match FJ x G1 with
 | some c=>Q (.bl (!c)) G1
 | none=>False
def YU(c:yf)(a b:gK):gK:=fun E τ G Q=>c E τ G fun k G1=>if k=true then a E τ G1 Q else b E τ G1 Q
def bC(sp:kC)(t:Fp):gK:=fun E τ G Q=>t E τ G fun ds G1=>sp ds G1 Q fun _ _=>False
def oK(r:List D->Gp->DK->Prop)(t:Fp):gK:=fun E τ G Q=>t E τ G fun ds G1=>r ds G1 Q
def DO(x:D)(G:Gp):Prop:=match x with
 | .ref a=>(match G a with
  | some (.lst _)=>True
  | _=>False)
 | .dN _=>True
 | _=>False
def RS(x:D)(G:Gp):Prop:=match x with
 | .iL _=>True
 | .ref a=>(match G a with
  | some (.eW _)=>True
  | _=>False)
 | _=>False
def tyS(x:D)(_:Gp):Prop:=match x with
 | .str _=>True
 | _=>False
def r8(ty:D->Gp->Prop)(r:D->List D->Gp->DK->Prop)(o:gK)(t:Fp):gK:=fun E τ G Q=>o E τ G fun x G1=>ty x G1/\t E τ G1 fun ds G2=>r x ds G2 Q
def lenOf:D->Gp->Option Nat
 | .tup ds,_=>some ds.length
 | .dN ds,_=>some ds.length
 | .str x,_=>if x.length<=SZ then some x.length else none
 | .iL kvs,_=>if (kvs.all fun p=>dE p.1)=true then some kvs.length else none
 | .ref a,G=>match G a with
  | some (.lst ds)=>some ds.length
  | some (.eW kvs)=>if (kvs.all fun p=>dE p.1)=true then some kvs.length else none
  | _=>none
 | _,_=>none
def sd(ds:List D)(G:Gp)(Q:DK):Prop:=match ds with
 | [x]=>(match lenOf x G with
  | some n=>Q (.int (n:Int)) G
  | none=>False)
 | _=>False
def wW(ds:List D)(G:Gp)(Q:DK):Prop:=match ds with
 | [x]=>(match itemsOf x G with
  | some xs=>gv G (.lst xs) Q
  | none=>False)
 | _=>False
def UG(C:String):D->Gp->Option Bool
 | .fg,_=>some false
 | .bl _,_=>some (C == "bool" || C == "int")
 | .int _,_=>some (C == "int")
 | .str _,_=>some (C == "str")
 | .tup _,_=>some (C == "tuple")
 | .dN _,_=>some (C == "list")
 | .iL _,_=>some (C == "dict")
 | .exc _,_=>none
 | .Hv _ _ _,_=>none
 | .oY _,_=>none
 | .ref a,G=>match G a with
  | some (.lst _)=>some (C == "list")
  | some (.eW _)=>some (C == "dict")
  | _=>none
def Q9(C:String)(a:gK):gK:=fun E τ G Q=>a E τ G fun x G1=>match UG C x G1 with
 | some b=>Q (.bl b) G1
 | none=>False
def mr(x:D)(ds:List D)(G:Gp)(Q:DK):Prop:=match x,ds with
 | .ref a,[d]=>(match G a with
  | some (.lst xs)=>xs.length < SZ/\Q .fg (dH G a (.lst (xs++[d])))
  | _=>False)
 | _,_=>False
def t6(x:D)(ds:List D)(G:Gp)(Q:DK):Prop:=match x,ds with
 | .ref a,[y]=>(match G a,mE y G with
  | some (.lst xs),some ys=>xs.length+ys.length<=SZ/\Q .fg (dH G a (.lst (xs++ys)))
  | _,_=>False)
 | _,_=>False
def Td(x:D)(ds:List D)(G:Gp)(Q:DK):Prop:=match x,ds with
 | .ref a,[.int i,d]=>(match G a with
  | some (.lst xs)=>0<=i/\i<=xs.length/\xs.length < SZ/\Q .fg (dH G a (.lst (xs.take i.toNat++d :: xs.drop i.toNat)))
  | _=>False)
 | _,_=>False
def GC(x:D)(ds:List D)(G:Gp)(Q:DK):Prop:=match x,ds with
 | .ref a,[k,d]=>(match G a with
  | some (.eW kvs)=>ie kvs k=true/\dE k=true/\(match look kvs k with
   | some v=>Q v G
   | none=>kvs.length < SZ/\Q d (dH G a (.eW (put kvs k d))))
  | _=>False)
 | _,_=>False
def fR:iq:=fun _ K τ G=>K.nx τ G
def bY(a b:iq):iq:=fun E K τ G=>a E { K with nx:=b E K } τ G
def jg(a:gK):iq:=fun E K τ G=>a E τ G fun _ G1=>K.nx τ G1
def cE(a:gK):iq:=fun E K τ G=>a E τ G K.rt
def Q5:iq:=fun _ K _ G=>K.rt .fg G
def jF(c:yf)(a b:iq):iq:=fun E K τ G=>c E τ G fun k G1=>if k=true then a E K τ G1 else b E K τ G1
def Q7:iq:=fun _ _ _ _=>False
abbrev BZ:=nA->D->jc->Gp->(jc->Gp->Prop)->Prop
abbrev E6:=nA->List D->jc->Gp->(jc->Gp->Prop)->Prop
def aG(i:Nat):BZ:=fun _ d τ G Q=>Q (τ.set i (some d)) G
def hU:E6:=fun _ ds τ G Q=>match ds with
 | []=>Q τ G
 | _=>False
def cL(t:BZ)(r:E6):E6:=fun E ds τ G Q=>match ds with
 | d :: ds=>t E d τ G fun qO G1=>r E ds qO G1 Q
 | _=>False
def ig(t:E6):BZ:=fun E d τ G Q=>match d with
 | .tup ds=>t E ds τ G Q
 | _=>False
def Ah(o k d:D)(G:Gp)(Q:Gp->Prop):Prop:=match o with
 | .ref a=>(match G a with
  | some (.lst xs)=>(match k with
   | .int i=>(match LM xs.length i with
    | some j=>Q (dH G a (.lst (xs.set j d)))
    | none=>False)
   | _=>False)
  | some (.eW kvs)=>ie kvs k=true/\kvs.length < SZ/\Q (dH G a (.eW (put kvs k d)))
  | _=>False)
 | _=>False
def kb(o k:gK):BZ:=fun E d τ G Q=>o E τ G fun x G1=>k E τ G1 fun y G2=>Ah x y d G2 fun G3=>Q τ G3
def bB(a:gK)(g:BZ):iq:=fun E K τ G=>a E τ G fun x G1=>g E x τ G1 K.nx
abbrev NT:=nA->jc->Gp->(List D->(Gp->Prop)->Gp->Prop)->Prop
def ka(a:gK):NT:=fun E τ G R=>a E τ G fun x G1=>match x with
 | .tup ds=>R ds (fun _=>True) G1
 | .dN ds=>R ds (fun _=>True) G1
 | .ref p=>(match G1 p with
  | some (.lst ds)=>R ds (fun G2=>G2 p=some (.lst ds)) G1
  | _=>False)
 | _=>False
def ja(lo:Int)(n:Nat):List D:=(i0 n).map fun (i:Nat)=>D.int (lo+(i:Int))
def A7(a:gK):NT:=fun E τ G R=>a E τ G fun x G1=>match x with
 | .int n=>-(2 ^ 62)<=n/\n < 2 ^ 62/\R (ja 0 n.toNat) (fun _=>True) G1
 | _=>False
def rN(g:BZ)(body:iq)(ok:Gp->Prop):List D->iq
 | []=>fun _ K τ G=>ok G/\K.nx τ G
 | d :: r=>fun E K τ G=>ok G/\g E d τ G fun qO G1=>body E { K with nx:=rN g body ok r E K,ct:=rN g body ok r E K,bk:=K.nx } qO G1
def dF(i:NT)(g:BZ)(body:iq):iq:=fun E K τ G=>i E τ G fun ds ok G1=>rN g body ok ds E K τ G1
def FG(c:yf)(body:iq):Nat->iq
 | 0=>fun _ _ _ _=>False
 | n+1=>fun E K τ G=>c E τ G fun k G1=>if k=true then body E { K with nx:=FG c body n E K,ct:=FG c body n E K,bk:=K.nx } τ G1 else K.nx τ G1
def Ki(c:yf)(body:iq):iq:=fun E K τ G=>∃ n,FG c body n E K τ G
def j0(g:BZ)(c:Option yf)(e:gK)(ok:Gp->Prop):List D->nA->jc->Gp->List D->(List D->Gp->Prop)->Prop
 | [],_,_,G,acc,Q=>ok G/\Q acc G
 | d :: r,E,τ,G,acc,Q=>ok G/\g E d τ G fun qO G1=>match c with
  | none=>e E qO G1 fun x G2=>j0 g c e ok r E qO G2 (acc++[x]) Q
  | some c=>c E qO G1 fun k G2=>if k=true then e E qO G2 fun x G3=>j0 g (some c) e ok r E qO G3 (acc++[x]) Q else j0 g (some c) e ok r E qO G2 acc Q
def Bs(m:Nat)(fr:List Nat)(τ:jc):jc:=aR m none++fr.map fun i=>(τ[i]?).getD none
def gf(m:Nat)(fr:List Nat)(i:NT)(g:BZ)(c:Option yf)(e:gK):gK:=fun E τ G Q =>
 i E τ G fun ds ok G1=>ds.length<=SZ/\j0 g c e ok ds (fun _ _=>False) (Bs m fr τ) G1 [] fun xs G2=>gv G2 (.lst xs) Q
abbrev tI(ns:List Int):D:=.tup (ns.map D.int)
def aaB:List Int->Option Int
 | []=>none
 | a :: r=>some (r.foldl (fun m x=>if x < m then x else m) a)
def aaA:List (List Int)->Option (List Int)
 | []=>none
 | a :: r=>some (r.foldl (fun m x=>if lexLt x m=true then x else m) a)
def TX(ds:List D)(G:Gp)(Q:DK):Prop:=match ds with
 | [x]=>(∃ ns m,itemsOf x G=some (ns.map D.int)/\aaB ns=some m/\Q (.int m) G)\/∃ Zq m,itemsOf x G=some (Zq.map tI)/\aaA Zq=some m/\Q (tI m) G
 | _=>False
def lD:gK:=fun _ _ G Q=>gv G (.eW []) Q
def fh(G G':Gp):Prop:=∀ a o,G a=some o->G' a=some o
theorem fh.refl(G:Gp):fh G G:=fun _ _ h=>h
theorem fh.trans{G G1 G2:Gp}(a:fh G G1)(b:fh G1 G2):fh G G2:=fun c o h=>b c o (a c o h)
theorem fh.new{G:Gp}{p:Nat}{o:GO}(h:G p=none):fh G (dH G p o):=fun a ob e=>by
 by_cases ha:a=p
 ·subst ha; rw [h] at e; cases e
 ·rw [cw ha]; exact e
theorem fh.free{G G':Gp}{p:Nat}(l:fh G G')(h:G' p=none):G p=none:=by
 cases q:G p with
 | none=>rfl
 | some o=>rw [l p o q] at h; cases h
theorem fh.put{G G':Gp}{p:Nat}{o:GO}(l:fh G G')(h:G p=none):fh G (dH G' p o):=fun a ob e=>by
 by_cases ha:a=p
 ·subst ha; rw [h] at e; cases e
 ·rw [cw ha]; exact l a ob e
def ends(Q:DK):mK:=⟨fun _ G=>Q .fg G,Q,fun _ _=>False,fun _ _=>False⟩
def bg(n:Nat)(ds:List D):jc:=ds.map some++aR (n - ds.length) none
def R0(x:D)(G1:Gp)(R:List D->(Gp->Prop)->Gp->Prop):Prop:=match x with
 | .tup ds=>R ds (fun _=>True) G1
 | .dN ds=>R ds (fun _=>True) G1
 | .ref p=>(match G1 p with
  | some (.lst ds)=>R ds (fun G2=>G2 p=some (.lst ds)) G1
  | _=>False)
 | _=>False
def PD(x:D)(G1:Gp)(Q:Option Int->Gp->Prop):Prop:=match x with
 | .int i=>Q (some i) G1
 | _=>False
def pe(x:D)(G1:Gp)(Q:Bool->Gp->Prop):Prop:=match FJ x G1 with
 | some b=>Q b G1
 | none=>False
def Ul(x:D)(G1:Gp)(R:List D->(Gp->Prop)->Gp->Prop):Prop:=match x with
 | .int n=>-(2 ^ 62)<=n/\n < 2 ^ 62/\R (ja 0 n.toNat) (fun _=>True) G1
 | _=>False
def isAt(C:String)(x:D)(G1:Gp)(Q:DK):Prop:=match UG C x G1 with
 | some b=>Q (.bl b) G1
 | none=>False
theorem dq{i j:Int}{G:Gp}{Q:DK}:ic (.int i) (.int j) G Q=Q (.int (i+j)) G:=rfl
theorem vV{a b:List D}{G:Gp}{Q:DK}:ic (.tup a) (.tup b) G Q=(a≠[]/\a.length+b.length<=SZ/\Q (.tup (a++b)) G):=rfl
theorem sP{i j:Int}{G:Gp}{Q:DK}:SA (.int i) (.int j) G Q=Q (.int (i - j)) G:=rfl
theorem qp{i j:Int}{G:Gp}{Q:DK}:DW (.int i) (.int j) G Q=(MulOk i j/\Q (.int (i * j)) G):=rfl
theorem iU{i j:Int}{G:Gp}{Q:DK}:sR (.int i) (.int j) G Q=(0 < j/\Q (.int (i % j)) G):=rfl
theorem jK{i j:Int}{G:Gp}{Q:DK}:yB (.int i) (.int j) G Q=(0 < j/\j < 2 ^ 30/\Q (.int (i / j)) G):=rfl
theorem vT{i:Int}{G:Gp}{Q:DK}:Vy (.int i) G Q=Q (.int (-i)) G:=rfl
theorem zB{i j:Int}{G:Gp}{Q:DK}:Zm (.int i) (.int j) G Q=Q (.bl (decide (i < j))) G:=rfl
theorem DX{i j:Int}{G:Gp}{Q:DK}:rLe (.int i) (.int j) G Q=Q (.bl (decide (i<=j))) G:=rfl
theorem zC{i j:Int}{G:Gp}{Q:DK}:rGt (.int i) (.int j) G Q=Q (.bl (decide (i > j))) G:=rfl
theorem DZ{i j:Int}{G:Gp}{Q:DK}:rGe (.int i) (.int j) G Q=Q (.bl (decide (i>=j))) G:=rfl
theorem SE{ds:List D}{i:Int}{d:D}{G:Gp}{Q:DK}(h:uf ds i=some d):mD (.dN ds) (.int i) G Q=Q d G:=by unfold mD; simp only [h]
theorem SF{a:Nat}{ds:List D}{i:Int}{d:D}{G:Gp}{Q:DK}(h1:G a=some (.lst ds))(h:uf ds i=some d):mD (.ref a) (.int i) G Q=Q d G:=by unfold mD; simp only [h1,h]
theorem SG{a:Nat}{kvs:List (D×D)}{k d:D}{G:Gp}{Q:DK}(h1:G a=some (.eW kvs))(h0:ie kvs k=true)(h:look kvs k=some d):mD (.ref a) k G Q=Q d G:=by unfold mD; simp only [h1,h,h0,true_and]
theorem tR{ds:List D}{lo hi:Option Int}{G:Gp}{Q:DK}:RW (.tup ds) lo hi G Q=(¬ (kn ds.length 0 lo=0/\kn ds.length ds.length hi=ds.length)/\Q (.tup (cut ds lo hi)) G):=rfl
theorem zy{ds:List D}{lo hi:Option Int}{G:Gp}{Q:DK}:RW (.dN ds) lo hi G Q=gv G (.lst (cut ds lo hi)) Q:=rfl
theorem SD{a:Nat}{ds:List D}{lo hi:Option Int}{G:Gp}{Q:DK}(h:G a=some (.lst ds)):RW (.ref a) lo hi G Q=gv G (.lst (cut ds lo hi)) Q:=by unfold RW; simp only [h]
theorem tG{ds:List D}{G:Gp}{Q:DK}:sd [.dN ds] G Q=Q (.int (ds.length:Int)) G:=rfl
theorem Bz{ds:List D}{G:Gp}{Q:DK}:sd [.tup ds] G Q=Q (.int (ds.length:Int)) G:=rfl
theorem HP{a:Nat}{ds:List D}{G:Gp}{Q:DK}(h:G a=some (.lst ds)):sd [.ref a] G Q=Q (.int (ds.length:Int)) G:=by unfold sd lenOf; simp only [h]
theorem dM{a:gK}{E:nA}{τ:jc}{G:Gp}{R:List D->(Gp->Prop)->Gp->Prop}:ka a E τ G R=a E τ G fun x G1=>R0 x G1 R:=by
 unfold ka R0; rfl
theorem nT{ds:List D}{G:Gp}{R:List D->(Gp->Prop)->Gp->Prop}:R0 (.dN ds) G R=R ds (fun _=>True) G:=rfl
theorem wy{ds:List D}{G:Gp}{R:List D->(Gp->Prop)->Gp->Prop}:R0 (.tup ds) G R=R ds (fun _=>True) G:=rfl
theorem En{a:Nat}{ds:List D}{G:Gp}{R:List D->(Gp->Prop)->Gp->Prop}(h:G a=some (.lst ds)):R0 (.ref a) G R=R ds (fun G2=>G2 a=some (.lst ds)) G:=by unfold R0; simp only [h]
theorem jE{t:gK}{E:nA}{τ:jc}{G:Gp}{Q:Option Int->Gp->Prop}:nH t E τ G Q=t E τ G fun x G1=>PD x G1 Q:=rfl
theorem fU{i:Int}{G:Gp}{Q:Option Int->Gp->Prop}:PD (.int i) G Q=Q (some i) G:=rfl
theorem eD{a:gK}{E:nA}{τ:jc}{G:Gp}{Q:Bool->Gp->Prop}:jD a E τ G Q=a E τ G fun x G1=>pe x G1 Q:=rfl
theorem b9{b:Bool}{G:Gp}{Q:Bool->Gp->Prop}:pe (.bl b) G Q=Q b G:=rfl
theorem MB{a:Nat}{ds:List D}{G:Gp}{Q:Bool->Gp->Prop}(h:G a=some (.lst ds)):pe (.ref a) G Q=Q (!ds.isEmpty) G:=by unfold pe FJ; simp only [h]
theorem qA{a:gK}{E:nA}{τ:jc}{G:Gp}{R:List D->(Gp->Prop)->Gp->Prop}:A7 a E τ G R=a E τ G fun x G1=>Ul x G1 R:=rfl
theorem oj{n:Int}{G:Gp}{R:List D->(Gp->Prop)->Gp->Prop}:Ul (.int n) G R=(-(2 ^ 62)<=n/\n < 2 ^ 62/\R (ja 0 n.toNat) (fun _=>True) G):=rfl
theorem wO{C:String}{a:gK}{E:nA}{τ:jc}{G:Gp}{Q:DK}:Q9 C a E τ G Q=a E τ G fun x G1=>isAt C x G1 Q:=rfl
theorem wm {C:String} {i:Int} {G:Gp} {Q:DK}:isAt C (.int i) G Q=Q (.bl (C == "int")) G:=rfl
theorem A6 {C:String} {ds:List D} {G:Gp} {Q:DK}:isAt C (.tup ds) G Q=Q (.bl (C == "tuple")) G:=rfl
theorem tE{a b:gK}{E:nA}{τ:jc}{G:Gp}{Q:DK}:HB a b E τ G Q=a E τ G fun x G1=>pe x G1 fun k G2=>if k=true then b E τ G2 Q else Q x G2:=by
 unfold HB pe;refine congrArg (a E τ G) ?_;funext x G1;cases FJ x G1 with
 | none=>rfl
 | some k=>cases k <;> simp
theorem EJ{a b:gK}{E:nA}{τ:jc}{G:Gp}{Q:DK}:YT a b E τ G Q=a E τ G fun x G1=>pe x G1 fun k G2=>if k=true then Q x G2 else b E τ G2 Q:=by
 unfold YT pe;refine congrArg (a E τ G) ?_;funext x G1;cases FJ x G1 with
 | none=>rfl
 | some k=>cases k <;> simp
theorem wN{a:gK}{E:nA}{τ:jc}{G:Gp}{Q:DK}:Q6 a E τ G Q=a E τ G fun x G1=>pe x G1 fun k G2=>Q (.bl (!k)) G2:=rfl
theorem sT{a:Nat}{y:D}{G:Gp}{Q:DK}:ic (.ref a) y G Q=yd (.ref a) y G Q:=by cases y <;> rfl
theorem qt{a:List D}{y:D}{G:Gp}{Q:DK}:ic (.dN a) y G Q=yd (.dN a) y G Q:=by cases y <;> rfl
theorem zA{a:Nat}{lo hi:Option Int}{G:Gp}{Q:DK}:RW (.ref a) lo hi G Q=(match G a with
  | some (.lst ds)=>gv G (.lst (cut ds lo hi)) Q
  | _=>False):=rfl
theorem DY{a:Nat}{k:D}{G:Gp}{Q:DK}:mD (.ref a) k G Q=(match G a with
  | some (.lst ds)=>(match k with
   | .int i=>(match uf ds i with
    | some d=>Q d G
    | none=>False)
   | _=>False)
  | some (.eW kvs)=>ie kvs k=true/\(match look kvs k with
   | some d=>Q d G
   | none=>False)
  | _=>False):=by unfold mD; cases k <;> rfl
theorem jv{ds:List D}{i:Int}{G:Gp}{Q:DK}:mD (.tup ds) (.int i) G Q=(match uf ds i with
  | some d=>Q d G
  | none=>False):=rfl
theorem mC{ds:List D}{i:Int}{G:Gp}{Q:DK}:mD (.dN ds) (.int i) G Q=(match uf ds i with
  | some d=>Q d G
  | none=>False):=rfl
theorem yb{a:Nat}{G:Gp}{Q:DK}:wW [.ref a] G Q=(match G a with
  | some (.lst ds)=>gv G (.lst ds) Q
  | _=>False):=by
 unfold wW itemsOf;cases h:G a with
 | none=>simp only [h]
 | some g=>cases g <;> simp only [h]
theorem iM{a:Nat}{d:D}{G:Gp}{Q:DK}:mr (.ref a) [d] G Q=(match G a with
  | some (.lst xs)=>xs.length < SZ/\Q .fg (dH G a (.lst (xs++[d])))
  | _=>False):=rfl
theorem kU{a:Nat}{y:D}{G:Gp}{Q:DK}:t6 (.ref a) [y] G Q=(match G a,mE y G with
  | some (.lst xs),some ys=>xs.length+ys.length<=SZ/\Q .fg (dH G a (.lst (xs++ys)))
  | _,_=>False):=rfl
theorem sY{a:Nat}{i:Int}{d:D}{G:Gp}{Q:DK}:Td (.ref a) [.int i,d] G Q=(match G a with
  | some (.lst xs)=>0<=i/\i<=xs.length/\xs.length < SZ/\Q .fg (dH G a (.lst (xs.take i.toNat++d :: xs.drop i.toNat)))
  | _=>False):=rfl
theorem ni{a:Nat}{k d:D}{G:Gp}{Q:DK}:GC (.ref a) [k,d] G Q=(match G a with
  | some (.eW kvs)=>ie kvs k=true/\dE k=true/\(match look kvs k with
   | some v=>Q v G
   | none=>kvs.length < SZ/\Q d (dH G a (.eW (put kvs k d))))
  | _=>False):=rfl
theorem Qr{C:String}{p:Nat}{G:Gp}{Q:DK}:isAt C (.ref p) G Q=(match G p with
  | some (.lst _)=>Q (.bl (C == "list")) G
  | some (.eW _)=>Q (.bl (C == "dict")) G
  | _=>False):=by
 unfold isAt UG;cases h:G p with
 | none=>simp only [h]
 | some g=>cases g <;> simp only [h]
theorem Ek {C:String} {b:Bool} {G:Gp} {Q:DK}:isAt C (.bl b) G Q=Q (.bl (C == "bool" || C == "int")) G:=rfl
theorem k7{a:Nat}{G:Gp}:DO (.ref a) G=(match G a with
  | some (.lst _)=>True
  | _=>False):=rfl
theorem qQ{a:Nat}{G:Gp}:RS (.ref a) G=(match G a with
  | some (.eW _)=>True
  | _=>False):=rfl
theorem DN{ds:List D}{G:Gp}:DO (.dN ds) G=True:=rfl
theorem tS{kvs:List (D×D)}{k:D}{G:Gp}{Q:DK}:mD (.iL kvs) k G Q=(ie kvs k=true/\(match look kvs k with
  | some d=>Q d G
  | none=>False)):=by unfold mD; cases k <;> rfl
theorem DM{x:Str}{G:Gp}:tyS (.str x) G=True:=rfl
def Cj(R:Nat->Bool)(G:Gp):Gp:=fun a=>if R a=true then none else G a
mutual
inductive Fz (G:Gp) (R:Nat->Bool):D->D->Prop
 | same (d:D):Fz G R d d
 | tup {ds ss:List D}:Fq G R ds ss->Fz G R (.tup ds) (.tup ss)
 | dN {ds ss:List D}:Fq G R ds ss->Fz G R (.dN ds) (.dN ss)
 | ref {a:Nat} {ds ss:List D}:G a=some (.lst ds)->R a=true->Fq G R ds ss->Fz G R (.ref a) (.dN ss)
 | eW {a:Nat} {kvs GR:List (D×D)}:G a=some (.eW kvs)->R a=true->Ky G R kvs GR->Fz G R (.ref a) (.iL GR)
 | ua {a:Nat} {kvs GR:List (PK×D)}:G a=some (.ua kvs)->R a=true->Fq G R (kvs.map fun p=>p.2) (GR.map fun p=>p.2)->kvs.map (fun p=>p.1)=GR.map (fun p=>p.1)->Fz G R (.ref a) (.oY GR)
inductive Fq (G:Gp) (R:Nat->Bool):List D->List D->Prop
 | nil:Fq G R [] []
 | cons {d s:D} {ds ss:List D}:Fz G R d s->Fq G R ds ss->Fq G R (d :: ds) (s :: ss)
inductive Ky (G:Gp) (R:Nat->Bool):List (D×D)->List (D×D)->Prop
 | nil:Ky G R [] []
 | cons {k d s:D} {ds ss:List (D×D)}:Fz G R d s->Ky G R ds ss->Ky G R ((k,d) :: ds) ((k,s) :: ss)
end
theorem Ky.same{G:Gp}{R:Nat->Bool}:∀ (kvs:List (D×D)),Ky G R kvs kvs
 | []=>.nil
 | (k,v) :: r=>.cons (.same v) (Ky.same r)
def Oo(G:Gp)(x:D)(Q:DK):Prop:=∃ (R:Nat->Bool) (t:D),Fz G R x t/\Q t (Cj R G)
def cJ(e:gK):gK:=fun E τ G Q=>e E τ G fun x G1=>Oo G1 x Q
def EK(i:Nat)(t:iq):iq:=fun E K τ G=>t E { K with nx:=fun qO G1=>match qO[i]? with
 | some (some d)=>Oo G1 d fun t G2=>K.nx (qO.set i (some t)) G2
 | _=>False } τ G
theorem Fq.same{G:Gp}{R:Nat->Bool}:∀ (ds:List D),Fq G R ds ds
 | []=>.nil
 | d :: ds=>.cons (.same d) (Fq.same ds)
theorem wM{G G1:Gp}(l:fh G G1):Cj (fun a=>(G a).isNone) G1=G:=by
 funext a;unfold Cj;cases h:G a with
 | none=>simp [h]
 | some o=>simp [l a o h,h]
theorem NK{G G1:Gp}{p:Nat}{o:GO}(l:fh G G1)(hp:G p=none)(h1:G1 p=some o):Cj (fun a=>(G a).isNone&&decide (a≠p)) G1=dH G p o:=by
 funext a;unfold Cj dH;by_cases ha:a=p
 ·subst ha; simp [h1]
 ·cases h:G a with
  | none=>simp [ha,h]
  | some o=>simp [l a o h,ha,h]
theorem du{G:Gp}{d:D}{Q:DK}(q:Q d G):Oo G d Q:=⟨fun _=>false,d,.same d,by
 have e:Cj (fun _=>false) G=G:=by funext a; simp [Cj]
 rw [e]; exact q⟩
theorem wB{G G1:Gp}{d:D}{Q:DK}(l:fh G G1)(q:Q d G):Oo G1 d Q:=⟨_,d,.same d,by rw [wM l]; exact q⟩
theorem QI{G G1:Gp}{p:Nat}{o:GO}{Q:DK}(l:fh G G1)(hp:G p=none)(h1:G1 p=some o)(q:Q (.ref p) (dH G p o)):Oo G1 (.ref p) Q :=
 ⟨_,.ref p,.same _,by rw [NK l hp h1]; exact q⟩
theorem vb{G G1:Gp}{p:Nat}{ds ss:List D}{Q:DK}(l:fh G G1)(hp:G p=none)(h1:G1 p=some (.lst ds))(hs:Fq G1 (fun a=>(G a).isNone) ds ss)(q:Q (.dN ss) G):Oo G1 (.ref p) Q :=
 ⟨_,.dN ss,.ref h1 (by simp [hp]) hs,by rw [wM l]; exact q⟩
theorem gu{G G1:Gp}{p:Nat}{kvs:List (D×D)}{Q:DK}(l:fh G G1)(hp:G p=none)(h1:G1 p=some (.eW kvs))(q:Q (.iL kvs) G):Oo G1 (.ref p) Q :=
 ⟨fun a=>(G a).isNone,.iL kvs,.eW h1 (by simp [hp]) (.same _),by rw [wM l]; exact q⟩
def CH:kC:=fun ds G Q _=>∃ ns:List Int,ds=[.dN (ns.map D.int)]/\ns.length<=63/\(∀ a,G a=none)/\∀ G',Q (.bl true) G'
theorem eG{a b:iq}{E:nA}{K:mK}{τ:jc}{G:Gp}(P:jc->Gp->Prop)(h1:∀ N,(∀ τ G,P τ G->N τ G)->a E { K with nx:=N } τ G)(h2:∀ τ G,P τ G->b E K τ G):bY a b E K τ G:=h1 (b E K) h2
theorem vI{a b:iq}{E:nA}{K:mK}{τ:jc}{G:Gp}:bY a b E K τ G=a E { K with nx:=b E K } τ G:=rfl
theorem cx{a:gK}{g:BZ}{b:iq}{E:nA}{K:mK}{τ:jc}{G:Gp}:bY (bB a g) b E K τ G=bB a g E { K with nx:=b E K } τ G:=rfl
theorem vJ{a:gK}{b:iq}{E:nA}{K:mK}{τ:jc}{G:Gp}:bY (jg a) b E K τ G=jg a E { K with nx:=b E K } τ G:=rfl
theorem QJ{g:BZ}{body:iq}{ok:Gp->Prop}{ds:List D}{E:nA}{K:mK}{τ:jc}{G:Gp}(I:List D->jc->Gp->Prop)
  (h0:I [] τ G) (cu:∀ pre τ G,I pre τ G->ok G)
  (step:∀ (pre:List D) (d:D) (post:List D) τ G (N:jc->Gp->Prop),ds=pre++d :: post->I pre τ G->(∀ xr G2,I (pre++[d]) xr G2->N xr G2) ->
   g E d τ G fun qO G1=>body E { K with nx:=N,ct:=N,bk:=K.nx } qO G1)
  (fin:∀ τ G,I ds τ G->K.nx τ G):rN g body ok ds E K τ G:=by
 have main:∀ (post pre:List D) τ G,ds=pre++post->I pre τ G->rN g body ok post E K τ G:=by
  intro post;induction post with
  | nil =>
   intro pre τ G e h;rw [cj] at e;subst e;exact⟨cu _ _ _ h,fin _ _ h⟩
  | cons d post ih =>
   intro pre τ G e h;refine⟨cu _ _ _ h,?_⟩;exact step pre d post τ G _ e h fun xr G2 h2=>ih (pre++[d]) xr G2 (by rw [e,bP]; rfl) h2
 exact main ds [] τ G rfl h0
theorem TK{g:BZ}{c:Option yf}{e:gK}{ok:Gp->Prop}{ds:List D}{E:nA}{τ:jc}{G:Gp}{Q:List D->Gp->Prop}(I:List D->List D->jc->Gp->Prop)
  (h0:I [] [] τ G) (cu:∀ pre acc τ G,I pre acc τ G->ok G)
  (step:∀ (pre:List D) (d:D) (post acc:List D) τ G (N:jc->List D->Gp->Prop),ds=pre++d :: post->I pre acc τ G->(∀ xr ye G2,I (pre++[d]) ye xr G2->N xr ye G2) ->
   g E d τ G fun qO G1=>match c with
    | none=>e E qO G1 fun x G2=>N qO (acc++[x]) G2
    | some c=>c E qO G1 fun k G2=>if k=true then e E qO G2 fun x G3=>N qO (acc++[x]) G3 else N qO acc G2)
  (fin:∀ acc τ G,I ds acc τ G->Q acc G):j0 g c e ok ds E τ G [] Q:=by
 have main:∀ (post pre acc:List D) τ G,ds=pre++post->I pre acc τ G->j0 g c e ok post E τ G acc Q:=by
  intro post;induction post with
  | nil =>
   intro pre acc τ G e h;rw [cj] at e;subst e;exact⟨cu _ _ _ _ h,fin _ _ _ h⟩
  | cons d post ih =>
   intro pre acc τ G e' h;refine⟨cu _ _ _ _ h,?_⟩;have:=step pre d post acc τ G (fun xr ye G2=>j0 g c e ok post E xr G2 ye Q) e' h fun xr ye G2 h2=>ih (pre++[d]) ye xr G2 (by rw [e',bP]; rfl) h2;cases c with
   | none=>exact this
   | some c=>exact this
 exact main ds [] [] τ G rfl h0
theorem Sn.rI{G:Gp}{n:Nat}:∀ (ns:List Int),Sn G (n+1) (.dN (ns.map D.int)) (.dN (ns.map D.int))
 | []=>.MM
 | i :: ns=>.CN (.int i) (Sn.rI ns)
theorem rm(a b:D)(r t:List D):mH (a :: r) (b :: t)=(jj a b&&mH r t):=rfl
theorem nk(a b:Int):jj (.int a) (.int b)=(a == b):=rfl
theorem Kf(a b:List D):jj (.tup a) (.tup b)=mH a b:=rfl
theorem HA{α:Type} [DecidableEq α](a b:α)(as bs:List α):(decide (a=b)&&decide (as=bs))=decide (a :: as=b :: bs):=by
 by_cases h:a=b <;> by_cases h2:as=bs <;> simp [h,h2]
set_option genInjectivity true in structure T2 where
 a:Int
 b:Int
 deriving DecidableEq
set_option genInjectivity true in structure T3 where
 a:Int
 b:Int
 c:Int
 deriving DecidableEq
class Enc (α:Type) [DecidableEq α] where
 enc:α->D
 dep:Nat
 eqv:∀ a b,jj (enc a) (enc b)=decide (a=b)
 sn:∀ (G:Gp) (n:Nat) (a:α),dep<=n->Sn G n (enc a) (enc a)
open Enc (enc)
instance:Enc Int where
 enc:=D.int
 dep:=0
 eqv:=fun a b=>rfl
 sn:=fun G n a _=>.int a
instance:Enc Bool where
 enc:=D.bl
 dep:=0
 eqv:=fun a b=>RQ a b
 sn:=fun G n a _=>.bl a
instance:Enc T2 where
 enc:=fun t=>.tup [.int t.a,.int t.b]
 dep:=1
 eqv:=fun x y=>by
  cases x; cases y;rw [Kf,rm,rm,nk,nk]; simp only [T2.mk.injEq]; rename_i a b c d; by_cases h:a=c <;> by_cases h2:b=d <;> simp [h,h2,show mH [] []=true from rfl]
 sn:=fun G n t h=>by
  obtain⟨m,rfl⟩:∃ m,n=m+1:=⟨n - 1,by lia⟩;exact .sH (.int _) (.sH (.int _) .I0)
instance:Enc T3 where
 enc:=fun t=>.tup [.int t.a,.int t.b,.int t.c]
 dep:=1
 eqv:=fun x y=>by
  cases x; cases y;rw [Kf,rm,rm,rm,nk,nk,nk]; simp only [T3.mk.injEq]; rename_i a b e c d f; by_cases h:a=c <;> by_cases h2:b=d <;> by_cases h3:e=f <;> simp [h,h2,h3,show mH [] []=true from rfl]
 sn:=fun G n t h=>by
  obtain⟨m,rfl⟩:∃ m,n=m+1:=⟨n - 1,by lia⟩;exact .sH (.int _) (.sH (.int _) (.sH (.int _) .I0))
instance {α β:Type} [DecidableEq α] [DecidableEq β] [Enc α] [Enc β]:Enc (α×β) where
 enc:=fun t=>.tup [enc t.1,enc t.2]
 dep:=max (Enc.dep α) (Enc.dep β)+1
 eqv:=fun x y=>by
  cases x; cases y;rw [Kf,rm,rm,Enc.eqv,Enc.eqv]; simp only [Prod.mk.injEq]; rename_i a b c d; by_cases h:a=c <;> by_cases h2:b=d <;> simp [h,h2,show mH [] []=true from rfl]
 sn:=fun G n t h=>by
  obtain⟨m,rfl⟩:∃ m,n=m+1:=⟨n - 1,by lia⟩;exact .sH (Enc.sn _ _ _ (by lia)) (.sH (Enc.sn _ _ _ (by lia)) .I0)
theorem Hx{α:Type} [DecidableEq α] [Enc α]:∀ (a b:List α),mH (a.map enc) (b.map enc)=decide (a=b)
 | [],[]=>(decide_eq_true rfl).symm
 | [],b :: bs=>(decide_eq_false (fun z=>nomatch z)).symm
 | a :: as,[]=>(decide_eq_false (fun z=>nomatch z)).symm
 | a :: as,b :: bs=>by
  show (jj (enc a) (enc b)&&mH (as.map enc) (bs.map enc))=_;rw [Enc.eqv,Hx as bs,HA]
theorem Jg{α:Type} [DecidableEq α] [Enc α](G:Gp)(n:Nat)(h:Enc.dep α<=n):∀ (xs:List α),Sn G (n+1) (.dN (xs.map enc)) (.dN (xs.map enc))
 | []=>.MM
 | a :: as=>.CN (Enc.sn _ _ _ h) (Jg G n h as)
instance {α:Type} [DecidableEq α] [Enc α]:Enc (List α) where
 enc:=fun xs=>.dN (xs.map enc)
 dep:=Enc.dep α+1
 eqv:=fun a b=>by
  show mH _ _=_;exact Hx a b
 sn:=fun G n t h=>by
  obtain⟨m,rfl⟩:∃ m,n=m+1:=⟨n - 1,by lia⟩;exact Jg G m (by lia) t
section
variable {α:Type} [DecidableEq α] [Enc α]
theorem Me(L:List α)(t:α):(L.map enc).any (jj · (enc t))=decide (t∈L):=by
 induction L with
 | nil=>simp
 | cons a r ih =>
  simp only [ak,mS,Enc.eqv,ih,bb];by_cases h:a=t
  ·simp [h]
  ·have h':¬ t=a:=fun z=>h z.symm;by_cases h2:t∈r <;> simp [h,h',h2]
end
section
variable {κ α:Type} [DecidableEq κ] [Enc κ] [DecidableEq α] [Enc α]
def aT(l:List (κ×α)):List (D×D):=l.map fun p=>(enc p.1,enc p.2)
def bH(l:List (κ×α))(k:κ):Option α:=(l.find? fun p=>p.1=k).map (·.2)
def df(l:List (κ×α))(k:κ)(v:α):List (κ×α):=if (l.any fun p=>p.1=k)=true then l.map (fun p=>if p.1=k then (p.1,v) else p) else l++[(k,v)]
theorem mF(l:List (κ×α))(k:κ):look (aT l) (enc k)=(bH l k).map enc:=by
 unfold look bH aT;induction l with
 | nil=>rfl
 | cons p r ih =>
  rw [ak,dD,dD];simp only [Enc.eqv];by_cases h:p.1=k
  ·simp [h]
  ·simp only [h,decide_false]; exact ih
theorem Lf(l:List (κ×α))(k:κ)(v:α):put (aT l) (enc k) (enc v)=aT (df l k v):=by
 unfold put df;have e:((aT l).any fun p=>jj p.1 (enc k))=l.any fun p=>decide (p.1=k):=by
  unfold aT; rw [List.any_map]; congr 1; funext p; exact Enc.eqv _ _
 rw [e];split
 ·unfold aT; rw [bh,bh];refine dB fun p _=>?_;simp only [Function.comp,Enc.eqv,decide_eq_true_eq];split <;> rfl
 ·unfold aT; rw [aL]; rfl
theorem md(l:List (κ×α))(k j:κ)(v:α):bH (df l k v) j=if k=j then some v else bH l j:=by
 unfold df;split
 ·rename_i h;unfold bH;induction l with
  | nil=>simp at h
  | cons p r ih =>
   rw [ak,dD,dD];by_cases h1:p.1=k
   ·rw [if_pos h1];by_cases h2:k=j
    ·simp [h1,h2]
    ·have:¬ p.1=j:=fun z=>h2 (h1.symm.trans z);simp only [this,decide_false,h2,if_false];by_cases h3:(r.any fun p=>decide (p.1=k))=true
     ·have:=ih h3;rw [if_neg h2] at this;exact this
     ·congr 1;have:r.map (fun p=>if p.1=k then (p.1,v) else p)=r:=by
       conv=>rhs; rw [<-lI r]
       refine dB fun q hq=>?_;rw [if_neg]; rfl;intro z; exact h3 (List.any_eq_true.mpr ⟨q,hq,by simpa using z⟩)
      rw [this]
   ·rw [if_neg h1];have h3:(r.any fun p=>decide (p.1=k))=true:=by simpa [h1] using h
    by_cases h2:p.1=j
    ·have:¬ k=j:=fun z=>h1 (h2.trans z.symm);simp [h2,this]
    ·simp only [h2,decide_false]; exact ih h3
 ·rename_i h;unfold bH;rw [List.find?_append];by_cases h2:k=j
  ·subst h2;have:l.find? (fun p=>decide (p.1=k))=none:=by
    rw [fE];intro p hp z;exact h (List.any_eq_true.mpr ⟨p,hp,z⟩)
   rw [this]; simp
  ·simp [h2]
theorem oO(l:List (κ×α))(k:κ)(v:α):(df l k v).length<=l.length+1:=by
 unfold df; split <;> simp
end
class qf (κ:Type) [DecidableEq κ] [Enc κ] where
 ok:(∀ k:κ,dE (enc k)=true)\/∀ k:κ,ly (enc k)=true
instance:qf Int:=⟨.inl fun _=>rfl⟩
instance:qf T2:=⟨.inr fun _=>rfl⟩
instance:qf T3:=⟨.inr fun _=>rfl⟩
theorem iP{κ α:Type} [DecidableEq κ] [Enc κ] [qf κ] [DecidableEq α] [Enc α](l:List (κ×α))(k:κ):ie (aT l) (enc k)=true:=by
 unfold ie aT;rcases qf.ok (κ:=κ) with h | h
 ·rw [qI]; left;rw [h k,Bool.true_and,lO,eY];intro p _; exact h p.1
 ·rw [qI]; right;rw [h k,Bool.true_and,lO,eY];intro p _; exact h p.1
end K2
end
section
namespace K2
open PySem (Str)
open Enc (enc)
mutual
def qJ:D->D->Bool
 | .int a,.int b=>decide (a < b)
 | .tup a,.tup b=>nR a b
 | .dN a,.dN b=>nR a b
 | _,_=>false
def nR:List D->List D->Bool
 | [],[]=>false
 | [],_ :: _=>true
 | _ :: _,[]=>false
 | x :: xs,y :: ys=>if jj x y=true then nR xs ys else qJ x y
end
theorem oI(x y:D)(xs ys:List D):nR (x :: xs) (y :: ys)=if jj x y=true then nR xs ys else qJ x y:=rfl
theorem P2(a b:Int):qJ (.int a) (.int b)=decide (a < b):=rfl
inductive pE where
 | int | tup (l:List pE) | lst (s:pE)
mutual
def cZ:pE->D->Bool
 | .int,.int _=>true
 | .tup l,.tup ds=>fQ l ds
 | .lst s,.dN ds=>iD s ds
 | _,_=>false
def fQ:List pE->List D->Bool
 | [],[]=>true
 | s :: l,d :: ds=>cZ s d&&fQ l ds
 | _,_=>false
def iD:pE->List D->Bool
 | _,[]=>true
 | s,d :: ds=>cZ s d&&iD s ds
end
theorem dS{a:D}(h:cZ .int a=true):∃ i,a=.int i:=by cases a <;> first | exact⟨_,rfl⟩ | exact aW (show false=true from h)
theorem dP{l:List pE}{a:D}(h:cZ (.tup l) a=true):∃ x,a=.tup x:=by cases a <;> first | exact⟨_,rfl⟩ | exact aW (show false=true from h)
theorem dQ{l:pE}{a:D}(h:cZ (.lst l) a=true):∃ x,a=.dN x:=by cases a <;> first | exact⟨_,rfl⟩ | exact aW (show false=true from h)
mutual
def UW:pE->Nat
 | .int=>0
 | .tup l=>QZ l+1
 | .lst s=>UW s+1
def QZ:List pE->Nat
 | []=>0
 | s :: l=>max (UW s) (QZ l)
end
def PL(sh:pE):Bool:=decide (UW sh<=7)&&(match sh with
 | .tup []=>false
 | _=>true)
def RX(a b:D):Bool:=!qJ b a
def sI(ds:List D):List D:=ds.mergeSort RX
def pC(ds:List D)(G:Gp)(Q:DK):Prop:=match ds with
 | [x]=>∃ (sh:pE) (xs:List D),DO x G/\itemsOf x G=some xs/\xs.all (cZ sh)=true/\PL sh=true/\xs.length < 64/\gv G (.lst (sI xs)) Q
 | _=>False
class bo (α:Type) [DecidableEq α] [Enc α] where
 lt:α->α->Bool
 BV:pE
 Er:∀ a:α,cZ BV (enc a)=true
 Tf:∀ a b:α,qJ (enc a) (enc b)=lt a b
 JS:∀ a,lt a a=false
 trans:∀ a b c,lt a b=true->lt b c=true->lt a c=true
 pg:∀ a b,lt a b=false->lt b a=false->a=b
instance:bo Int where
 lt:=fun a b=>decide (a < b)
 BV:=.int
 Er:=fun _=>rfl
 Tf:=fun a b=>rfl
 JS:=fun a=>by simp
 trans:=fun a b c h1 h2=>by simp at *; lia
 pg:=fun a b h1 h2=>by simp at *; lia
def u5{α:Type} [DecidableEq α](lt:α->α->Bool):List α->List α->Bool
 | [],[]=>false
 | [],_ :: _=>true
 | _ :: _,[]=>false
 | x :: xs,y :: ys=>if x=y then u5 lt xs ys else lt x y
theorem xO{α:Type} [DecidableEq α](lt:α->α->Bool)(x y:α)(xs ys:List α):u5 lt (x :: xs) (y :: ys)=if x=y then u5 lt xs ys else lt x y:=rfl
section
variable {α:Type} [DecidableEq α] {lt:α->α->Bool}
theorem wb:∀ x:List α,u5 lt x x=false
 | []=>rfl
 | a :: x=>by simp only [xO,if_true]; exact wb x
theorem wa(t:∀ a b,lt a b=false->lt b a=false->a=b):∀ (x y:List α),u5 lt x y=false->u5 lt y x=false->x=y
 | [],[],_,_=>rfl
 | [],_ :: _,h,_=>by cases h
 | _ :: _,[],_,h=>by cases h
 | a :: x,b :: y,h1,h2=>by
  simp only [xO] at h1 h2;by_cases e:a=b
  ·subst e;simp only [if_true] at h1 h2;rw [wa t x y h1 h2]
  ·rw [if_neg e] at h1;rw [if_neg (dG e)] at h2;exact absurd (t a b h1 h2) e
theorem qZ(ir:∀ a,lt a a=false)(tr:∀ a b c,lt a b=true->lt b c=true->lt a c=true):∀ (x y z:List α),u5 lt x y=true->u5 lt y z=true->u5 lt x z=true
 | [],[],_,h,_=>by cases h
 | [],_ :: _,[],_,h=>by cases h
 | [],_ :: _,_ :: _,_,_=>rfl
 | _ :: _,[],_,h,_=>by cases h
 | _ :: _,_ :: _,[],_,h=>by cases h
 | a :: x,b :: y,c :: z,h1,h2=>by
  simp only [xO] at h1 h2 ⊢;by_cases e1:a=b
  ·subst e1;simp only [if_true] at h1;by_cases e2:a=c
   ·subst e2;simp only [if_true] at h2 ⊢;exact qZ ir tr x y z h1 h2
   ·rw [if_neg e2] at h2 ⊢; exact h2
  ·rw [if_neg e1] at h1;by_cases e2:b=c
   ·subst e2;rw [if_neg e1]; exact h1
   ·rw [if_neg e2] at h2;have h3:=tr _ _ _ h1 h2;rw [if_neg (by rintro rfl; rw [ir] at h3; cases h3)]; exact h3
end
theorem v7{α:Type} [DecidableEq α] [Enc α] [bo α]:∀ (x y:List α),nR (x.map enc) (y.map enc)=u5 (bo.lt (α:=α)) x y
 | [],[]=>rfl
 | [],_ :: _=>rfl
 | _ :: _,[]=>rfl
 | a :: x,b :: y=>by simp only [ak,oI,xO,Enc.eqv,v7 x y,bo.Tf,decide_eq_true_eq]
theorem C5{α:Type} [DecidableEq α] [Enc α] [bo α]:∀ (x:List α),iD (bo.BV α) (x.map enc)=true
 | []=>rfl
 | a :: x=>by simp only [ak,iD,bo.Er,C5 x,Bool.and_self]
instance {α:Type} [DecidableEq α] [Enc α] [bo α]:bo (List α) where
 lt:=u5 bo.lt
 BV:=.lst (bo.BV α)
 Er:=fun a=>C5 a
 Tf:=fun a b=>v7 a b
 JS:=wb
 trans:=qZ bo.JS bo.trans
 pg:=wa bo.pg
def T2.l(t:T2):List Int:=[t.a,t.b]
def T3.l(t:T3):List Int:=[t.a,t.b,t.c]
instance:bo T2 where
 lt:=fun x y=>u5 (fun a b=>decide (a < b)) x.l y.l
 BV:=.tup [.int,.int]
 Er:=fun _=>rfl
 Tf:=fun a b=>v7 a.l b.l
 JS:=fun a=>wb _
 trans:=fun a b c=>qZ (α:=Int) bo.JS bo.trans _ _ _
 pg:=fun ⟨a,b⟩ ⟨c,d⟩ h1 h2=>by
  have:=wa (α:=Int) bo.pg _ _ h1 h2;simpa [T2.l] using this
instance:bo T3 where
 lt:=fun x y=>u5 (fun a b=>decide (a < b)) x.l y.l
 BV:=.tup [.int,.int,.int]
 Er:=fun _=>rfl
 Tf:=fun a b=>v7 a.l b.l
 JS:=fun a=>wb _
 trans:=fun a b c=>qZ (α:=Int) bo.JS bo.trans _ _ _
 pg:=fun ⟨a,b,e⟩ ⟨c,d,f⟩ h1 h2=>by
  have:=wa (α:=Int) bo.pg _ _ h1 h2;simpa [T3.l] using this
section
variable {α:Type} [DecidableEq α] [Enc α] [bo α]
def BW(a b:α):Bool:=!bo.lt b a
def K6(xs:List α):List α:=xs.mergeSort BW
theorem MH(xs:List α):sI (xs.map enc)=(K6 xs).map enc:=by
 unfold sI K6;symm;exact List.map_mergeSort fun a _ b _=>by unfold BW RX; rw [bo.Tf]
theorem CY(a b c:α)(h1:BW a b=true)(h2:BW b c=true):BW a c=true:=by
 unfold BW at *;simp only [Bool.not_eq_true'] at *;cases h:bo.lt c a with
 | false=>rfl
 | true =>
  by_cases e:a=b
  ·subst e; rw [h] at h2; cases h2
  ·have Wl:bo.lt a b=true:=by
    cases q:bo.lt a b with
    | true=>rfl
    | false=>exact absurd (bo.pg _ _ q h1) e
   rw [bo.trans _ _ _ h Wl] at h2; cases h2
theorem GN(a b:α)(h1:BW a b=true)(h2:BW b a=true):a=b:=by
 unfold BW at *;exact bo.pg a b (by simpa using h2) (by simpa using h1)
theorem jm(xs:List α):(K6 xs).Perm xs:=List.mergeSort_perm xs BW
theorem Ss{xs:List α}{x:α}:x∈K6 xs↔x∈xs:=(jm xs).mem_iff
theorem vD(xs:List α):(K6 xs).length=xs.length:=(jm xs).length_eq
theorem MF{xs:List α}(h:xs.Nodup):(K6 xs).Nodup:=(jm xs).nodup_iff.mpr h
end
end K2
end
section
namespace K2
open PySem (Str)
mutual
theorem lZ:∀ (sh:pE) (a:D),cZ sh a=true->jj a a=true
 | .int,.int i,_=>by show (i == i)=true; exact beq_self_eq_true i
 | .tup l,.tup xs,h=>by show mH xs xs=true; exact yN l xs h
 | .lst l,.dN xs,h=>by show mH xs xs=true; exact yO l xs h
theorem yN:∀ (l:List pE) (xs:List D),fQ l xs=true->mH xs xs=true
 | [],[],_=>rfl
 | s :: l,x :: xs,h=>by
  have h:(cZ s x&&fQ l xs)=true:=h;rw [aK] at h;show (jj x x&&mH xs xs)=true;rw [lZ s x h.1,yN l xs h.2]; rfl
theorem yO:∀ (s:pE) (xs:List D),iD s xs=true->mH xs xs=true
 | _,[],_=>rfl
 | s,x :: xs,h=>by
  have h:(cZ s x&&iD s xs)=true:=h;rw [aK] at h;show (jj x x&&mH xs xs)=true;rw [lZ s x h.1,yO s xs h.2]; rfl
end
theorem Wx(s:pE)(ih:∀ (a b:D),cZ s a=true->cZ s b=true->jj a b=true->a=b):∀ (xs ys:List D),iD s xs=true->iD s ys=true->mH xs ys=true->xs=ys:=by
 intro xs;induction xs with
 | nil=>intro ys _ _ h; cases ys with
  | nil=>rfl
  | cons _ _=>cases h
 | cons x xs X7 =>
  intro ys h1 h2 h;cases ys with
  | nil=>cases h
  | cons y ys =>
   have h1:(cZ s x&&iD s xs)=true:=h1;have h2:(cZ s y&&iD s ys)=true:=h2;have h:(jj x y&&mH xs ys)=true:=h;rw [aK] at h1 h2 h;rw [ih x y h1.1 h2.1 h.1,X7 ys h1.2 h2.2 h.2]
mutual
theorem rO:∀ (sh:pE) (a b:D),cZ sh a=true->cZ sh b=true->jj a b=true->a=b
 | .int,a,b,h1,h2,h=>by
  first | obtain⟨_,rfl⟩:=dS h1 | obtain⟨_,rfl⟩:=dP h1 | obtain⟨_,rfl⟩:=dQ h1
  first | obtain⟨_,rfl⟩:=dS h2 | obtain⟨_,rfl⟩:=dP h2 | obtain⟨_,rfl⟩:=dQ h2
  rw [nk] at h; rw [beq_iff_eq.mp h]
 | .tup l,a,b,h1,h2,h=>by
  first | obtain⟨_,rfl⟩:=dS h1 | obtain⟨_,rfl⟩:=dP h1 | obtain⟨_,rfl⟩:=dQ h1
  first | obtain⟨_,rfl⟩:=dS h2 | obtain⟨_,rfl⟩:=dP h2 | obtain⟨_,rfl⟩:=dQ h2
  rw [QS l _ _ h1 h2 h]
 | .lst l,a,b,h1,h2,h=>by
  first | obtain⟨_,rfl⟩:=dS h1 | obtain⟨_,rfl⟩:=dP h1 | obtain⟨_,rfl⟩:=dQ h1
  first | obtain⟨_,rfl⟩:=dS h2 | obtain⟨_,rfl⟩:=dP h2 | obtain⟨_,rfl⟩:=dQ h2
  rw [Wx l (rO l) _ _ h1 h2 h]
theorem QS:∀ (l:List pE) (xs ys:List D),fQ l xs=true->fQ l ys=true->mH xs ys=true->xs=ys
 | [],xs,ys,h1,h2,_=>by
  cases xs with
  | nil=>cases ys with
   | nil=>rfl
   | cons _ _=>cases h2
  | cons _ _=>cases h1
 | s :: l,xs,ys,h1,h2,h=>by
  cases xs with
  | nil=>cases h1
  | cons x xs =>
   cases ys with
   | nil=>cases h2
   | cons y ys =>
    have h1:(cZ s x&&fQ l xs)=true:=h1;have h2:(cZ s y&&fQ l ys)=true:=h2;have h:(jj x y&&mH xs ys)=true:=h;rw [aK] at h1 h2 h;rw [rO s x y h1.1 h2.1 h.1,QS l xs ys h1.2 h2.2 h.2]
end
theorem PZ(s:pE)(ih:∀ (a b:D),cZ s a=true->cZ s b=true->qJ a b=false->qJ b a=false->a=b):∀ (xs ys:List D),iD s xs=true->iD s ys=true->nR xs ys=false->nR ys xs=false->xs=ys:=by
 intro xs;induction xs with
 | nil=>intro ys _ _ h _; cases ys with
  | nil=>rfl
  | cons _ _=>cases h
 | cons x xs X7 =>
  intro ys h1 h2 h3 h4;cases ys with
  | nil=>cases h4
  | cons y ys =>
   have h1:(cZ s x&&iD s xs)=true:=h1;have h2:(cZ s y&&iD s ys)=true:=h2;rw [aK] at h1 h2;simp only [oI] at h3 h4;by_cases e:jj x y=true
   ·have exy:=rO s x y h1.1 h2.1 e;subst exy;rw [if_pos e] at h3 h4;rw [X7 ys h1.2 h2.2 h3 h4]
   ·rw [if_neg e] at h3;by_cases e2:jj y x=true
    ·have:=rO s y x h2.1 h1.1 e2;subst this; exact absurd e2 e
    ·rw [if_neg e2] at h4;have:=ih x y h1.1 h2.1 h3 h4;subst this;exact absurd (lZ s x h1.1) e
mutual
theorem zH:∀ (sh:pE) (a b:D),cZ sh a=true->cZ sh b=true->qJ a b=false->qJ b a=false->a=b
 | .int,a,b,h1,h2,h3,h4=>by
  first | obtain⟨_,rfl⟩:=dS h1 | obtain⟨_,rfl⟩:=dP h1 | obtain⟨_,rfl⟩:=dQ h1
  first | obtain⟨_,rfl⟩:=dS h2 | obtain⟨_,rfl⟩:=dP h2 | obtain⟨_,rfl⟩:=dQ h2
  simp [P2] at h3 h4; congr 1; lia
 | .tup l,a,b,h1,h2,h3,h4=>by
  first | obtain⟨_,rfl⟩:=dS h1 | obtain⟨_,rfl⟩:=dP h1 | obtain⟨_,rfl⟩:=dQ h1
  first | obtain⟨_,rfl⟩:=dS h2 | obtain⟨_,rfl⟩:=dP h2 | obtain⟨_,rfl⟩:=dQ h2
  rw [GF l _ _ h1 h2 h3 h4]
 | .lst l,a,b,h1,h2,h3,h4=>by
  first | obtain⟨_,rfl⟩:=dS h1 | obtain⟨_,rfl⟩:=dP h1 | obtain⟨_,rfl⟩:=dQ h1
  first | obtain⟨_,rfl⟩:=dS h2 | obtain⟨_,rfl⟩:=dP h2 | obtain⟨_,rfl⟩:=dQ h2
  rw [PZ l (zH l) _ _ h1 h2 h3 h4]
theorem GF:∀ (l:List pE) (xs ys:List D),fQ l xs=true->fQ l ys=true->nR xs ys=false->nR ys xs=false->xs=ys
 | [],xs,ys,h1,h2,_,_=>by
  cases xs with
  | nil=>cases ys with
   | nil=>rfl
   | cons _ _=>cases h2
  | cons _ _=>cases h1
 | s :: l,xs,ys,h1,h2,h3,h4=>by
  cases xs with
  | nil=>cases h1
  | cons x xs =>
   cases ys with
   | nil=>cases h2
   | cons y ys =>
    have h1:(cZ s x&&fQ l xs)=true:=h1;have h2:(cZ s y&&fQ l ys)=true:=h2;rw [aK] at h1 h2;simp only [oI] at h3 h4;by_cases e:jj x y=true
    ·have exy:=rO s x y h1.1 h2.1 e;subst exy;rw [if_pos e] at h3 h4;rw [GF l xs ys h1.2 h2.2 h3 h4]
    ·rw [if_neg e] at h3;by_cases e2:jj y x=true
     ·have:=rO s y x h2.1 h1.1 e2;subst this; exact absurd e2 e
     ·rw [if_neg e2] at h4;have:=zH s x y h1.1 h2.1 h3 h4;subst this;exact absurd (lZ s x h1.1) e
end
mutual
theorem Eh:∀ (sh:pE) (a:D),cZ sh a=true->qJ a a=false
 | .int,.int i,_=>by rw [P2]; exact decide_eq_false (Int.lt_irrefl _)
 | .tup l,.tup xs,h=>by show nR xs xs=false; exact GG l xs h
 | .lst l,.dN xs,h=>by show nR xs xs=false; exact GH l xs h
theorem GG:∀ (l:List pE) (xs:List D),fQ l xs=true->nR xs xs=false
 | [],[],_=>rfl
 | s :: l,x :: xs,h=>by
  have h:(cZ s x&&fQ l xs)=true:=h;rw [aK] at h;simp only [oI,lZ s x h.1,if_true]; exact GG l xs h.2
theorem GH:∀ (s:pE) (xs:List D),iD s xs=true->nR xs xs=false
 | _,[],_=>rfl
 | s,x :: xs,h=>by
  have h:(cZ s x&&iD s xs)=true:=h;rw [aK] at h;simp only [oI,lZ s x h.1,if_true]; exact GH s xs h.2
end
theorem JI(s:pE)(ih:∀ (a b c:D),cZ s a=true->cZ s b=true->cZ s c=true->qJ a b=true->qJ b c=true->qJ a c=true):∀ (xs ys zs:List D),iD s xs=true->iD s ys=true->iD s zs=true->nR xs ys=true->nR ys zs=true->nR xs zs=true:=by
 intro xs;induction xs with
 | nil =>
  intro ys zs _ _ _ h4 h5;cases ys with
  | nil=>cases h4
  | cons _ _=>cases zs with
   | nil=>cases h5
   | cons _ _=>rfl
 | cons x xs X7 =>
  intro ys zs h1 h2 h3 h4 h5;cases ys with
  | nil=>cases h4
  | cons y ys =>
   cases zs with
   | nil=>cases h5
   | cons z zs =>
    have h1:(cZ s x&&iD s xs)=true:=h1;have h2:(cZ s y&&iD s ys)=true:=h2;have h3:(cZ s z&&iD s zs)=true:=h3;rw [aK] at h1 h2 h3;simp only [oI] at h4 h5 ⊢;by_cases e1:jj x y=true
    ·have:=rO s x y h1.1 h2.1 e1;subst this;rw [if_pos e1] at h4;by_cases e2:jj x z=true
     ·rw [if_pos e2] at h5 ⊢;exact X7 ys zs h1.2 h2.2 h3.2 h4 h5
     ·rw [if_neg e2] at h5 ⊢; exact h5
    ·rw [if_neg e1] at h4;by_cases e2:jj y z=true
     ·have:=rO s y z h2.1 h3.1 e2;subst this;rw [if_neg e1]; exact h4
     ·rw [if_neg e2] at h5;have h6:=ih x y z h1.1 h2.1 h3.1 h4 h5;rw [if_neg (fun e3=>by
       have:=rO s x z h1.1 h3.1 e3;subst this;rw [Eh s x h1.1] at h6; cases h6)]
      exact h6
mutual
theorem t7:∀ (sh:pE) (a b c:D),cZ sh a=true->cZ sh b=true->cZ sh c=true->qJ a b=true->qJ b c=true->qJ a c=true
 | .int,a,b,c,h1,h2,h3,h4,h5=>by
  first | obtain⟨_,rfl⟩:=dS h1 | obtain⟨_,rfl⟩:=dP h1 | obtain⟨_,rfl⟩:=dQ h1
  first | obtain⟨_,rfl⟩:=dS h2 | obtain⟨_,rfl⟩:=dP h2 | obtain⟨_,rfl⟩:=dQ h2
  first | obtain⟨_,rfl⟩:=dS h3 | obtain⟨_,rfl⟩:=dP h3 | obtain⟨_,rfl⟩:=dQ h3
  simp [P2] at *; lia
 | .tup l,a,b,c,h1,h2,h3,h4,h5=>by
  first | obtain⟨_,rfl⟩:=dS h1 | obtain⟨_,rfl⟩:=dP h1 | obtain⟨_,rfl⟩:=dQ h1
  first | obtain⟨_,rfl⟩:=dS h2 | obtain⟨_,rfl⟩:=dP h2 | obtain⟨_,rfl⟩:=dQ h2
  first | obtain⟨_,rfl⟩:=dS h3 | obtain⟨_,rfl⟩:=dP h3 | obtain⟨_,rfl⟩:=dQ h3
  exact AZ l _ _ _ h1 h2 h3 h4 h5
 | .lst l,a,b,c,h1,h2,h3,h4,h5=>by
  first | obtain⟨_,rfl⟩:=dS h1 | obtain⟨_,rfl⟩:=dP h1 | obtain⟨_,rfl⟩:=dQ h1
  first | obtain⟨_,rfl⟩:=dS h2 | obtain⟨_,rfl⟩:=dP h2 | obtain⟨_,rfl⟩:=dQ h2
  first | obtain⟨_,rfl⟩:=dS h3 | obtain⟨_,rfl⟩:=dP h3 | obtain⟨_,rfl⟩:=dQ h3
  exact JI l (t7 l) _ _ _ h1 h2 h3 h4 h5
theorem AZ:∀ (l:List pE) (xs ys zs:List D),fQ l xs=true->fQ l ys=true->fQ l zs=true->nR xs ys=true->nR ys zs=true->nR xs zs=true
 | [],xs,ys,zs,h1,h2,_,h,_=>by
  cases xs with
  | nil=>cases ys with
   | nil=>cases h
   | cons _ _=>cases h2
  | cons _ _=>cases h1
 | s :: l,xs,ys,zs,h1,h2,h3,h4,h5=>by
  cases xs with
  | nil=>cases h1
  | cons x xs =>
   cases ys with
   | nil=>cases h2
   | cons y ys =>
    cases zs with
    | nil=>cases h3
    | cons z zs =>
     have h1:(cZ s x&&fQ l xs)=true:=h1;have h2:(cZ s y&&fQ l ys)=true:=h2;have h3:(cZ s z&&fQ l zs)=true:=h3;rw [aK] at h1 h2 h3;simp only [oI] at h4 h5 ⊢;by_cases e1:jj x y=true
     ·have:=rO s x y h1.1 h2.1 e1;subst this;rw [if_pos e1] at h4;by_cases e2:jj x z=true
      ·rw [if_pos e2] at h5 ⊢;exact AZ l xs ys zs h1.2 h2.2 h3.2 h4 h5
      ·rw [if_neg e2] at h5 ⊢; exact h5
     ·rw [if_neg e1] at h4;by_cases e2:jj y z=true
      ·have:=rO s y z h2.1 h3.1 e2;subst this;rw [if_neg e1]; exact h4
      ·rw [if_neg e2] at h5;have h6:=t7 s x y z h1.1 h2.1 h3.1 h4 h5;rw [if_neg (fun e3=>by
        have:=rO s x z h1.1 h3.1 e3;subst this;rw [Eh s x h1.1] at h6; cases h6)]
       exact h6
end
theorem CT(sh:pE){a b:D}(h1:cZ sh a=true)(h2:cZ sh b=true)(h:qJ a b=true):qJ b a=false:=by
 cases q:qJ b a with
 | false=>rfl
 | true=>have:=t7 sh a b a h1 h2 h1 h q; rw [Eh sh a h1] at this; cases this
theorem A0(sh:pE){a b c:D}(h1:cZ sh a=true)(h2:cZ sh b=true)(h3:cZ sh c=true)(q1:qJ b a=false)(q2:qJ c b=false):qJ c a=false:=by
 cases h:qJ c a with
 | false=>rfl
 | true =>
  exfalso;cases q:qJ a b with
  | false =>
   have:=zH sh a b h1 h2 q q1;subst this; rw [h] at q2; cases q2
  | true=>rw [t7 sh c a b h3 h1 h2 h q] at q2; cases q2
theorem vG(sh:pE){xs ys:List D}(hx:∀ x∈xs,cZ sh x=true)(hp:ys.Perm xs)(hs:ys.Pairwise fun a b=>qJ b a=false):sI xs=ys:=by
 have hy:∀ y∈ys,cZ sh y=true:=fun y h=>hx y (hp.mem_iff.mp h);have p1:(sI xs).Perm xs:=List.mergeSort_perm xs RX;have hz:∀ z∈sI xs,cZ sh z=true:=fun z h=>hx z (p1.mem_iff.mp h);have s1:(sI xs).Pairwise fun a b=>qJ b a=false:=by
  let OF:List { d:D // cZ sh d=true }:=xs.attach.map fun x=>⟨x.1,hx x.1 x.2⟩
  have ex:xs=OF.map (·.1):=by
   simp only [OF,bh]
   conv=>lhs; rw [<-List.attach_map_subtype_val xs]
   rfl
  have e2:sI xs=(OF.mergeSort fun a b=>RX a.1 b.1).map (·.1):=by
   unfold sI;rw [ex];exact(List.map_mergeSort (r:=fun (a b:{ d:D // cZ sh d=true })=>RX a.1 b.1) (s:=RX) (f:=fun x=>x.1) (l:=OF) fun a _ b _=>rfl).symm
  rw [e2,kQ]
  have:=List.pairwise_mergeSort (le:=fun (a b:{ d:D // cZ sh d=true })=>RX a.1 b.1) (fun a b c h1 h2=>by
   unfold RX at *;simp only [Bool.not_eq_true'] at *;exact A0 sh a.2 b.2 c.2 h1 h2) (fun a b=>by
   unfold RX;cases q:qJ b.1 a.1 with
   | false=>rfl
   | true=>rw [CT sh b.2 a.2 q]; rfl) OF
  exact this.imp fun h=>by unfold RX at h; simpa using h
 refine List.Perm.eq_of_pairwise (le:=fun a b=>qJ b a=false) (fun a b ha hb h h'=>?_) s1 hs (p1.trans hp.symm);exact zH sh a b (hz a ha) (hy b hb) h' h
end K2
end
section
namespace K2
open PySem (Str)
open Enc (enc)
def lL(k:Nat):List D->List D
 | []=>[]
 | d :: r=>.tup [.int (k:Int),d] :: lL (k+1) r
theorem Df:∀ (ds:List D) (k i:Nat),(lL k ds)[i]?=(ds[i]?).map fun d=>D.tup [.int ((k+i:Nat):Int),d]
 | [],k,i=>by simp [lL]
 | d :: r,k,0=>by simp [lL]
 | d :: r,k,i+1=>by
  rw [lL,ae,Df r (k+1) i,ae];congr 1; funext x; congr 3; lia
theorem De:∀ (ds:List D) (k:Nat),(lL k ds).length=ds.length
 | [],_=>rfl
 | d :: r,k=>by rw [lL,ai,ai,De r]
def wx(x:D)(G1:Gp)(R:List D->(Gp->Prop)->Gp->Prop):Prop:=match x with
 | .dN ds=>R (lL 0 ds) (fun _=>True) G1
 | .ref p=>(match G1 p with
  | some (.lst ds)=>R (lL 0 ds) (fun G2=>G2 p=some (.lst ds)) G1
  | _=>False)
 | _=>False
def Ha(a:gK):NT:=fun E τ G R=>a E τ G fun x G1=>wx x G1 R
def aao(P:D->Gp->Prop):List D->Gp->Prop
 | [x],G=>P x G
 | _,_=>False
def XG(P:D->D->Gp->Prop):List D->Gp->Prop
 | [x,y],G=>P x y G
 | _,_=>False
def qP:List D->List D->List D
 | x :: xs,y :: ys=>.tup [x,y] :: qP xs ys
 | _,_=>[]
theorem FF:∀ (xs ys:List D) (i:Nat),(qP xs ys)[i]?=(xs[i]?).bind fun x=>(ys[i]?).map fun y=>D.tup [x,y]
 | [],ys,i=>by simp [qP]
 | x :: xs,[],i=>by cases h:(x :: xs)[i]? <;> simp [qP]
 | x :: xs,y :: ys,0=>by simp [qP]
 | x :: xs,y :: ys,i+1=>by rw [qP,ae,FF xs ys i,ae,ae]
theorem FE:∀ (xs ys:List D),(qP xs ys).length=min xs.length ys.length
 | [],ys=>by simp [qP]
 | x :: xs,[]=>by simp [qP]
 | x :: xs,y :: ys=>by rw [qP,ai,FE xs ys,ai,ai]; lia
def v8(x:D)(G:Gp):Option (List D×(Gp->Prop)):=match x with
 | .dN ds=>some (ds,fun _=>True)
 | .ref p=>(match G p with
  | some (.lst ds)=>some (ds,fun G2=>G2 p=some (.lst ds))
  | _=>none)
 | _=>none
def va(x y:D)(G1:Gp)(R:List D->(Gp->Prop)->Gp->Prop):Prop:=match v8 x G1,v8 y G1 with
 | some (xs,k1),some (ys,k2)=>R (qP xs ys) (fun G2=>k1 G2/\k2 G2) G1
 | _,_=>False
def Qx(a b:gK):NT:=fun E τ G R=>a E τ G fun x G1=>b E τ G1 fun y G2=>va x y G2 R
def zJ(x:D)(G1:Gp)(R:List D->(Gp->Prop)->Gp->Prop):Prop:=match x with
 | .iL kvs=>R (kvs.map (·.1)) (fun _=>True) G1
 | _=>False
def uJ(a:gK):NT:=fun E τ G R=>a E τ G fun x G1=>zJ x G1 R
def IsL(G:Gp)(d:D)(ds:List D):Prop:=d=.dN ds\/∃ a,d=.ref a/\G a=some (.lst ds)
theorem IsL.dN{G:Gp}{ds:List D}:IsL G (.dN ds) ds:=.inl rfl
theorem IsL.enc{α:Type} [DecidableEq α] [Enc α]{G:Gp}(xs:List α):IsL G (enc xs) (xs.map enc):=.inl rfl
theorem IsL.ref{G:Gp}{a:Nat}{ds:List D}(h:G a=some (.lst ds)):IsL G (.ref a) ds:=.inr ⟨a,rfl,h⟩
theorem IsL.mono{G G':Gp}{d:D}{ds:List D}(h:IsL G d ds)(l:fh G G'):IsL G' d ds:=by
 rcases h with h | ⟨a,h,e⟩
 ·exact .inl h
 ·exact .inr ⟨a,h,l a _ e⟩
theorem V7{G:Gp}{d:D}{ds:List D}{R:List D->(Gp->Prop)->Gp->Prop}(h:IsL G d ds)(k:∀ ok:Gp->Prop,(∀ G',fh G G'->ok G')->R ds ok G):R0 d G R:=by
 rcases h with rfl | ⟨a,rfl,e⟩
 ·exact k _ fun _ _=>trivial
 ·rw [En e]; exact k _ fun G' l=>l a _ e
theorem GK{G:Gp}{d:D}{ds:List D}(h:IsL G d ds):∃ ok:Gp->Prop,v8 d G=some (ds,ok)/\∀ G',fh G G'->ok G':=by
 rcases h with rfl | ⟨a,rfl,e⟩
 ·exact⟨_,rfl,fun _ _=>trivial⟩
 ·unfold v8; simp only [e]; exact⟨_,rfl,fun G' l=>l a _ e⟩
theorem Nq{G:Gp}{d d':D}{ds ds':List D}{R:List D->(Gp->Prop)->Gp->Prop}(h:IsL G d ds)(h':IsL G d' ds')(k:∀ ok:Gp->Prop,(∀ G',fh G G'->ok G')->R (qP ds ds') ok G):va d d' G R:=by
 obtain⟨k1,e1,h1⟩:=GK h;obtain⟨k2,e2,h2⟩:=GK h';unfold va; simp only [e1,e2];exact k _ fun G' l=>⟨h1 G' l,h2 G' l⟩
theorem ON{G:Gp}{d:D}{ds:List D}{Q:Bool->Gp->Prop}(h:IsL G d ds)(k:Q (!ds.isEmpty) G):pe d G Q:=by
 rcases h with rfl | ⟨a,rfl,e⟩
 ·exact k
 ·rw [MB e]; exact k
theorem rg{G:Gp}{d:D}{ds:List D}(h:IsL G d ds):itemsOf d G=some ds:=by
 rcases h with rfl | ⟨a,rfl,e⟩
 ·rfl
 ·unfold itemsOf; simp only [e]
theorem OJ{G:Gp}{d:D}{ds:List D}(h:IsL G d ds):DO d G:=by
 rcases h with rfl | ⟨a,rfl,e⟩
 ·trivial
 ·unfold DO; simp only [e]
theorem sQ{G:Gp}{d:D}{ds:List D}{lo hi:Option Int}{Q:DK}(h:IsL G d ds)(k:gv G (.lst (cut ds lo hi)) Q):RW d lo hi G Q:=by
 rcases h with rfl | ⟨a,rfl,e⟩
 ·exact k
 ·rw [SD e]; exact k
theorem pD{G:Gp}{d:D}{ds:List D}{Q:DK}(h:IsL G d ds)(k:Q (.int (ds.length:Int)) G):sd [d] G Q:=by
 rcases h with rfl | ⟨a,rfl,e⟩
 ·exact k
 ·rw [HP e]; exact k
theorem HN{G:Gp}{d:D}{ds:List D}{Q:DK}(h:IsL G d ds)(k:gv G (.lst ds) Q):wW [d] G Q:=by
 unfold wW; simp only [rg h]; exact k
theorem oN{α:Type} [DecidableEq α] [Enc α] [bo α]{G:Gp}{d:D}{xs:List α}{Q:DK}(h:IsL G d (xs.map enc))(hl:xs.length < 64)(k:gv G (.lst ((K6 xs).map enc)) Q)(ok:autoParam (PL (bo.BV α)=true) Ad._auto_1):pC [d] G Q :=
 ⟨bo.BV α,xs.map enc,OJ h,rg h,by rw [lO,eY]; intro x _; exact bo.Er x,ok,by rw [ao]; exact hl,by rw [MH]; exact k⟩
theorem Jl{G:Gp}{d x:D}{ds:List D}{i:Int}{Q:DK}(h:IsL G d ds)(e:uf ds i=some x)(k:Q x G):mD d (.int i) G Q:=by
 rcases h with rfl | ⟨a,rfl,e2⟩
 ·rw [SE e]; exact k
 ·rw [SF e2 e]; exact k
theorem jA{G:Gp}{d:D}{ds:List D}(h:IsL G d ds):mE d G=some ds:=by
 rcases h with rfl | ⟨a,rfl,e⟩
 ·rfl
 ·unfold mE; simp only [e]
theorem Mf{G:Gp}{d e:D}{ds es:List D}{Q:DK}(h:IsL G d ds)(h':IsL G e es)(hz:ds.length+es.length<=SZ)(k:gv G (.lst (ds++es)) Q):yd d e G Q:=by
 unfold yd; simp only [jA h,jA h']; exact⟨hz,k⟩
theorem zD{G:Gp}{d e:D}{ds es:List D}{Q:DK}(h:IsL G d ds)(h':IsL G e es)(hz:ds.length+es.length<=SZ)(k:gv G (.lst (ds++es)) Q):ic d e G Q:=by
 have:=Mf h h' hz k;rcases h with rfl | ⟨a,rfl,_⟩
 ·rw [qt]; exact this
 ·rw [sT]; exact this
theorem wQ{α:Type}(xs:List α)(i:Nat)(h:i<=xs.length):cut xs (some (i:Int)) none=xs.drop i:=by
 unfold cut kn;simp only;rw [if_neg (by lia),eF,Nat.min_eq_left h];exact OB (by rw [cP]; lia)
theorem EM{α:Type}(xs:List α)(i:Nat)(h:i<=xs.length):cut xs none (some (i:Int))=xs.take i:=by
 unfold cut kn;simp only;rw [if_neg (by lia),eF,Nat.min_eq_left h];simp
theorem oe{α β:Type}(f:α->β)(xs:List α)(lo hi:Option Int):cut (xs.map f) lo hi=(cut xs lo hi).map f:=by
 unfold cut; rw [ao,List.map_take,List.map_drop]
theorem ue{α:Type}(xs:List α){k:Int}(h0:0<=k)(h1:k < xs.length):uf xs k=some (xs[k.toNat]'(by lia)):=by
 unfold uf LM;rw [if_pos h0,if_pos h1];show xs[k.toNat]?=_;exact aC (by lia)
theorem Jk{n:Nat}{pre post:List D}{d:D}(h:ja 0 n=pre++d :: post):d=.int (pre.length:Int)/\pre.length < n:=by
 have hl:pre.length < n:=by
  have:=congrArg cM h;simp [ja] at this; lia
 have:=congrArg (fun l=>l[pre.length]?) h;simp only [ja,bx,List.getElem?_range hl] at this;rw [cD (aH _)] at this;simp at this;exact⟨this.symm,hl⟩
def Sv{α β:Type} [DecidableEq α] [Enc α] [DecidableEq β] [Enc β](pre:α->Prop)(f:α->β):kC:=fun ds G Q _=>∃ a:α,ds=[enc a]/\pre a/\Q (enc (f a)) G
def Xm{α β γ:Type} [DecidableEq α] [Enc α] [DecidableEq β] [Enc β] [DecidableEq γ] [Enc γ](pre:α->β->Prop)(f:α->β->γ):kC:=fun ds G Q _=>∃ (a:α) (b:β),ds=[enc a,enc b]/\pre a b/\Q (enc (f a b)) G
def aag:Cv
 | .int i,.int j,G,Q=>(0<=j/\j<=1000000/\i.natAbs < 2 ^ 64)/\Q (.int (i ^ j.toNat)) G
 | _,_,_,_=>False
def o3:Nat:=2 ^ 4000
def Ld:Cv
 | .int i,.int j,G,Q=>(i.natAbs < o3/\j.natAbs < o3)/\Q (.int (i * j)) G
 | _,_,_,_=>False
theorem Ax{i j:Int}{G:Gp}{Q:DK}:aag (.int i) (.int j) G Q=((0<=j/\j<=1000000/\i.natAbs < 2 ^ 64)/\Q (.int (i ^ j.toNat)) G):=rfl
theorem qr{i j:Int}{G:Gp}{Q:DK}:Ld (.int i) (.int j) G Q=((i.natAbs < o3/\j.natAbs < o3)/\Q (.int (i * j)) G):=rfl
def wL:D->Gp->Option (List (D×D))
 | .iL kvs,_=>some kvs
 | .ref a,G=>match G a with
  | some (.eW kvs)=>some kvs
  | _=>none
 | _,_=>none
def we(kvs:List (D×D)):Bool:=kvs.all fun p=>dE p.1
def HQ(ds:List D)(G:Gp)(Q:DK):Prop:=match ds with
 | [x]=>∃ kvs,wL x G=some kvs/\we kvs=true/\kvs.length<=SZ/\gv G (.eW kvs) Q
 | _=>False
def M5(x:D)(ds:List D)(G:Gp)(Q:DK):Prop:=match ds with
 | [k,d]=>∃ kvs,wL x G=some kvs/\we kvs=true/\dE k=true/\Q ((look kvs k).getD d) G
 | _=>False
def GZ(x:D)(G1:Gp)(R:List D->(Gp->Prop)->Gp->Prop):Prop:=match x with
 | .iL kvs=>we kvs=true/\R (kvs.map fun p=>.tup [p.1,p.2]) (fun _=>True) G1
 | _=>False
def jb(a:gK):NT:=fun E τ G R=>a E τ G fun x G1=>GZ x G1 R
def qU:D->Bool
 | .fg=>true
 | .bl _=>true
 | .int _=>true
 | _=>false
def Kk(sp:kC)(t:Fp):gK:=fun E τ G Q=>t E τ G fun ds G1=>match ds with
 | [.ref p]=>∃ kvs,G1 p=some (.eW kvs)/\sp [.iL kvs] (fun _=>none) (fun x G2=>(qU x=true/\Q x G1)\/∃ q GR,x=.ref q/\G2 q=some (.eW GR)/\(GR.all fun p=>dE p.1&&qU p.2)=true/\gv G1 (.eW GR) Q) fun _ _=>False
 | _=>False
def Dp(k v:gK):gK:=fun E τ G Q=>k E τ G fun x G1=>v E τ G1 fun y G2=>dE x=true/\gv G2 (.eW [(x,y)]) Q
def zj(l m:List (Int×Int)):Bool:=l.length == m.length&&l.all fun p=>bH m p.1 == some p.2
def Vz(neg:Bool):Cv:=fun x y G Q=>∃ l m:List (Int×Int),wL x G=some (aT l)/\wL y G=some (aT m)/\Q (.bl (if neg then !zj l m else zj l m)) G
def B8(neg:Bool):Cv:=fun x y G Q=>Fg neg x y G Q\/Vz neg x y G Q
def vn{κ α:Type} [DecidableEq κ] [Enc κ] [DecidableEq α] [Enc α](G:Gp)(d:D)(l:List (κ×α)):Prop:=wL d G=some (aT l)
section
variable {κ α:Type} [DecidableEq κ] [Enc κ] [DecidableEq α] [Enc α] {l:List (κ×α)} {G G':Gp} {d:D}
theorem vn.ref{a:Nat}(h:G a=some (.eW (aT l))):vn G (.ref a) l:=by unfold vn wL; simp only [h]
theorem vn.iL:vn G (.iL (aT l)) l:=rfl
theorem vn.inv(h:vn G d l):d=.iL (aT l)\/∃ a,d=.ref a/\G a=some (.eW (aT l)):=by
 unfold vn wL at h;split at h
 ·exact .inl (by rw [ba h])
 ·rename_i a;split at h
  ·rename_i kvs e;exact .inr ⟨a,rfl,by rw [e,ba h]⟩
  ·cases h
 ·cases h
def U6(_:Gp)(d:D)(l:List (κ×α)):Prop:=d=.iL (aT l)
theorem U6.p(h:U6 G d l):vn G' d l:=by unfold U6 at h; rw [h]; exact .iL
theorem kW{β:Type} [DecidableEq β] [Enc β](l:List (Int×β)):we (aT l)=true:=by
 unfold we aT; rw [lO,eY]; intro p _; rfl
theorem Di(l:List (κ×α)):(aT l).length=l.length:=by unfold aT; rw [ao]
theorem OK(h:vn G d l):RS d G:=by
 rcases h.inv with rfl | ⟨a,rfl,e⟩
 ·trivial
 ·unfold RS; simp only [e]
theorem Qs {C:String} {Q:DK} (h:vn G d l) (k:Q (.bl (C == "dict")) G):isAt C d G Q:=by
 rcases h.inv with rfl | ⟨a,rfl,e⟩
 ·exact k
 ·rw [Qr]; simp only [e]; exact k
end
section
variable {α:Type} [DecidableEq α] [Enc α] {l:List (Int×α)} {G:Gp} {d:D}
theorem Ro{Q:DK}(h:vn G d l)(hs:l.length<=SZ)(k:gv G (.eW (aT l)) Q):HQ [d] G Q:=⟨_,h,kW l,by rw [Di]; exact hs,k⟩
theorem Te{Q:DK}{i:Int}{e:α}(h:vn G d l)(k:Q (enc ((bH l i).getD e)) G):M5 d [.int i,enc e] G Q:=by
 refine⟨_,h,kW l,rfl,?_⟩;have:(look (aT l) (.int i)).getD (enc e)=enc ((bH l i).getD e):=by
  rw [show (D.int i)=enc i from rfl,mF]; cases bH l i <;> rfl
 rw [this]; exact k
theorem jB{G0:Gp}{R:List D->(Gp->Prop)->Gp->Prop}(h:U6 G0 d l)(le0:fh G0 G)(k:∀ ok:Gp->Prop,(∀ G',fh G0 G'->ok G')->R (l.map fun p=>.tup [.int p.1,enc p.2]) ok G):GZ d G R:=by
 unfold U6 at h;rw [h];refine⟨kW l,?_⟩;have:(aT l).map (fun p=>D.tup [p.1,p.2])=l.map fun p=>.tup [.int p.1,enc p.2]:=by unfold aT; rw [bh]; rfl
 rw [this];exact k _ fun G' le=>trivial
theorem JU{G0:Gp}{R:List D->(Gp->Prop)->Gp->Prop}(h:U6 G0 d l)(le0:fh G0 G)(k:∀ ok:Gp->Prop,(∀ G',fh G0 G'->ok G')->R (l.map fun p=>.int p.1) ok G):zJ d G R:=by
 unfold U6 at h;rw [h];show R ((aT l).map (·.1)) _ G;have:(aT l).map (·.1)=l.map fun p=>D.int p.1:=by unfold aT; rw [bh]; rfl
 rw [this];exact k _ fun G' le=>trivial
theorem Uq{i:Int}{v:α}{Q:DK}(h:vn G d l)(e:bH l i=some v)(k:Q (enc v) G):mD d (.int i) G Q:=by
 have hk:ie (aT l) (.int i)=true:=iP l i;have hl:look (aT l) (.int i)=some (enc v):=by rw [show (D.int i)=enc i from rfl,mF,e]; rfl
 rcases h.inv with rfl | ⟨a,rfl,e⟩
 ·rw [tS,hl]; exact⟨hk,k⟩
 ·rw [DY,e]; simp only [hl]; exact⟨hk,k⟩
theorem fH{a:Nat}{i:Int}{v:α}{Q:Gp->Prop}(h:G a=some (.eW (aT l)))(hs:l.length < SZ)(k:Q (dH G a (.eW (aT (df l i v))))):Ah (.ref a) (.int i) (enc v) G Q:=by
 unfold Ah;simp only [h];refine⟨iP l i,by rw [Di]; exact hs,?_⟩;rw [show (D.int i)=enc i from rfl,Lf]; exact k
end
theorem vU{neg:Bool}{G:Gp}{d e:D}{l m:List (Int×Int)}{Q:DK}(h1:vn G d l)(h2:vn G e m)(k:Q (.bl (if neg then !zj l m else zj l m)) G):B8 neg d e G Q:=.inr ⟨l,m,h1,h2,k⟩
theorem Pc{neg:Bool}{G:Gp}{i j:Int}{Q:DK}(k:Q (.bl (if neg then !decide (i=j) else decide (i=j))) G):B8 neg (.int i) (.int j) G Q:=.inl ⟨_,_,.int _,.int _,by
 have:jj (.int i) (.int j)=decide (i=j):=Enc.eqv i j;rw [this]; exact k⟩
abbrev TF2:=nA->jc->Gp->(List Str->Gp->Prop)->Prop
def WH(ds:List D)(G:Gp)(Q:DK):Prop:=match ds with
 | [x]=>∃ ns:List Int,DO x G/\itemsOf x G=some (ns.map D.int)/\(ns.length<=1000/\∀ n∈ns,-1000<=n/\n<=1000)/\Q (.int ns.sum) G
 | _=>False
end K2
end
section
namespace K2
open PySem (Str)
def LD(x:D)(ds:List D)(G:Gp)(Q:DK):Prop:=match x,ds with
 | .ref a,[k,d]=>∃ kvs,G a=some (.eW kvs)/\ie kvs k=true/\Q ((look kvs k).getD d) G
 | _,_=>False
def Nr(x:D)(G1:Gp)(R:List D->(Gp->Prop)->Gp->Prop):Prop:=match x with
 | .iL kvs=>(kvs.all fun p=>ly p.1)=true/\R (kvs.map fun p=>.tup [p.1,p.2]) (fun _=>True) G1
 | _=>False
def wo(a:gK):NT:=fun E τ G R=>a E τ G fun x G1=>Nr x G1 R
theorem PX{κ α:Type} [DecidableEq κ] [Enc κ] [qf κ] [DecidableEq α] [Enc α]{a:Nat}{l:List (κ×α)}{k:κ}{e:α}{G:Gp}{Q:DK}(h:G a=some (.eW (aT l)))(q:Q (Enc.enc ((bH l k).getD e)) G):LD (.ref a) [Enc.enc k,Enc.enc e] G Q:=by
 refine⟨_,h,iP _ _,?_⟩;have:(look (aT l) (Enc.enc k)).getD (Enc.enc e)=Enc.enc ((bH l k).getD e):=by
  rw [mF]; cases bH l k <;> rfl
 rw [this]; exact q
def Rc(a b:gK):gK:=fun E τ G Q=>a E τ G fun x G1=>b E τ G1 fun y G2=>∃ ks vs:List Int,mE x G2=some (ks.map D.int)/\mE y G2=some (vs.map D.int)/\(ks.Nodup/\ks.length=vs.length/\ks.length<=1000)/\gv G2 (.eW (aT (ks.zip vs))) Q
def Bq(kv:List (Int×Int)):gK:=fun _ _ G Q=>gv G (.eW (aT kv)) Q
end K2
end
section
namespace K2
open PySem (Str)
open Enc (enc)
def h2(t:T2):Int:=PySem.reduceHash (PySem.Builtin.Tuple.tupleHashOf [PySem.hashInt t.a,PySem.hashInt t.b])
end K2
end
section
namespace K2
open PySem (Str)
def TV(ds:List D)(G:Gp)(Q:DK):Prop:=match ds with
 | [x]=>(match mE x G with
  | some xs=>Q (.tup xs) G
  | none=>False)
 | _=>False
def only(a:Nat)(o:GO):Gp:=fun b=>if b=a then some o else none
def qx(kvs:List (PK×D))(k:PK):Option D:=(kvs.find? fun p=>decide (p.1=k)).map (·.2)
def Az(kvs:List (PK×D))(k:PK)(v:D):List (PK×D) :=
 if (kvs.any fun p=>decide (p.1=k))=true then kvs.map (fun p=>if p.1=k then (p.1,v) else p) else kvs++[(k,v)]
def tyP(x:D)(G:Gp):Prop:=match x with
 | .ref a=>(match G a with
  | some (.ua _)=>True
  | _=>False)
 | .oY _=>True
 | _=>False
def CS(x:D)(ds:List D)(G:Gp)(Q:DK):Prop:=match x,ds with
 | .ref a,[k,d]=>∃ kvs pk,G a=some (.ua kvs)/\k=rJ pk/\Q ((qx kvs pk).getD d) G
 | .oY kvs,[k,d]=>∃ pk,k=rJ pk/\Q ((qx kvs pk).getD d) G
 | _,_=>False
def Ji(o k d:D)(G:Gp)(Q:Gp->Prop):Prop:=match o with
 | .ref a=>∃ kvs pk,G a=some (.ua kvs)/\k=rJ pk/\kvs.length < SZ/\Q (dH G a (.ua (Az kvs pk d)))
 | _=>False
def Hj(o k:gK):BZ:=fun E d τ G Q=>o E τ G fun x G1=>k E τ G1 fun y G2=>Ji x y d G2 fun G3=>Q τ G3
def Rb:gK:=fun _ _ G Q=>gv G (.ua []) Q
def Ra(k v:gK):gK:=fun E τ G Q=>k E τ G fun x G1=>v E τ G1 fun y G2=>∃ pk,x=rJ pk/\gv G2 (.ua [(pk,y)]) Q
def Nt(x:D)(G1:Gp)(R:List D->(Gp->Prop)->Gp->Prop):Prop:=match x with
 | .oY kvs=>R (kvs.map fun p=>.tup [rJ p.1,p.2]) (fun _=>True) G1
 | _=>False
def wu(a:gK):NT:=fun E τ G R=>a E τ G fun x G1=>Nt x G1 R
def GD(x:D)(ds:List D)(G:Gp)(Q:DK):Prop:=match x,ds with
 | .ref a,[k]=>∃ kvs d,G a=some (.eW kvs)/\(ly k=true/\(kvs.all fun p=>ly p.1)=true/\look kvs k=some d)/\Q d (dH G a (.eW (kvs.filter fun p=>!jj p.1 k)))
 | _,_=>False
end K2
end
section
namespace K2
mutual
def Zu:D->Bool
 | .fg=>true
 | .bl _=>true
 | .int _=>true
 | .str _=>true
 | .tup ds=>vY ds
 | .dN ds=>vY ds
 | _=>false
def vY:List D->Bool
 | []=>true
 | d :: r=>Zu d&&vY r
end
def Kj(sp:kC)(t:Fp):gK:=fun E τ G Q=>t E τ G fun ds G1=>vY ds=true/\sp ds (fun _=>none) (fun d _=>∃ kvs,d=.iL kvs/\(kvs.all fun p=>dE p.1&&qU p.2)=true/\gv G1 (.eW kvs) Q) fun _ _=>False
def Rn(ds:List D)(G:Gp)(Q:DK):Prop:=match ds with
 | [.oY kvs]=>kvs.length<=1000/\Q (.int (kvs.length:Int)) G
 | _=>False
def Q8(a:gK):gK:=fun E τ G Q=>a E τ G fun x G1=>match x with
 | .oY _=>Q (.bl true) G1
 | _=>False
end K2
end
section
namespace K2
open PySem
section
variable {prog:bE} {w:World} {K:Type} [DecidableEq K] (knd:Fy prog w K)
inductive ur (h:Heap):List K->List Value->Prop
 | nil:ur h [] []
 | cons {k:K} {b:Addr} {ks:List K} {vs:List Value}:knd.is h k b->ur h ks vs->ur h (k :: ks) (.ref b :: vs)
def uv (h:Heap) (ks:List K) (a:Addr):Prop:=∃ o items n,h.get? a=some o/\o.cls=.type "tuple"/\o.data=.seq items n/\ur knd h ks items.toList
variable {knd}
theorem ur.inj{h:Heap}{x y:List K}{vs:List Value}(hx:ur knd h x vs)(hy:ur knd h y vs):x=y:=by
 induction hx generalizing y with
 | nil=>cases hy; rfl
 | cons h1 _ ih =>
  cases hy with
  | cons h2 t2=>rw [knd.inj h1 h2,ih t2]
theorem ur.keeps{h h':Heap}{ks:List K}{vs:List Value}{d:Addr}{o:Obj}{es ep}(x:ur knd h ks vs)(ho:h.get? d=some o)(hd:o.data=.dict es ep)(hs:fI d h h'):ur knd h' ks vs:=by
 induction x with
 | nil=>exact .nil
 | cons h1 _ ih=>exact .cons (knd.keeps h1 ho hd hs) ih
theorem uv.typeIs {s:aA} {ks:List K} {a:Addr} (x:uv knd s.heap ks a):s.TypeIs (.ref a) "tuple":=let ⟨o,_,_,ho,hc,_⟩:=x; ⟨o,ho,hc⟩
theorem uv.inj{h:Heap}{a:Addr}{x y:List K}(hx:uv knd h x a)(hy:uv knd h y a):x=y:=by
 obtain⟨o,items,n,ho,_,hd,hi⟩:=hx;obtain⟨o',aaJ,n',Fm,_,yM,Ts⟩:=hy;obtain rfl:o=o':=ba (ho.symm.trans Fm);rw [hd] at yM;injection yM with h1 _
 subst h1;exact hi.inj Ts
theorem uv.keeps{h h':Heap}{ks:List K}{a d:Addr}{o:Obj}{es ep}(x:uv knd h ks a)(ho:h.get? d=some o)(hd:o.data=.dict es ep)(hs:fI d h h'):uv knd h' ks a:=by
 obtain⟨o',items,n,Fm,hc,yM,hi⟩:=x;have zh:a≠d:=by
  rintro rfl;obtain rfl:o'=o:=ba (Fm.symm.trans ho);rw [hd] at yM; exact nomatch yM
 exact⟨o',items,n,(hs.2 a zh).trans Fm,hc,yM,hi.keeps ho hd hs⟩
def Ee(knd:Fy prog w K)(ks:List K):Int:=reduceHash (eE (ks.map knd.hash))
def ml(knd:Fy prog w K):List K->Nat
 | []=>0
 | k :: ks=>knd.draws k+ml knd ks
theorem vZ(ks:List K)(k:K):ml knd (ks++[k])=ml knd ks+knd.draws k:=by
 induction ks with
 | nil=>simp [ml]
 | cons a r ih=>rw [aE,ml,ml,ih,qk]
variable {A:dg} {E:Value->aA->Prop} {s:aA}
theorem LQ{ks:List K}{a:Addr}{Q:Int->aA->Prop}(hu:A.units < cLine/\knd.room A.in1)(hk:uv knd s.heap ks a)(h:Q (Ee knd ks) { s with toks:=s.toks+(ml knd ks+1) }) :
  wpAny (model prog w) A (pyHash (.ref a)) Q E s:=by
 have hT:=hk.typeIs;obtain⟨o,items,n,ho,_,hd,hi⟩:=hk;unfold pyHash
 first | unfold pyHashByItsType | skip
 first | refine ah (wpAny_cRoomFor_or (.inr hu.1) ?_) | skip
 refine ah (zO hT F.slot_tuple_hash.lookup ?_);show wpAny _ _ (if (some (Value.builtin "tuple.__hash__") == some gQ)=true then _ else _) Q E s;rw [if_neg (by rw [beq_builtin_none]; exact iG)];refine ah (zO hT F.slot_tuple_hash.lookup ?_);show wpAny _ _ (callSpecialIfBoundUnlessNone? (.ref a) "__hash__" _ >>= _) Q E s;refine ah (wpAny_callSpecialIfBoundUnlessNone?_slot hT F.slot_tuple_hash (cQ F.slot_tuple_hash hT F.entry_tuple_hash ?_ (F.args_tuple_hash_1 _)));show wpAny _ _ (zt (.ref a) >>= _) _ _ s;refine ah (Fs ho hd ?_);refine ah ?_;rw [<-my];refine mO _
  (fun rest (b:Array Int) s'=>∃ done left,ks=done++left/\ur knd s.heap left rest/\b.toList=done.map knd.hash/\s'={ s with toks:=s.toks+ml knd done })
  _ ?_ ?_ _ _ ⟨[],ks,rfl,hi,rfl,rfl⟩
 ·rintro x rest b s' ⟨done,left,rfl,hl,hb,rfl⟩;cases hl with
  | @cons k _ ks' _ h1 hl' =>
   refine ah (knd.pyHash hu.2 h1 ?_)
   first
    | exact az ⟨done++[k],ks',by simp,hl',by simp [hb],by simp [vZ,qk]⟩
    | exact ah (az (az ⟨done++[k],ks',by simp,hl',by simp [hb],by simp [vZ,qk]⟩))
 ·rintro b s' ⟨done,left,rfl,hl,hb,rfl⟩;cases hl;rw [cj] at h;show wpAny _ _ (retInt (eE b.toList)) _ _ _;rw [hb];refine wpAny_ret_mkInt ?_;show wpAny _ _ (if (decide (-(2:Int) ^ 63<=eE (done.map knd.hash))&&decide (eE (done.map knd.hash) < 2 ^ 63))=true then _ else _) Q E _;unfold Ee reduceHash at h;by_cases hr:(decide (-(2:Int) ^ 63<=eE (done.map knd.hash))&&decide (eE (done.map knd.hash) < 2 ^ 63))=true
  ·rw [if_pos hr];rw [if_pos hr] at h;exact az (by simpa [qk] using h)
  ·rw [if_neg hr];rw [if_neg hr] at h;exact ah (wpAny_rule (az (by simpa [qk] using h)))
theorem Ke{x y:List K}{a b:Addr}{P:Fin->aA->Prop}(hu:knd.room A)(hx:uv knd s.heap x a)(hy:uv knd s.heap y b)(h:P (.done (.ret (.bool (decide (x=y))))) s) :
  wpAny (model prog w) A (Builtin.«tuple.__eq__» ⟨[.ref a,.ref b],[]⟩) P E s:=by
 have hTb:=hy.typeIs;obtain⟨oa,xs,na,hoa,_,hda,hia⟩:=hx;obtain⟨ob,ys,nb,hob,_,Ep,hib⟩:=hy;show wpAny _ _ (isInstance (.ref b) (.type "tuple") >>= _) _ _ s;refine ah (mN hTb zT ?_);simp only [bF,ay,if_false];refine ah (Fs hoa hda ?_);refine ah (Fs hob Ep ?_);refine ah ?_;refine mO _
  (fun rest r s'=>r.1=none/\s'=s/\∃ x' y' OF Xf,rest=List.zip OF Xf/\ur knd s.heap x' OF/\ur knd s.heap y' Xf/\decide (x'=y')=decide (x=y)/\(OF.length == Xf.length)=(xs.size == ys.size))
  _ ?_ ?_ _ _ ⟨rfl,rfl,x,y,xs.toList,ys.toList,rfl,hia,hib,rfl,by simp⟩
 ·rintro⟨u,v⟩ rest r s' ⟨hr,rfl,x',y',OF,Xf,hz,W2,UI,Tu,hlen⟩;cases W2 with
  | nil=>simp at hz
  | @cons k1 u' x'' Z0 h1 aaR =>
   cases UI with
   | nil=>simp at hz
   | @cons k2 v' y'' ZZ h2 aaO =>
    simp only [rV,List.cons.injEq,Prod.mk.injEq] at hz;obtain⟨⟨rfl,rfl⟩,rfl⟩:=hz;refine ah (knd.eqBool hu h1 h2 ?_);by_cases hk:k1=k2
    ·subst hk;rw [decide_eq_true rfl];simp only [bF,ay,if_false];refine az ⟨rfl,rfl,x'',y'',Z0,ZZ,rfl,aaR,aaO,?_,by simpa using hlen⟩;rw [<-Tu];by_cases W0:x''=y''
     ·simp [W0]
     ·simp [W0]
    ·rw [decide_eq_false hk];simp only [di,if_true];have hf:decide (x=y)=false:=by rw [<-Tu]; simp [hk]
     rw [hf] at h;exact ah (az (az (az h)))
 ·rintro⟨r1,r2⟩ s' ⟨hr,rfl,x',y',OF,Xf,hz,W2,UI,Tu,hlen⟩;simp only at hr;subst hr;refine az ?_;have abp:(xs.size == ys.size)=decide (x=y):=by
   rw [<-Tu,<-hlen];cases W2 with
   | nil =>
    cases UI with
    | nil=>simp
    | cons _ _=>simp
   | cons _ _ =>
    cases UI with
    | nil=>simp
    | cons _ _=>simp at hz
  show P (.done (.ret (.bool (xs.size == ys.size)))) s';rw [abp]; exact h
theorem Dc{x y:List K}{a b:Addr}{Q:Bool->aA->Prop}(hu:A.units < cLine/\knd.room A.in1)(hx:uv knd s.heap x a)(hy:uv knd s.heap y b)(h:Q (decide (x=y)) s) :
  wpAny (model prog w) A (eqBool (.ref a) (.ref b)) Q E s:=by
 unfold eqBool
 try with_reducible refine cG ?_
 show wpAny _ _ (if (fK a == fK b)=true then _ else _) Q E s;by_cases Wl:(fK a == fK b)=true
 ·rw [if_pos Wl];have e:a=b:=by have:=eq_of_beq Wl; injection this
  subst e;obtain rfl:=hx.inj hy;exact ah (wpAny_rule (az (by simpa using h)))
 ·rw [if_neg Wl];exact ah (wpAny_richCompare_same_room (op:=.Eq) hx.typeIs hy.typeIs F.slot_tuple_eq
   (cQ F.slot_tuple_eq hx.typeIs F.entry_tuple_eq (Ke hu.2 hx hy ⟨_,rfl,(fun e=>nomatch e),pL h⟩) (F.args_tuple_eq_2 _ _)) hu.1)
theorem Ay{ks:List K}{a:Addr}{Q:Bool->aA->Prop}(n:Nat)(hq:∀ (k:K) (b:Addr) (Q:Bool->aA->Prop),knd.is s.heap k b->Q true s->wpAny (model prog w) A (Ox n (.ref b)) Q E s)(hk:uv knd s.heap ks a)(h:Q true s):wpAny (model prog w) A (Ox (n+1) (.ref a)) Q E s:=by
 have hT:=hk.typeIs;obtain⟨o,items,n',ho,_,hd,hi⟩:=hk;unfold Ox;refine ah (zO hT F.slot_tuple_eq.lookup ?_);show wpAny _ _ (isInstance (.ref a) (.type "tuple") >>= _) _ _ s;refine ah (mN hT zT ?_);simp only [bF,ay,if_false];refine ah (ke ho hd ?_);refine ah ?_;show wpAny _ _ (forIn items _ _) _ _ s;rw [<-my];refine mO _ (fun rest r s'=>r.1=none/\s'=s/\∃ l,ur knd s.heap l rest) _ ?_ ?_ _ _ ⟨rfl,rfl,_,hi⟩
 ·rintro v rest r s' ⟨hr,rfl,l,xS⟩;cases xS with
  | cons h1 h2 =>
   refine ah (hq _ _ _ h1 ?_);simp only [bF,ay,if_false];exact az ⟨rfl,rfl,_,h2⟩
 ·rintro⟨r1,r2⟩ s' ⟨hr,rfl,_⟩;simp only at hr;subst hr;exact az h
end
theorem Le{prog:bE}{w:World}{K:Type} [DecidableEq K]{knd:KeyKind prog w K}{A:dg}{E:Value->aA->Prop}{s:aA}{ks:List K}{a:Addr}{Q:Bool->aA->Prop}(n:Nat)(hk:IsTupleKey knd s.heap ks a)(h:Q true s):wpAny (model prog w) A (Ox (n+1) (.ref a)) Q E s:=by
 have hT:=hk.typeIs;obtain⟨o,items,n',ho,_,hd,hi⟩:=hk;unfold Ox;refine ah (zO hT F.slot_tuple_eq.lookup ?_);show wpAny _ _ (isInstance (.ref a) (.type "tuple") >>= _) _ _ s;refine ah (mN hT zT ?_);simp only [bF,ay,if_false];refine ah (ke ho hd ?_);refine ah ?_;show wpAny _ _ (forIn items _ _) _ _ s;rw [<-my];refine mO _ (fun rest r s'=>r.1=none/\s'=s/\∀ v∈rest,carriedByValue v=true) _ ?_ ?_ _ _ ⟨rfl,rfl,hi.byValue⟩
 ·rintro v rest r s' ⟨hr,rfl,xS⟩;rw [eqIsQuiet_byValue _ (xS v cA)];refine ah (az ?_);simp only [bF,ay,if_false];exact az ⟨rfl,rfl,fun u Fi=>xS u (aJ _ Fi)⟩
 ·rintro⟨r1,r2⟩ s' ⟨hr,rfl,_⟩;simp only at hr;subst hr;exact az h
section
variable {prog:bE} {w:World}
def WW{K:Type} [DecidableEq K](knd:KeyKind prog w K):Fy prog w (List (List K)) where
 is:=uv (iS knd)
 hash:=Ee (iS knd)
 draws:=fun ks=>ml (iS knd) ks+1
 room:=fun A=>A.units < cLine/\(iS knd).room A.in1
 inj:=fun hx hy=>hx.inj hy
 keeps:=fun x ho hd hs=>x.keeps ho hd hs
 pyHash:=fun hu hk h=>LQ hu hk h
 eqBool:=fun hu hx hy h=>Dc hu hx hy h
 quiet:=fun hk h=>Ay 7 (fun _ _ _ h1 h2=>Le 6 h1 h2) hk h
def nk3{K:Type} [DecidableEq K](knd:KeyKind prog w K):Fy prog w (List (List (List K))) where
 is:=uv (WW knd)
 hash:=Ee (WW knd)
 draws:=fun ks=>ml (WW knd) ks+1
 room:=fun A=>A.units < cLine/\(WW knd).room A.in1
 inj:=fun hx hy=>hx.inj hy
 keeps:=fun x ho hd hs=>x.keeps ho hd hs
 pyHash:=fun hu hk h=>LQ hu hk h
 eqBool:=fun hu hx hy h=>Dc hu hx hy h
 quiet:=fun hk h=>Ay 7 (fun _ _ _ h1 h2=>Ay 6 (fun _ _ _ h3 h4=>Le 5 h3 h4) h1 h2) hk h
theorem M3{K:Type} [DecidableEq K]{knd:KeyKind prog w K}{A:dg}(hu:A.units+8 < cLine):(nk3 knd).room A:=by
 refine⟨?_,?_,?_⟩
 ·lia
 ·show A.units+1 < cLine; lia
 ·show A.units+1+1 < cLine; lia
theorem Gw{K:Type} [DecidableEq K]{knd:KeyKind prog w K}{A:dg}(hu:A.units+8 < cLine):(nk3 knd).room A.in1:=by
 refine⟨?_,?_,?_⟩
 ·show A.units+1 < cLine; lia
 ·show A.units+1+1 < cLine; lia
 ·show A.units+1+1+1 < cLine; lia
end
section
variable {K:Type} [DecidableEq K]
def Vc(xs:List (K×Addr×Value))(k:K):List (K×Addr×Value):=xs.filter fun x=>decide (x.1≠k)
theorem Mt{xs:List (K×Addr×Value)}(hn:(xs.map (·.1)).Nodup):∀ {j:Nat} {k:K} {p:Addr×Value},xs[j]?=some (k,p)->xs.eraseIdx j=Vc xs k:=by
 induction xs with
 | nil=>intro j k p h; simp at h
 | cons x r ih =>
  intro j k p h;rw [ak,aY] at hn;cases j with
  | zero =>
   simp only [aa,Mr] at h;subst h;unfold Vc;rw [N6,N5 (by simp)];symm;refine List.filter_eq_self.mpr fun y hy=>?_;have:y.1≠k:=fun z=>hn.1 (List.mem_map.mpr ⟨y,hy,z⟩);simpa using this
  | succ j =>
   simp only [ae] at h;have:x.1≠k:=fun z=>hn.1 (by rw [z]; exact List.mem_map.mpr ⟨_,gO h,rfl⟩);unfold Vc;rw [N7,N1 (by simpa using this),ih hn.2 h];rfl
theorem CQ{α β:Type}(f:α->β):∀ (l:List α) (j:Nat),(l.eraseIdx j).map f=(l.map f).eraseIdx j
 | [],_=>rfl
 | _ :: _,0=>rfl
 | a :: l,j+1=>congrArg (f a :: ·) (CQ f l j)
end
section
variable {prog:bE} {w:World} {K:Type} [DecidableEq K] {knd:Fy prog w K} {A:dg} {E:Value->aA->Prop} {s:aA}
theorem DR{d a:Addr}{xs:List (K×Addr×Value)}{k:K}{p:Addr×Value}{Q:Option fL->aA->Prop}(hu:knd.room A)(Tq:knd.is s.heap k a)(hm:s.heap.DictOfH knd d xs)(hp:atKey xs k=some p)(hsz:xs.length<=a9)
  (hQ:∀ e:fL,e.val=p.2->∀ h',h'.DictOfH knd d (Vc xs k)->fI d s.heap h'->Q (some e) { s with heap:=h',toks:=s.toks+knd.draws k }) :
  wpAny (model prog w) A (FD d (.ref a)) Q E s:=by
 obtain⟨o,es,ep,ho,hc,hd,he,his,hn⟩:=hm;unfold FD
 try with_reducible refine cG ?_
 refine ah (knd.pyHash hu Tq (ah (wpAny_dictFind_heap (s:={ s with toks:=s.toks+knd.draws k }) hu Tq ho hd he his hn ?_ ?_)))
 ·intro We;rw [atKey_none_of_get We] at hp; cases hp
 ·intro j q hj;rw [atKey_of_get hn hj] at hp;cases hp;refine ah (gm (s:={ s with toks:=s.toks+knd.draws k }) ho hd ?_);rw [entry_at he j,hj]
  refine ah (wpAny_updateDictKeys (hz:=by have e:=size_of_entries he; lia) (s:={ s with toks:=s.toks+knd.draws k }) ho hd (az (hQ _ rfl _ ⟨_,_,ep+1,kg _ ho (Obj.isFreed_of_dict (Obj.data_mapDictKeys hd _)),
   hc.mapDictKeys _,Obj.data_mapDictKeys hd _,?_,?_,?_⟩ (kh ..))))
  ·rw [<-Mt hn hj,CQ,<-he];obtain⟨l⟩:=es;simp
  ·intro x hx;exact knd.keeps (his x (List.mem_filter.mp hx).1) ho hd (kh ..)
  ·exact oW (mT _ lK) hn
theorem Pq{d a:Addr}{xs:List (K×Addr×Value)}{k:K}{p:Addr×Value}{Q:Value->aA->Prop}(hu:knd.room A.in1)(Tq:knd.is s.heap k a)(hm:s.heap.DictOfH knd d xs)(hp:atKey xs k=some p)(hsz:xs.length<=a9)
  (hQ:∀ h',h'.DictOfH knd d (Vc xs k)->fI d s.heap h'->Q p.2 { s with heap:=h',toks:=s.toks+knd.draws k }) :
  wpAny (model prog w) A (call (.builtin "dict.pop") [.ref d,.ref a]) Q E s:=by
 have hT:s.TypeIs (.ref d) "dict":=by obtain⟨o,es,ep,ho,hc,_⟩:=hm; exact⟨o,ho,hc.1⟩
 refine cQ uP hT PySem.F.entry_dict_pop ?_ (PySem.F.args_dict_pop_2 _ _);unfold Builtin.«dict.pop»;refine ah ?_;unfold Builtin.Dict.keyAndDefault;refine ah (qj hT ?_);show wpAny _ _ (pure (d,fK a,none)) _ _ s;refine az ?_;have hm':=hm;obtain⟨o,es,ep,ho,hc,hd,he,his,hn⟩:=hm';have zh:es.isEmpty=false:=by
  have:xs≠[]:=by rintro rfl; cases hp
  have h2:=size_of_entries he;have h3:0 < xs.length:=List.length_pos_iff.mpr this;rw [Array.isEmpty_eq_false_iff];rintro rfl;simp at h2; lia
 simp only [keyPart,Option.isSome_none,ay,if_false];refine ah (gm ho hd (ah (az ?_)));rw [zh,if_neg iG];refine ah (DR hu Tq hm hp hsz fun e hv h' hm' UK=>?_);simp only [Option.isNone_some,ay,if_false];exact ah (sf (az ⟨e.val,rfl,by rw [hv]; exact hQ h' hm' UK⟩))
end
end K2
end
section
namespace K2
open PySem PySem.Spec PyProof.Rows L2
def Xb(K:ar)(H:Hp)(a:Addr)(xs:List V):Prop :=
 (∃ o,H a=some (.jC o (.lst xs))) \/
  ∃ (o:Obj) (bQ:Array Value) (n:Nat),K.lookup a=some o/\o.cls=.type "list"/\o.dict=none/\o.data=.seq bQ n/\bQ.size<=a9/\Vals xs bQ.toList
theorem Xb.sq{K:ar}{H:Hp}{a:Addr}{xs:List V}(h:Xb K H a xs):qL K H a xs:=by
 rcases h with ⟨o,h⟩ | h
 ·exact .inl (.inr ⟨o,h⟩)
 ·exact .inr h
def eV:Key->D
 | .inl i=>.int i
 | .inr x=>.str x
def ExcAt(K:ar)(H:Hp)(a:Addr)(c:Str):Prop:=∃ (o:Obj) (C:Addr),H a=some (.jC o (.ext fun h=>h.get? a=some o))/\o.cls=.ref C/\e7 K bR c=some (some (.ref C))
def Ml(K:ar)(H:Hp)(a:Addr)(c:Str)(ns:List Str)(vs:List V):Prop:=∃ (o:Obj) (C dx:Addr) (od:Obj) (fs:List (Str×V)),H a=some (.jC o (.ext fun h=>h.get? a=some o))/\o.cls=.ref C/\e7 K bR c=some (some (.ref C))/\o.dict=some dx/\H dx=some (.jC od (.xd fs))/\PySem.W.notCls o=true/\fs.map (·.1)=ns/\fs.map (·.2)=vs
def hsT(hs:List Int):Int:=reduceHash (eE hs)
def hP(k:PK):Int:=hsT (k.map fun r=>hsT (r.map fun t=>hsT (t.map hashInt)))
def Kw(a:Addr)(xs:List (PK×Addr×Value))(h:Heap):Prop:=xs.length<=a9/\(a == cS)=false/\∃ (o:Obj) (es:Array fL) (ep:Nat),h.get? a=some o/\o.ExactDict/\o.data=.dict es ep/\es.toList=xs.map (fun x=>⟨hP x.1,.ref x.2.1,x.2.2⟩)/\(xs.map (·.1)).Nodup
def T7(kvs:List (PK×D))(ks vs:List V)(xs:List (PK×Addr×Value)):Prop:=kvs.map (fun p=>p.1)=xs.map (fun x=>x.1)/\ks=xs.map (fun x=>V.ref x.2.1)/\Vals vs (xs.map fun x=>x.2.2)
mutual
inductive b7 (K:ar) (H:Hp):V->D->Prop
 | fg:b7 K H .fg .fg
 | bl (b:Bool):b7 K H (.bl b) (.bl b)
 | int (i:Int):b7 K H (.int i) (.int i)
 | str (x:Str):b7 K H (.str x) (.str x)
 | tup {a:Addr} {vs:List V} {ds:List D}:H a=some (.tup vs)->bq K H vs ds->b7 K H (.ref a) (.tup ds)
 | dN {a:Addr} {vs:List V} {ds:List D}:Xb K H a vs->bq K H vs ds->b7 K H (.ref a) (.dN ds)
 | qo {a:Addr} {o:Obj} {kv:List (Key×V)} {kvs:List (D×D)}:H a=some (.jC o (.dK kv))->mW K H kv kvs->b7 K H (.ref a) (.iL kvs)
 | qm {a:Addr} {o:Obj} {kv:List (List Key×V)} {kvs:List (D×D)}:H a=some (.jC o (.dT kv))->oh K H kv kvs->b7 K H (.ref a) (.iL kvs)
 | ref (a:Addr):b7 K H (.ref a) (.ref a)
 | exc {a:Addr} {c:Str}:ExcAt K H a c->b7 K H (.ref a) (.exc c)
 | Hv {a:Addr} {c:Str} {ns:List Str} {vs:List V} {ds:List D}:Ml K H a c ns vs->bq K H vs ds->b7 K H (.ref a) (.Hv c ns ds)
 | oY {a:Addr} {o:Obj} {xs:List (PK×Addr×Value)} {ks vs:List V} {kvs:List (PK×D)}:H a=some (.jC o (.ext (Kw a xs)))->T7 kvs ks vs xs->bq K H ks (kvs.map fun p=>rJ p.1)->bq K H vs (kvs.map fun p=>p.2)->b7 K H (.ref a) (.oY kvs)
inductive bq (K:ar) (H:Hp):List V->List D->Prop
 | nil:bq K H [] []
 | cons {v:V} {d:D} {vs:List V} {ds:List D}:b7 K H v d->bq K H vs ds->bq K H (v :: vs) (d :: ds)
inductive mW (K:ar) (H:Hp):List (Key×V)->List (D×D)->Prop
 | nil:mW K H [] []
 | cons {k:Key} {v:V} {d:D} {r:List (Key×V)} {t:List (D×D)}:b7 K H v d->mW K H r t->mW K H ((k,v) :: r) ((eV k,d) :: t)
inductive oh (K:ar) (H:Hp):List (List Key×V)->List (D×D)->Prop
 | nil:oh K H [] []
 | cons {k:List Key} {v:V} {d:D} {r:List (List Key×V)} {t:List (D×D)}:b7 K H v d->oh K H r t->oh K H ((k,v) :: r) ((.tup (k.map eV),d) :: t)
end
structure Kp(H H':Hp):Prop where
 tup:∀ a xs,H a=some (.tup xs)->H' a=some (.tup xs)
 jC:∀ a o u,H a=some (.jC o u)->H' a=some (.jC o u)
theorem Kp.refl(H:Hp):Kp H H:=⟨fun _ _ h=>h,fun _ _ _ h=>h⟩
theorem Kp.trans{H H1 H2:Hp}(a:Kp H H1)(b:Kp H1 H2):Kp H H2:=⟨fun c xs h=>b.tup c xs (a.tup c xs h),fun c o u h=>b.jC c o u (a.jC c o u h)⟩
theorem Kp.sqT{K:ar}{H H':Hp}{a:Addr}{xs:List V}(k:Kp H H')(h:zL K H a xs):zL K H' a xs:=by
 rcases h with (h | ⟨o,h⟩) | h
 ·exact .inl (.inl (k.tup _ _ h))
 ·exact .inl (.inr ⟨o,k.jC _ _ _ h⟩)
 ·exact .inr h
theorem Kp.Vm{K:ar}{H H':Hp}{a:Addr}{xs:List V}(k:Kp H H')(h:Xb K H a xs):Xb K H' a xs:=by
 rcases h with ⟨o,h⟩ | h
 ·exact .inl ⟨o,k.jC _ _ _ h⟩
 ·exact .inr h
theorem ExcAt.mono{K:ar}{H H':Hp}(k:Kp H H'){a:Addr}{c:Str}(h:ExcAt K H a c):ExcAt K H' a c :=
 let ⟨o,C,h1,h2,h3⟩:=h
 ⟨o,C,k.jC _ _ _ h1,h2,h3⟩
theorem Ml.mono{K:ar}{H H':Hp}(k:Kp H H'){a:Addr}{c:Str}{ns:List Str}{vs:List V}(h:Ml K H a c ns vs):Ml K H' a c ns vs :=
 let ⟨o,C,dx,od,fs,h1,h2,h3,h4,h5,h6⟩:=h
 ⟨o,C,dx,od,fs,k.jC _ _ _ h1,h2,h3,h4,k.jC _ _ _ h5,h6⟩
theorem bq.GY{K:ar}{H:Hp}{P:List V->List D->Prop}(h0:P [] [])(h1:∀ {v:V} {d:D} {vs:List V} {ds:List D},b7 K H v d->bq K H vs ds->P vs ds->P (v :: vs) (d :: ds)){vs:List V}{ds:List D}(h:bq K H vs ds):P vs ds :=
 bq.rec (motive_1:=fun _ _ _=>True) (motive_2:=fun vs ds _=>P vs ds) (motive_3:=fun _ _ _=>True) (motive_4:=fun _ _ _=>True) trivial (fun _=>trivial) (fun _=>trivial) (fun _=>trivial) (fun _ _ _=>trivial) (fun _ _ _=>trivial) (fun _ _ _=>trivial) (fun _ _ _=>trivial) (fun _=>trivial) (fun _=>trivial) (fun _ _ _=>trivial) (fun _ _ _ _ _ _=>trivial) h0 (fun a b _ ih=>h1 a b ih) trivial (fun _ _ _ _=>trivial) trivial (fun _ _ _ _=>trivial) h
theorem b7.mono{K:ar}{H H':Hp}(k:Kp H H'):∀ {v:V} {d:D},b7 K H v d->b7 K H' v d:=fun h =>
 b7.rec (motive_1:=fun v d _=>b7 K H' v d) (motive_2:=fun v d _=>bq K H' v d) (motive_3:=fun v d _=>mW K H' v d) (motive_4:=fun v d _=>oh K H' v d)
  .fg .bl .int .str (fun h _ r=>.tup (k.tup _ _ h) r) (fun h _ r=>.dN (k.Vm h) r) (fun h _ r=>.qo (k.jC _ _ _ h) r) (fun h _ r=>.qm (k.jC _ _ _ h) r) .ref (fun h=>.exc (h.mono k)) (fun h _ r=>.Hv (h.mono k) r) (fun h z _ _ r1 r2=>.oY (k.jC _ _ _ h) z r1 r2) .nil (fun _ _ a b=>.cons a b) .nil (fun _ _ a b=>.cons a b) .nil (fun _ _ a b=>.cons a b) h
theorem bq.mono{K:ar}{H H':Hp}(k:Kp H H'){v:List V}{d:List D}(h:bq K H v d):bq K H' v d :=
 bq.GY (P:=fun v d=>bq K H' v d) .nil (fun r _ ih=>.cons (r.mono k) ih) h
theorem mW.mono{K:ar}{H H':Hp}(k:Kp H H'){v:List (Key×V)}{d:List (D×D)}(h:mW K H v d):mW K H' v d :=
 mW.rec (motive_1:=fun v d _=>b7 K H' v d) (motive_2:=fun v d _=>bq K H' v d) (motive_3:=fun v d _=>mW K H' v d) (motive_4:=fun v d _=>oh K H' v d)
  .fg .bl .int .str (fun h _ r=>.tup (k.tup _ _ h) r) (fun h _ r=>.dN (k.Vm h) r) (fun h _ r=>.qo (k.jC _ _ _ h) r) (fun h _ r=>.qm (k.jC _ _ _ h) r) .ref (fun h=>.exc (h.mono k)) (fun h _ r=>.Hv (h.mono k) r) (fun h z _ _ r1 r2=>.oY (k.jC _ _ _ h) z r1 r2) .nil (fun _ _ a b=>.cons a b) .nil (fun _ _ a b=>.cons a b) .nil (fun _ _ a b=>.cons a b) h
theorem oh.mono{K:ar}{H H':Hp}(k:Kp H H'){v:List (List Key×V)}{d:List (D×D)}(h:oh K H v d):oh K H' v d :=
 oh.rec (motive_1:=fun v d _=>b7 K H' v d) (motive_2:=fun v d _=>bq K H' v d) (motive_3:=fun v d _=>mW K H' v d) (motive_4:=fun v d _=>oh K H' v d)
  .fg .bl .int .str (fun h _ r=>.tup (k.tup _ _ h) r) (fun h _ r=>.dN (k.Vm h) r) (fun h _ r=>.qo (k.jC _ _ _ h) r) (fun h _ r=>.qm (k.jC _ _ _ h) r) .ref (fun h=>.exc (h.mono k)) (fun h _ r=>.Hv (h.mono k) r) (fun h z _ _ r1 r2=>.oY (k.jC _ _ _ h) z r1 r2) .nil (fun _ _ a b=>.cons a b) .nil (fun _ _ a b=>.cons a b) .nil (fun _ _ a b=>.cons a b) h
theorem bq.length{K:ar}{H:Hp}:∀ {vs:List V} {ds:List D},bq K H vs ds->vs.length=ds.length:=fun h =>
 bq.GY (P:=fun vs ds=>vs.length=ds.length) rfl (fun _ _ ih=>congrArg (· + 1) ih) h
theorem bq.get{K:ar}{H:Hp}:∀ {vs:List V} {ds:List D} {i:Nat} {d:D},bq K H vs ds->ds[i]?=some d->∃ v,vs[i]?=some v/\b7 K H v d:=by
 intro vs ds i d h;refine bq.GY (P:=fun vs ds=>∀ (i:Nat) (d:D),ds[i]?=some d->∃ v,vs[i]?=some v/\b7 K H v d) (fun i d e=>by cases e) (fun r _ ih i d e=>?_) h i d;cases i with
 | zero=>cases e; exact⟨_,rfl,r⟩
 | succ i=>exact ih i d e
theorem bq.append{K:ar}{H:Hp}:∀ {vs ws:List V} {ds es:List D},bq K H vs ds->bq K H ws es->bq K H (vs++ws) (ds++es):=fun {_ ws _ es} h s =>
 bq.GY (P:=fun vs ds=>bq K H (vs++ws) (ds++es)) s (fun r _ ih=>.cons r ih) h
theorem bq.take{K:ar}{H:Hp}:∀ {vs:List V} {ds:List D} (n:Nat),bq K H vs ds->bq K H (vs.take n) (ds.take n):=fun {_ _} n h =>
 bq.GY (P:=fun vs ds=>∀ n,bq K H (vs.take n) (ds.take n)) (fun n=>by rw [BR,BR]; exact .nil) (fun r _ ih n=>by
  cases n with
  | zero=>exact .nil
  | succ n=>exact .cons r (ih n)) h n
theorem bq.drop{K:ar}{H:Hp}:∀ {vs:List V} {ds:List D} (n:Nat),bq K H vs ds->bq K H (vs.drop n) (ds.drop n):=fun {_ _} n h =>
 bq.GY (P:=fun vs ds=>∀ n,bq K H (vs.drop n) (ds.drop n)) (fun n=>by rw [BU,BU]; exact .nil) (fun r t ih n=>by
  cases n with
  | zero=>exact .cons r t
  | succ n=>exact ih n) h n
theorem bq.set{K:ar}{H:Hp}{v:V}{d:D}(r:b7 K H v d):∀ {vs:List V} {ds:List D} (i:Nat),bq K H vs ds->bq K H (vs.set i v) (ds.set i d):=fun {_ _} i h =>
 bq.GY (P:=fun vs ds=>∀ i,bq K H (vs.set i v) (ds.set i d)) (fun i=>by rw [DH,DH]; exact .nil) (fun q t ih i=>by
  cases i with
  | zero=>exact .cons r t
  | succ i=>exact .cons q (ih i)) h i
theorem bq.one{K:ar}{H:Hp}:∀ {vs:List V} {d:D},bq K H vs [d]->∃ v,vs=[v]/\b7 K H v d:=by
 intro vs d h;cases h with
 | cons r t=>cases t; exact⟨_,rfl,r⟩
theorem bq.two{K:ar}{H:Hp}:∀ {vs:List V} {d e:D},bq K H vs [d,e]->∃ v u,vs=[v,u]/\b7 K H v d/\b7 K H u e:=by
 intro vs d e h;cases h with
 | cons r t =>
  obtain⟨u,rfl,q⟩:=bq.one t;exact⟨_,_,rfl,r,q⟩
theorem bq.zero{K:ar}{H:Hp}:∀ {vs:List V},bq K H vs []->vs=[]
 | _,.nil=>rfl
theorem bq.ints{K:ar}{H:Hp}:∀ {vs:List V} {ns:List Int},bq K H vs (ns.map D.int)->vs=ns.map V.int:=by
 intro vs ns;induction ns generalizing vs with
 | nil=>intro h; exact h.zero
 | cons n ns ih =>
  intro h;cases h with
  | cons r t =>
   cases r;rw [ih t]; rfl
theorem bq.Lw{K:ar}{H:Hp}:∀ (ns:List Int),bq K H (ns.map V.int) (ns.map D.int)
 | []=>.nil
 | n :: ns=>.cons (.int n) (bq.Lw ns)
theorem mW.ind{K:ar}{H:Hp}{motive:∀ (kv:List (Key×V)) (kvs:List (D×D)),mW K H kv kvs->Prop}(nil:motive [] [] .nil)
  (cons:∀ {k:Key} {v:V} {d:D} {r:List (Key×V)} {t:List (D×D)} (re:b7 K H v d) (rs:mW K H r t),motive r t rs->motive ((k,v) :: r) ((eV k,d) :: t) (.cons re rs)):∀ {kv:List (Key×V)} {kvs:List (D×D)} (h:mW K H kv kvs),motive kv kvs h:=fun h =>
 mW.rec (motive_1:=fun _ _ _=>True) (motive_2:=fun _ _ _=>True) (motive_3:=motive) (motive_4:=fun _ _ _=>True) trivial (fun _=>trivial) (fun _=>trivial) (fun _=>trivial) (fun _ _ _=>trivial) (fun _ _ _=>trivial) (fun _ _ _=>trivial) (fun _ _ _=>trivial) (fun _=>trivial) (fun _=>trivial) (fun _ _ _=>trivial) (fun _ _ _ _ _ _=>trivial) trivial (fun _ _ _ _=>trivial) nil (fun a b _ ih=>cons a b ih) trivial (fun _ _ _ _=>trivial) h
theorem oh.ind{K:ar}{H:Hp}{motive:∀ (kv:List (List Key×V)) (kvs:List (D×D)),oh K H kv kvs->Prop}(nil:motive [] [] .nil)
  (cons:∀ {k:List Key} {v:V} {d:D} {r:List (List Key×V)} {t:List (D×D)} (re:b7 K H v d) (rs:oh K H r t),motive r t rs->motive ((k,v) :: r) ((.tup (k.map eV),d) :: t) (.cons re rs)):∀ {kv:List (List Key×V)} {kvs:List (D×D)} (h:oh K H kv kvs),motive kv kvs h:=fun h =>
 oh.rec (motive_1:=fun _ _ _=>True) (motive_2:=fun _ _ _=>True) (motive_3:=fun _ _ _=>True) (motive_4:=motive) trivial (fun _=>trivial) (fun _=>trivial) (fun _=>trivial) (fun _ _ _=>trivial) (fun _ _ _=>trivial) (fun _ _ _=>trivial) (fun _ _ _=>trivial) (fun _=>trivial) (fun _=>trivial) (fun _ _ _=>trivial) (fun _ _ _ _ _ _=>trivial) trivial (fun _ _ _ _=>trivial) trivial (fun _ _ _ _=>trivial) nil (fun a b _ ih=>cons a b ih) h
theorem mW.length{K:ar}{H:Hp}:∀ {v:List (Key×V)} {d:List (D×D)},mW K H v d->v.length=d.length:=fun h =>
 mW.ind (motive:=fun v d _=>v.length=d.length) rfl (fun _ _ ih=>congrArg (· + 1) ih) h
theorem oh.length{K:ar}{H:Hp}:∀ {v:List (List Key×V)} {d:List (D×D)},oh K H v d->v.length=d.length:=fun h =>
 oh.ind (motive:=fun v d _=>v.length=d.length) rfl (fun _ _ ih=>congrArg (· + 1) ih) h
def KA(K:ar)(H:Hp)(a:Addr):GO->Prop
 | .lst ds=>∃ vs,H a=some (.lst vs)/\bq K H vs ds
 | .eW kvs=>(∃ kv,H a=some (.dK kv)/\mW K H kv kvs)\/∃ kv,H a=some (.dT kv)/\oh K H kv kvs
 | .ins c fs=>∃ C dx fv,H a=some (.ins C dx fv)/\e7 K bR c=some (some (.ref C))/\fv.map (·.1)=fs.map (·.1)/\bq K H (fv.map (·.2)) (fs.map (·.2))
 | .ua kvs=>∃ xs ks vs,H a=some (.ext (Kw a xs))/\T7 kvs ks vs xs/\bq K H ks (kvs.map fun p=>rJ p.1)/\bq K H vs (kvs.map fun p=>p.2)
def mM(K:ar)(H:Hp)(G:Gp):Prop:=∀ a g,G a=some g->KA K H a g
theorem KA.dk{K:ar}{H:Hp}{a:Addr}{kv:List (Key×V)}{kvs:List (D×D)}(h:H a=some (.dK kv))(r:mW K H kv kvs):KA K H a (.eW kvs):=.inl ⟨kv,h,r⟩
theorem KA.dt{K:ar}{H:Hp}{a:Addr}{kv:List (List Key×V)}{kvs:List (D×D)}(h:H a=some (.dT kv))(r:oh K H kv kvs):KA K H a (.eW kvs):=.inr ⟨kv,h,r⟩
theorem KA.mono{K:ar}{H H':Hp}{a:Addr}{g:GO}(k:Kp H H')(e:H' a=H a)(h:KA K H a g):KA K H' a g:=by
 cases g with
 | lst ds=>obtain⟨vs,q,r⟩:=h; exact⟨vs,e.trans q,r.mono k⟩
 | ins c fs=>obtain⟨C,dx,fv,q,h1,h2,r⟩:=h; exact⟨C,dx,fv,e.trans q,h1,h2,r.mono k⟩
 | ua kvs=>obtain⟨xs,ks,vs,q,h1,r1,r2⟩:=h; exact⟨xs,ks,vs,e.trans q,h1,r1.mono k,r2.mono k⟩
 | eW kvs =>
  rcases h with ⟨kv,q,r⟩ | ⟨kv,q,r⟩
  ·exact .inl ⟨kv,e.trans q,r.mono k⟩
  ·exact .inr ⟨kv,e.trans q,r.mono k⟩
theorem KA.tracked{K:ar}{H:Hp}{a:Addr}{g:GO}(h:KA K H a g):H a≠none:=by
 cases g with
 | lst ds=>obtain⟨vs,q,r⟩:=h; rw [q]; simp
 | ins c fs=>obtain⟨C,dx,fv,q,_⟩:=h; rw [q]; simp
 | ua kvs=>obtain⟨xs,ks,vs,q,_⟩:=h; rw [q]; simp
 | eW kvs =>
  rcases h with ⟨kv,q,r⟩ | ⟨kv,q,r⟩
  ·rw [q]; simp
  ·rw [q]; simp
theorem mM.free{K:ar}{H:Hp}{G:Gp}{a:Addr}(h:mM K H G)(e:H a=none):G a=none:=by
 cases q:G a with
 | none=>rfl
 | some g=>exact absurd e (h a g q).tracked
theorem mM.XJ{K:ar}{H:Hp}{G:Gp}{a:Addr}{xs:List V}(h:mM K H G)(e:H a=some (.tup xs)):G a=none:=by
 cases q:G a with
 | none=>rfl
 | some g =>
  have z:=h a g q;cases g with
  | lst ds=>obtain⟨vs,q,r⟩:=z; rw [e] at q; cases q
  | ins c fs=>obtain⟨C,dx,fv,q,_⟩:=z; rw [e] at q; cases q
  | ua kvs=>obtain⟨xs,ks,vs,q,_⟩:=z; rw [e] at q; cases q
  | eW kvs =>
   rcases z with ⟨kv,q,r⟩ | ⟨kv,q,r⟩
   ·rw [e] at q; cases q
   ·rw [e] at q; cases q
theorem mM.XO{K:ar}{H:Hp}{G:Gp}{a:Addr}{o:Obj}{u:HO}(h:mM K H G)(e:H a=some (.jC o u)):G a=none:=by
 cases q:G a with
 | none=>rfl
 | some g =>
  have z:=h a g q;cases g with
  | lst ds=>obtain⟨vs,q,r⟩:=z; rw [e] at q; cases q
  | ins c fs=>obtain⟨C,dx,fv,q,_⟩:=z; rw [e] at q; cases q
  | ua kvs=>obtain⟨xs,ks,vs,q,_⟩:=z; rw [e] at q; cases q
  | eW kvs =>
   rcases z with ⟨kv,q,r⟩ | ⟨kv,q,r⟩
   ·rw [e] at q; cases q
   ·rw [e] at q; cases q
structure Mv(K:ar)(H:Hp)(G:Gp)(H':Hp)(G':Gp):Prop where
 keep:∀ a o,H a=some o->G a=none->H' a=some o/\G' a=none
 k9:∀ a,G a≠none->H' a≠none
 ab:mM K H' G'
theorem Mv.refl{K:ar}{H:Hp}{G:Gp}(h:mM K H G):Mv K H G H G:=⟨fun _ _ e n=>⟨e,n⟩,fun a n=>by
 cases q:G a with
 | none=>exact absurd q n
 | some g=>exact(h a g q).tracked,h⟩
theorem Mv.trans{K:ar}{H H1 H2:Hp}{G G1 G2:Gp}(a:Mv K H G H1 G1)(b:Mv K H1 G1 H2 G2):Mv K H G H2 G2 :=
 ⟨fun c o e n=>let ⟨e1,n1⟩:=a.keep c o e n; b.keep c o e1 n1,fun c n=>by
  have h1:=a.k9 c n;cases q:G1 c with
  | some g=>exact b.k9 c (by rw [q]; simp)
  | none =>
   cases q1:H1 c with
   | none=>exact absurd q1 h1
   | some o=>rw [(b.keep c o q1 q).1]; simp,b.ab⟩
theorem Mv.kp{K:ar}{H H':Hp}{G G':Gp}(m:Mv K H G H' G')(h:mM K H G):Kp H H' :=
 ⟨fun a xs e=>(m.keep a _ e (h.XJ e)).1,fun a o u e=>(m.keep a _ e (h.XO e)).1⟩
theorem Kp.new{H:Hp}{p:Addr}{o:HO}(hp:H p=none):Kp H (upd H p o):=⟨fun a xs e=>by rw [bz (eC e hp)]; exact e,fun a ob u e=>by rw [bz (eC e hp)]; exact e⟩
theorem Kp.putL{H:Hp}{p:Addr}{xs:List V}{o:HO}(hp:H p=some (.lst xs)):Kp H (upd H p o) :=
 ⟨fun a ys e=>by rw [bz (by rintro rfl; rw [hp] at e; cases e)]; exact e,fun a ob u e=>by rw [bz (by rintro rfl; rw [hp] at e; cases e)]; exact e⟩
theorem Mv.new{K:ar}{H:Hp}{G:Gp}{p:Addr}{o:HO}{g:GO}(h:mM K H G)(hp:H p=none)(ho:KA K (upd H p o) p g):Mv K H G (upd H p o) (dH G p g) where
 keep:=fun a ob e n=>by
  have ne:=eC e hp;exact⟨by rw [bz ne]; exact e,by rw [cw ne]; exact n⟩
 k9:=fun a n=>by
  have ne:a≠p:=by rintro rfl; exact n (h.free hp)
  rw [bz ne];exact(Mv.refl h).k9 a n
 ab:=fun a g' e=>by
  by_cases ha:a=p
  ·subst ha; rw [ax] at e; cases e; exact ho
  ·rw [cw ha] at e;exact(h a g' e).mono (.new hp) (bz ha)
theorem Mv.Nz{K:ar}{H:Hp}{G:Gp}{p:Addr}{o:HO}(h:mM K H G)(hp:H p=none):Mv K H G (upd H p o) G where
 keep:=fun a ob e n=>⟨by rw [bz (eC e hp)]; exact e,n⟩
 k9:=fun a n=>by
  have ne:a≠p:=by rintro rfl; exact n (h.free hp)
  rw [bz ne];exact(Mv.refl h).k9 a n
 ab:=fun a g' e=>by
  have ne:a≠p:=by rintro rfl; rw [h.free hp] at e; cases e
  exact(h a g' e).mono (.new hp) (bz ne)
theorem Mv.put{K:ar}{H:Hp}{G:Gp}{p:Addr}{o:HO}{g g0:GO}(h:mM K H G)(hg:G p=some g0)(k:Kp H (upd H p o))(ho:KA K (upd H p o) p g):Mv K H G (upd H p o) (dH G p g) where
 keep:=fun a ob e n=>by
  have ne:a≠p:=by rintro rfl; rw [hg] at n; cases n
  exact⟨by rw [bz ne]; exact e,by rw [cw ne]; exact n⟩
 k9:=fun a n=>by
  by_cases ha:a=p
  ·subst ha; rw [bN]; simp
  ·rw [bz ha]; exact(Mv.refl h).k9 a n
 ab:=fun a g' e=>by
  by_cases ha:a=p
  ·subst ha; rw [ax] at e; cases e; exact ho
  ·rw [cw ha] at e;exact(h a g' e).mono k (bz ha)
theorem mM.lst{K:ar}{H:Hp}{G:Gp}{a:Addr}{ds:List D}(h:mM K H G)(e:G a=some (.lst ds)):∃ vs,H a=some (.lst vs)/\bq K H vs ds:=h a _ e
theorem Mv.Jy{K:ar}{H:Hp}{G:Gp}{p:Addr}{vs:List V}{ds:List D}(h:mM K H G)(hp:H p=none)(r:bq K H vs ds):Mv K H G (upd H p (.lst vs)) (dH G p (.lst ds)) :=
 .new h hp ⟨vs,bN,r.mono (.new hp)⟩
theorem Mv.putL{K:ar}{H:Hp}{G:Gp}{p:Addr}{vs0 vs:List V}{ds0 ds:List D}(h:mM K H G)(hg:G p=some (.lst ds0))(hp:H p=some (.lst vs0))(r:bq K H vs ds):Mv K H G (upd H p (.lst vs)) (dH G p (.lst ds)) :=
 .put h hg (.putL hp) ⟨vs,bN,r.mono (.putL hp)⟩
structure R6(K:ar)(H:Hp)(σ:L2.St)(τ:jc):Prop where
 len:σ.length=τ.length
 at':∀ (i:Nat) (d:D),τ[i]?=some (some d)->∃ v,σ[i]?=some (some v)/\b7 K H v d
theorem R6.mono{K:ar}{H H':Hp}{σ:L2.St}{τ:jc}(k:Kp H H')(a:R6 K H σ τ):R6 K H' σ τ :=
 ⟨a.len,fun i d e=>let ⟨v,h1,h2⟩:=a.at' i d e; ⟨v,h1,h2.mono k⟩⟩
theorem R6.set{K:ar}{H:Hp}{σ:L2.St}{τ:jc}{v:V}{d:D}(a:R6 K H σ τ)(i:Nat)(r:b7 K H v d):R6 K H (σ.set i (some v)) (τ.set i (some d)):=by
 refine⟨by rw [fD,fD]; exact a.len,fun j e h=>?_⟩;by_cases hj:i=j
 ·subst hj;by_cases hi:i < τ.length
  ·rw [eU hi] at h;cases h;exact⟨v,by rw [eU (by rw [a.len]; exact hi)],r⟩
  ·rw [List.set_eq_of_length_le (by lia)] at h;rw [oT (by lia)] at h;cases h
 ·rw [fG hj] at h;obtain⟨w,h1,h2⟩:=a.at' j e h;exact⟨w,by rw [fG hj]; exact h1,h2⟩
structure I2(X:Cx)(pins:List (Addr×Obj))(σ:L2.St)(H:Hp)(τ:jc)(G:Gp)(s:aA):Prop where
 inv:Inv X pins σ H s
 st:R6 X.K H σ τ
 ab:mM X.K H G
theorem I2.mv{X:Cx}{pins:List (Addr×Obj)}{σ:L2.St}{H H':Hp}{τ:jc}{G G':Gp}{s s':aA}(I:I2 X pins σ H τ G s)(I':Inv X pins σ H' s')(m:Mv X.K H G H' G'):I2 X pins σ H' τ G' s' :=
 ⟨I',I.st.mono (m.kp I.ab),m.ab⟩
def CXe(P:bE)(w:World):Kz:=fun outer H s E e s'=>∃ (a C t:Addr) (B:Heap) (H':Hp),e=.ref a/\s'.os=s.os/\zY s'.gens/\Un (NF outer) [] H H' s.heap s'.heap/\pJ P w H' s'.heap /\
 (∀ b o,s'.heap.get? b=some o->b∉NF outer->(s.heap.get? b≠none\/H' b≠none)->B.get? b=some o)/\PySem.Heap.FlyingW B outer a (.ref C) (.ref t) s'.heap/\H' a=none/\s.heap.get? a=none/\E (.ref C) none H'
def exK(K:ar)(mg:Str->Option Value)(E:nA):XK:=fun cls _ H=>∃ (ex:Ex) (C:Addr) (G:Gp),cls=.ref C/\mg ex.cls=some (.ref C)/\mM K H G/\E ex G
structure Lk(X:Cx)(E:nA):Prop where
 made:∀ (pins:List (Addr×Obj)) (σ:L2.St) (H:Hp) (s:aA) (h1:Heap) (a C:Addr) (args:List Value) (ex:Ex) (G:Gp),Inv X pins σ H s->mM X.K H G->PySem.Heap.MadeExcOf s.heap h1 a (.ref C) args->X.mg ex.cls=some (.ref C)->E ex G->X.xe (.ref a) { s with heap:=h1 }
 pass:∀ (pins:List (Addr×Obj)) (σ:L2.St) (H:Hp) (s s':aA) (e:Value),Inv X pins σ H s->CXe X.prog X.w X.stack H s (exK X.K X.mg E) e s'->X.xe e s'
theorem Lk.none{X:Cx}{E:nA}(h:∀ ex G,¬ E ex G):Lk X E where
 made:=fun _ _ _ _ _ _ _ _ ex _ _ _ _ _ z=>absurd z (h ex _)
 pass:=fun _ _ _ _ _ _ _ hc=>by
  obtain⟨_,_,_,_,_,_,_,_,_,_,_,_,_,_,hz⟩:=hc;obtain⟨ex,_,_,_,_,_,z⟩:=hz;exact absurd z (h ex _)
inductive rP (X:Cx) (pins:List (Addr×Obj)) (σ:L2.St) (H:Hp) (G:Gp) (Q:DK) (u:Value) (s':aA):Prop
 | mk (v:V) (H':Hp) (d:D) (G':Gp) (i:Inv X pins σ H' s') (m:Mv X.K H G H' G') (r:RelV v u) (rd:b7 X.K H' v d) (q:Q d G'):rP X pins σ H G Q u s'
inductive Xa (X:Cx) (pins:List (Addr×Obj)) (σ:L2.St) (H:Hp) (G:Gp) (Q:Bool->Gp->Prop) (b:Bool) (s':aA):Prop
 | mk (H':Hp) (G':Gp) (i:Inv X pins σ H' s') (m:Mv X.K H G H' G') (q:Q b G'):Xa X pins σ H G Q b s'
inductive AP2 (X:Cx) (pins:List (Addr×Obj)) (σ:L2.St) (H:Hp) (G:Gp) (Q:List D->Gp->Prop) (us:List Value) (s':aA):Prop
 | mk (vs:List V) (H':Hp) (ds:List D) (G':Gp) (i:Inv X pins σ H' s') (m:Mv X.K H G H' G') (r:Vals vs us) (rd:bq X.K H' vs ds) (q:Q ds G'):AP2 X pins σ H G Q us s'
inductive ZS (X:Cx) (pins:List (Addr×Obj)) (H:Hp) (G:Gp) (P:jc->Gp->Prop) (s':aA):Prop
 | mk (kR:L2.St) (H':Hp) (rY:jc) (G':Gp) (i:I2 X pins kR H' rY G' s') (m:Mv X.K H G H' G') (q:P rY G'):ZS X pins H G P s'
inductive SPr (X:Cx) (pins:List (Addr×Obj)) (H:Hp) (G:Gp) (P:D->Gp->Prop) (u:Value) (s':aA):Prop
 | mk (v:V) (kR:L2.St) (H':Hp) (d:D) (G':Gp) (i:Inv X pins kR H' s') (m:Mv X.K H G H' G') (r:RelV v u) (rd:b7 X.K H' v d) (q:P d G'):SPr X pins H G P u s'
def WN(X:Cx)(pins:List (Addr×Obj))(H:Hp)(G:Gp)(D:mK)(f:Flow)(s':aA):Prop :=
 match f with
 | .next=>ZS X pins H G D.nx s'
 | .brk=>ZS X pins H G D.bk s'
 | .cont=>ZS X pins H G D.ct s'
 | .ret u=>SPr X pins H G D.rt u s'
def gH(X:Cx)(e:Expr)(t:gK):Prop :=
 ∀ (E:nA) (pins:List (Addr×Obj)) (s:aA) (σ:L2.St) (H:Hp) (τ:jc) (G:Gp) (Q:DK),Lk X E->I2 X pins σ H τ G s->t E τ G Q->wpAny (model X.prog X.w) X.A (eval e X.env) (rP X pins σ H G Q) X.xe s
def Ol(X:Cx)(e:Expr)(t:yf):Prop :=
 ∀ (E:nA) (pins:List (Addr×Obj)) (s:aA) (σ:L2.St) (H:Hp) (τ:jc) (G:Gp) (Q:Bool->Gp->Prop),Lk X E->I2 X pins σ H τ G s->t E τ G Q->wpAny (model X.prog X.w) X.A (isTrue e X.env (eval e X.env)) (Xa X pins σ H G Q) X.xe s
def U3(X:Cx)(e:Expr)(t:yf):Prop :=
 ∀ (wh:Sem Value) (E:nA) (pins:List (Addr×Obj)) (s:aA) (σ:L2.St) (H:Hp) (τ:jc) (G:Gp) (Q:Bool->Gp->Prop),Lk X E->I2 X pins σ H τ G s->t E τ G Q->wpAny (model X.prog X.w) X.A (isTrue e X.env wh) (Xa X pins σ H G Q) X.xe s
def Cw(X:Cx)(es:List Expr)(t:Fp):Prop :=
 ∀ (pos:Pos) (E:nA) (pins:List (Addr×Obj)) (s:aA) (σ:L2.St) (H:Hp) (τ:jc) (G:Gp) (Q:List D->Gp->Prop),Lk X E->I2 X pins σ H τ G s->t E τ G Q->wpAny (model X.prog X.w) X.A (DE (rE pos (bI es X.env))) (AP2 X pins σ H G Q) X.xe s
def Iw(X:Cx)(st:Stmt)(t:iq):Prop :=
 ∀ (E:nA) (pins:List (Addr×Obj)) (s:aA) (σ:L2.St) (H:Hp) (τ:jc) (G:Gp) (D:mK),Lk X E->I2 X pins σ H τ G s->t E D τ G->wpAny (model X.prog X.w) X.A (exec st X.env) (WN X pins H G D) X.xe s
def yh(X:Cx)(st:List Stmt)(t:iq):Prop :=
 ∀ (E:nA) (pins:List (Addr×Obj)) (s:aA) (σ:L2.St) (H:Hp) (τ:jc) (G:Gp) (D:mK),Lk X E->I2 X pins σ H τ G s->t E D τ G->wpAny (model X.prog X.w) X.A (execs st X.env) (WN X pins H G D) X.xe s
theorem WN.trans{X:Cx}{pins:List (Addr×Obj)}{H H1:Hp}{G G1:Gp}{D:mK}{f:Flow}{s':aA}(m:Mv X.K H G H1 G1)(h:WN X pins H1 G1 D f s'):WN X pins H G D f s':=by
 cases f with
 | next=>obtain⟨kR,H',rY,G',I,m',q⟩:=h; exact⟨kR,H',rY,G',I,m.trans m',q⟩
 | brk=>obtain⟨kR,H',rY,G',I,m',q⟩:=h; exact⟨kR,H',rY,G',I,m.trans m',q⟩
 | cont=>obtain⟨kR,H',rY,G',I,m',q⟩:=h; exact⟨kR,H',rY,G',I,m.trans m',q⟩
 | ret u=>obtain⟨v,kR,H',d,G',I,m',r,rd,q⟩:=h; exact⟨v,kR,H',d,G',I,m.trans m',r,rd,q⟩
section
variable {X:Cx} {a b c:Expr} {ta tb tc:gK} {pos:Pos}
theorem kG{pins:List (Addr×Obj)}{σ:L2.St}{H:Hp}{τ:jc}{G:Gp}{s:aA}{E:nA}{R:DK}{Q:Value->aA->Prop}(ha:gH X a ta)(hE:Lk X E)(I:I2 X pins σ H τ G s)(h:ta E τ G R)
  (k:∀ v H1 d G1 u s1,I2 X pins σ H1 τ G1 s1->Mv X.K H G H1 G1->RelV v u->b7 X.K H1 v d->R d G1->Q u s1):wpAny (model X.prog X.w) X.A (eval a X.env) Q X.xe s :=
 iB (ha E pins s σ H τ G R hE I h) (by rintro u s1 ⟨v,H1,d,G1,I1,m,r,rd,q⟩; exact k v H1 d G1 u s1 (I.mv I1 m) m r rd q)
theorem rP.trans{pins:List (Addr×Obj)}{σ:L2.St}{H H1:Hp}{G G1:Gp}{Q:DK}{u:Value}{s':aA}(m:Mv X.K H G H1 G1)(h:rP X pins σ H1 G1 Q u s'):rP X pins σ H G Q u s':=by
 obtain⟨v,H',d,G',I,m',r,rd,q⟩:=h;exact⟨v,H',d,G',I,m.trans m',r,rd,q⟩
theorem Xa.trans{pins:List (Addr×Obj)}{σ:L2.St}{H H1:Hp}{G G1:Gp}{Q:Bool->Gp->Prop}{u:Bool}{s':aA}(m:Mv X.K H G H1 G1)(h:Xa X pins σ H1 G1 Q u s'):Xa X pins σ H G Q u s':=by
 obtain⟨H',G',I,m',r⟩:=h;exact⟨H',G',I,m.trans m',r⟩
theorem SX {i:Nat} {x:Str} (hN:X.N[i]?=some x) (hv:ZQ X.env.scope x) (hd:autoParam ((x == ("__debug__" : Str))=false) Ad._auto_1) (LO:autoParam ((x == ("__classdict__" : Str))=false) Ad._auto_1):gH X (.Name x pos) (au i):=by
 intro E pins s σ H τ G Q hE I h;unfold au at h;split at h
 ·rename_i d e;obtain⟨v,h1,h2⟩:=I.st.at' i d e;exact iB (VF hN hv hd LO pins s σ H (fun v' H'=>v'=v/\H'=H) I.inv ⟨v,h1,rfl,rfl⟩) fun u s1 Oh=>by
   obtain⟨v',H',I1,r,e1,e2⟩:=Oh;subst e1; subst e2;exact⟨_,_,d,G,I1,.refl I.ab,r,h2,h⟩
 ·exact h.elim
theorem xE{e:Expr}{v:V}{d:D}(h:PE X e (tC v))(r:∀ K H,b7 K H v d):gH X e (dC d):=by
 intro E pins s σ H τ G Q hE I hq;exact iB (h pins s σ H (fun v' H'=>v'=v/\H'=H) I.inv ⟨rfl,rfl⟩) fun u s1 hp1=>by
  obtain⟨v',H',I1,rr,e1,e2⟩:=hp1;subst e1; subst e2;exact⟨_,_,d,G,I1,.refl I.ab,rr,r _ _,hq⟩
theorem aO{i j}:gH X (.Constant (.int i) j pos) (dC (.int i)):=xE VG fun _ _=>.int i
def qF(X:Cx)(f:Value->Value->Sem Value)(r:Cv):Prop :=
 ∀ (pins:List (Addr×Obj)) (s:aA) (σ:L2.St) (H:Hp) (G:Gp) (x y:V) (dx dy:D) (v u:Value) (Q:DK),Inv X pins σ H s->mM X.K H G->RelV x v->RelV y u->b7 X.K H x dx->b7 X.K H y dy->r dx dy G Q ->
  wpAny (model X.prog X.w) X.A (f v u) (rP X pins σ H G Q) X.xe s
def Y3(X:Cx)(f:Value->Sem Value)(r:D->Gp->DK->Prop):Prop :=
 ∀ (pins:List (Addr×Obj)) (s:aA) (σ:L2.St) (H:Hp) (G:Gp) (x:V) (dx:D) (v:Value) (Q:DK),Inv X pins σ H s->mM X.K H G->RelV x v->b7 X.K H x dx->r dx G Q ->
  wpAny (model X.prog X.w) X.A (f v) (rP X pins σ H G Q) X.xe s
def qg(X:Cx)(f:Value)(r:List D->Gp->DK->Prop):Prop :=
 ∀ (pins:List (Addr×Obj)) (s:aA) (σ:L2.St) (H:Hp) (G:Gp) (xs:List V) (ds:List D) (us:List Value) (Q:DK),Inv X pins σ H s->mM X.K H G->Vals xs us->bq X.K H xs ds->r ds G Q ->
  wpAny (model X.prog X.w) X.A (call f us) (rP X pins σ H G Q) X.xe s
abbrev Cu(K:ar)(H:Hp)(G:Gp)(Q:DK):VK:=fun v H'=>∃ d G',Mv K H G H' G'/\b7 K H' v d/\Q d G'
theorem rP.of{pins:List (Addr×Obj)}{σ:L2.St}{H:Hp}{G:Gp}{Q:DK}{u:Value}{s':aA}(h:EP X pins σ (Cu X.K H G Q) u s'):rP X pins σ H G Q u s':=by
 obtain⟨v,H',I,r,d,G',m,rd,q⟩:=h;exact⟨v,H',d,G',I,m,r,rd,q⟩
theorem Rw(ha:gH X a ta)(hb:gH X b tb){E:nA}{pins:List (Addr×Obj)}{s:aA}{σ:L2.St}{H:Hp}{τ:jc}{G:Gp}{R:D->D->Gp->Prop}(hE:Lk X E)(I:I2 X pins σ H τ G s)
  (h:ta E τ G fun x G1=>tb E τ G1 fun y G2=>R x y G2) {Q:Value->aA->Prop} {f:Value->Value->Sem Value}
  (hf:∀ v u s2 x y dx dy H2 G2,I2 X pins σ H2 τ G2 s2->Mv X.K H G H2 G2->RelV x v->RelV y u->b7 X.K H2 x dx->b7 X.K H2 y dy->R dx dy G2->wpAny (model X.prog X.w) X.A (f v u) Q X.xe s2) :
  wpAny (model X.prog X.w) X.A (eval a X.env) (fun v fZ=>wpAny (model X.prog X.w) X.A (eval b X.env) (fun u mY=>wpAny (model X.prog X.w) X.A (f v u) Q X.xe mY) X.xe fZ) X.xe s:=by
 refine kG ha hE I h fun x H1 dx G1 v s1 I1 m1 r1 jS q1=>?_;refine kG hb hE I1 q1 fun y H2 dy G2 u s2 o4 m2 r2 Av q2=>?_;exact hf v u s2 x y dx dy H2 G2 o4 (m1.trans m2) r1 r2 (jS.mono (m2.kp I1.ab)) Av q2
theorem bZ{op:Operator}{r:Cv}(ho:qF X (jT op) r)(ha:gH X a ta)(hb:gH X b tb):gH X (.BinOp a op b pos) (br r ta tb):=by
 intro E pins s σ H τ G Q hE I h;exact wpAny_BinOp (Rw ha hb hE I h fun v u s2 x y dx dy H2 G2 o4 m rx ry dX dY q=>iB (ho pins s2 σ H2 G2 x y dx dy v u Q o4.inv o4.ab rx ry dX dY q) fun _ _ z=>z.trans m)
theorem VH{op:UnaryOp}{r:D->Gp->DK->Prop}(ho:Y3 X (unaryOp op) r)(ha:gH X a ta):gH X (.UnaryOp op a pos) (W8 r ta):=by
 intro E pins s σ H τ G Q hE I h;exact UnaryOp_ (kG ha hE I h fun x H1 dx G1 v s1 I1 m1 r1 jS q1=>iB (ho pins s1 σ H1 G1 x dx v Q I1.inv I1.ab r1 jS q1) fun _ _ z=>z.trans m1)
theorem Lp{op:CmpOp}{r:Cv}(ho:qF X (eS op) r)(ha:gH X a ta)(hb:gH X b tb)(hm:behindInMarks op b=false):gH X (.Compare a [op] [b] pos) (br r ta tb):=by
 intro E pins s σ H τ G Q hE I h;exact wpAny_Compare1 (Rw ha hb hE I h fun v u s2 x y dx dy H2 G2 o4 m rx ry dX dY q=>iB (ho pins s2 σ H2 G2 x y dx dy v u Q o4.inv o4.ab rx ry dX dY q) fun _ _ z=>z.trans m) hm
end
theorem Xh{K:ar}{H:Hp}{G:Gp}{x:V}{d:D}{k:Bool}(ab:mM K H G)(r:b7 K H x d)(e:FJ d G=some k):(∃ p,x=.ref p/\Rd H p (.dT [])/\k=false)\/(∃ p kv,x=.ref p/\Rd H p (.dK kv)/\k=!kv.isEmpty)\/WM K x H k:=by
 have Q3:∀ kvs:List (D×D),(if (kvs.all fun p=>dE p.1)=true then some (!kvs.isEmpty) else none)=some k->∀ p,((∃ kv,Rd H p (.dK kv)/\mW K H kv kvs)\/∃ kv,Rd H p (.dT kv)/\oh K H kv kvs) ->
   (∃ p',V.ref p=.ref p'/\Rd H p' (.dT [])/\k=false)\/(∃ p' kv,V.ref p=.ref p'/\Rd H p' (.dK kv)/\k=!kv.isEmpty)\/WM K (.ref p) H k:=by
  intro kvs e p z;by_cases ha:(kvs.all fun p=>dE p.1)=true
  ·rw [if_pos ha] at e;cases e;rcases z with ⟨kv,hv,rs⟩ | ⟨kv,hv,rs⟩
   ·right; left;refine⟨p,kv,rfl,hv,?_⟩;cases rs <;> rfl
   ·left;cases rs with
    | nil=>exact⟨p,rfl,hv,rfl⟩
    | cons _ _=>simp [dE] at ha
  ·rw [if_neg ha] at e; cases e
 cases r with
 | fg=>right; right; cases e; rfl
 | bl b=>right; right; cases e; rfl
 | int i=>right; right; cases e; rfl
 | str y =>
  right; right;unfold FJ at e;dsimp only at e;by_cases h:y.length<=SZ
  ·rw [if_pos h] at e; cases e; exact⟨by rw [cV]; exact h,rfl⟩
  ·rw [if_neg h] at e; cases e
 | tup h rs =>
  right; right;cases e;refine .inr (.inl ⟨_,.of h,?_⟩);cases rs <;> rfl
 | dN h rs =>
  right; right;cases e;refine .inl ⟨_,h.sq,?_⟩;cases rs <;> rfl
 | qo h rs=>exact Q3 _ e _ (.inl ⟨_,.inr ⟨_,h⟩,rs⟩)
 | qm h rs=>exact Q3 _ e _ (.inr ⟨_,.inr ⟨_,h⟩,rs⟩)
 | exc h=>simp [FJ] at e
 | Hv h _=>simp [FJ] at e
 | oY _ _ _ _=>simp [FJ] at e
 | ref a =>
  unfold FJ at e;dsimp only at e;cases q:G a with
  | none=>rw [q] at e; cases e
  | some g =>
   rw [q] at e;have z:=ab a g q;cases g with
   | lst ds =>
    right; right;obtain⟨vs,hv,rs⟩:=z;cases e;refine .inl ⟨vs,.of hv,?_⟩;cases rs <;> rfl
   | ins _ _=>cases e
   | ua _=>cases e
   | eW kvs =>
    refine Q3 kvs e a ?_;rcases z with ⟨kv,hv,rs⟩ | ⟨kv,hv,rs⟩
    ·exact .inl ⟨kv,.inl hv,rs⟩
    ·exact .inr ⟨kv,.inl hv,rs⟩
section
variable {X:Cx} {a b c:Expr} {ta tb tc:gK} {pos:Pos}
def Y4(X:Cx):Prop:=∀ (pins:List (Addr×Obj)) (s:aA) (σ:L2.St) (H:Hp) (G:Gp) (x:V) (d:D) (v:Value) (k:Bool) (Q:Bool->aA->Prop),Inv X pins σ H s->mM X.K H G->RelV x v->b7 X.K H x d->FJ d G=some k ->
  (∀ s',Inv X pins σ H s'->Q k s')->wpAny (model X.prog X.w) X.A (truthy v) Q X.xe s
theorem OO:Y4 X:=by
 intro pins s σ H G x d v k Q I ab rx rd e q;rcases Xh ab rd e with ⟨p,rfl,hv,hk⟩ | ⟨p,kv,rfl,hv,hk⟩ | h
 ·obtain⟨z,hS,xs,rel,o,es,ep,ho,hx,yM,hl,nd⟩:=hv.ok I.cu;have hxs:xs=[]:=by cases rel; rfl
  subst hxs;have he:es=#[]:=by simpa using hl
  subst he;cases rx;have dd:s.heap.DictOf (cK X.prog X.w) p []:=⟨o,#[],ep,ho,hx,yM,(fun _ h=>by simp at h),.nil,cq⟩;refine Iz hS dd (by simp) ?_;subst hk;exact q _ (I.tok _)
 ·cases rx;subst hk;exact TH I hv q
 ·exact iB (Vf pins s σ H x v (fun k' H'=>k'=k/\H'=H) I rx ⟨k,h,rfl,rfl⟩) fun k' s' Oh=>by
   obtain⟨H',I',e1,e2⟩:=Oh;subst e1; subst e2; exact q s' I'
theorem kS(ha:gH X a ta)(he:autoParam (∀ whole,isTrue a X.env whole=(do let v ← whole; standAt a.pos; zV [v] (truthy v))) Ai._auto_1):Ol X a (jD ta):=by
 intro E pins s σ H τ G Q hE I h;refine isTrue_plain (kG ha hE I h fun x H1 d G1 v s1 I1 m1 r1 jS q1=>?_) (he _)
 try dsimp only at q1
 split at q1
 ·rename_i k e;exact OO pins s1 σ H1 G1 x d v k _ I1.inv I1.ab r1 jS e fun s' I'=>⟨H1,G1,I',m1,q1⟩
 ·exact q1.elim
theorem fC{op:CmpOp}{r:Cv}(ho:qF X (eS op) r)(ha:gH X a ta)(hb:gH X b tb)(hm:behindInMarks op b=false):Ol X (.Compare a [op] [b] pos) (jD (br r ta tb)):=by
 intro E pins s σ H τ G Q hE I h;refine wpAny_isTrue_Compare1 (kG ha hE I h fun x H1 dx G1 v s1 I1 m1 r1 jS q1=>kG hb hE I1 q1 fun y H2 dy G2 u s2 o4 m2 r2 Av q2 =>
  iB (ho pins s2 σ H2 G2 x y dx dy v u _ o4.inv o4.ab r1 r2 (jS.mono (m2.kp I1.ab)) Av q2) ?_) hm
 rintro c s3 ⟨z,H3,dz,G3,I3,m3,r3,Xs,q3⟩
 try dsimp only at q3
 split at q3
 ·rename_i k e;exact OO pins s3 σ H3 G3 z dz c k _ I3 m3.ab r3 Xs e fun s' I'=>⟨H3,G3,I',(m1.trans m2).trans m3,q3⟩
 ·exact q3.elim
variable {tA tB:yf} {rest:List Expr}
theorem U3.pt{e:Expr}{t:yf}(h:U3 X e t):Ol X e t:=fun E pins s σ H τ G Q hE I q=>h _ E pins s σ H τ G Q hE I q
theorem OQ{pins:List (Addr×Obj)}{σ:L2.St}{H:Hp}{τ:jc}{G:Gp}{s:aA}{E:nA}{R:Bool->Gp->Prop}{Q:Bool->aA->Prop}(ha:Ol X a tA)(hE:Lk X E)(I:I2 X pins σ H τ G s)(h:tA E τ G R)
  (k:∀ c H1 G1 s1,I2 X pins σ H1 τ G1 s1->Mv X.K H G H1 G1->R c G1->Q c s1):wpAny (model X.prog X.w) X.A (isTrue a X.env (eval a X.env)) Q X.xe s :=
 iB (ha E pins s σ H τ G R hE I h) (by rintro c s1 ⟨H1,G1,I1,m,q⟩; exact k c H1 G1 s1 (I.mv I1 m) m q)
theorem D0(ha:Ol X a tA):U3 X (.BoolOp .Or [a] pos) tA:=by
 intro wh E pins s σ H τ G Q hE I h;refine isTrue_or (iB (ha E pins s σ H τ G Q hE I h) fun c s1 e=>?_);cases c with
 | false=>exact isTrue_or_nil e
 | true=>exact e
theorem xB(ha:Ol X a tA)(hb:U3 X (.BoolOp .Or (b :: rest) pos) tB):U3 X (.BoolOp .Or (a :: b :: rest) pos) (Oi tA tB):=by
 intro wh E pins s σ H τ G Q hE I h;refine isTrue_or (OQ ha hE I h fun c H1 G1 s1 I1 m1 q1=>?_);cases c with
 | false=>exact iB (hb wh E pins s1 σ H1 τ G1 Q hE I1 (by simpa using q1)) fun _ _ z=>z.trans m1
 | true=>exact⟨H1,G1,I1.inv,m1,by simpa using q1⟩
theorem qS(ha:Ol X a tA):Ol X (.UnaryOp .Not a pos) (uq tA):=by
 intro E pins s σ H τ G Q hE I h;exact isTrue_not (iB (ha E pins s σ H τ G (fun c H1=>Q (!c) H1) hE I h) (by rintro c s' ⟨H',G',i,m,q⟩; exact⟨H',G',i,m,q⟩))
theorem Ln{op}{t:gK}(h:gH X a t):gH X (.BoolOp op [a] pos) t:=fun E pins s σ H τ G Q hE I hw=>BoolOp_one (h E pins s σ H τ G Q hE I hw)
theorem Lq(ha:gH X a ta)(hb:gH X (.BoolOp .And (b :: rest) pos) tb):gH X (.BoolOp .And (a :: b :: rest) pos) (HB ta tb):=by
 intro E pins s σ H τ G Q hE I h;refine BoolOp_and (kG ha hE I h fun x H1 d G1 v s1 I1 m1 r1 jS q1=>?_)
 try dsimp only at q1
 split at q1
 ·rename_i e;exact OO pins s1 σ H1 G1 x d v true _ I1.inv I1.ab r1 jS e fun s' I'=>iB (hb E pins s' σ H1 τ G1 Q hE ⟨I',I1.st,I1.ab⟩ q1) fun _ _ z=>z.trans m1
 ·rename_i e;exact OO pins s1 σ H1 G1 x d v false _ I1.inv I1.ab r1 jS e fun s' I'=>⟨x,H1,d,G1,I',m1,r1,jS,q1⟩
 ·exact q1.elim
theorem SY(ha:gH X a ta):gH X (.UnaryOp .Not a pos) (Q6 ta):=by
 intro E pins s σ H τ G Q hE I h;refine UnaryOp_ (kG ha hE I h fun x H1 d G1 v s1 I1 m1 r1 jS q1=>?_)
 try dsimp only at q1
 split at q1
 ·rename_i k e;exact not_of (OO pins s1 σ H1 G1 x d v k _ I1.inv I1.ab r1 jS e fun s' I'=>⟨.bl (!k),H1,.bl (!k),G1,I',m1,rfl,.bl _,q1⟩)
 ·exact q1.elim
theorem Pz(hc:Ol X c tA)(ha:gH X a ta)(hb:gH X b tb):gH X (.IfExp c a b pos) (YU tA ta tb):=by
 intro E pins s σ H τ G Q hE I h;refine wpAny_IfExp (OQ hc hE I h fun d H1 G1 s1 I1 m1 q1=>?_);cases d with
 | true=>exact iB (ha E pins s1 σ H1 τ G1 Q hE I1 (by simpa using q1)) fun _ _ z=>z.trans m1
 | false=>exact iB (hb E pins s1 σ H1 τ G1 Q hE I1 (by simpa using q1)) fun _ _ z=>z.trans m1
variable {e:Expr} {es:List Expr} {te:gK} {t:Fp}
theorem fP:Cw X [] aQ:=fun _ _ _ _ _ H _ G Q _ I h=>nN ⟨[],H,[],G,I.inv,.refl I.ab,.nil,.nil,h⟩
theorem dO(ha:gH X e te)(hr:Cw X es t)(hs:autoParam (bI (e :: es) X.env=(false,eval e X.env) :: bI es X.env) Ar._auto_1):Cw X (e :: es) (aw te t):=by
 intro pos E pins s σ H τ G Q hE I h;rw [hs];show wpAny _ _ (DE ((false,eval e X.env) :: rE pos (bI es X.env))) _ _ s;refine iA (kG ha hE I h fun x H1 d G1 u s1 I1 m1 r1 jS q1=>?_);exact iB (hr pos E pins s1 σ H1 τ G1 _ hE I1 q1) (by rintro us s2 ⟨xs,H2,ds,G2,o4,m2,r2,Av,q2⟩; exact⟨x :: xs,H2,d :: ds,G2,o4,m1.trans m2,.cons r1 r2,.cons (jS.mono (m2.kp I1.ab)) Av,q2⟩)
theorem z8{pins:List (Addr×Obj)}{σ:L2.St}{H:Hp}{τ:jc}{G:Gp}{s:aA}{E:nA}{R:List D->Gp->Prop}{Q:List Value->aA->Prop}(ha:Cw X es t)(pos:Pos)(hE:Lk X E)(I:I2 X pins σ H τ G s)(h:t E τ G R)
  (k:∀ vs H1 ds G1 us s1,I2 X pins σ H1 τ G1 s1->Mv X.K H G H1 G1->Vals vs us->bq X.K H1 vs ds->R ds G1->Q us s1):wpAny (model X.prog X.w) X.A (DE (rE pos (bI es X.env))) Q X.xe s :=
 iB (ha pos E pins s σ H τ G R hE I h) (by rintro us s1 ⟨vs,H1,ds,G1,I1,m,r,rd,q⟩; exact k vs H1 ds G1 us s1 (I.mv I1 m) m r rd q)
theorem eN{x1}(h:Cw X es t):gH X (.Tuple es x1 pos) (ij t):=by
 intro E pins s σ H τ G Q hE I hq;refine wpAny_Tuple_spliced (z8 h pos hE I hq ?_);rintro xs H1 ds G1 us s1 I1 m1 r rd ⟨z,q⟩;refine⟨by rw [<-r.length,rd.length,cV]; exact z,?_⟩;have hf:H1 s1.heap.objs.size=none:=I1.inv.cu.fresh (aH _);refine⟨.ref s1.heap.objs.size,upd H1 s1.heap.objs.size (.tup xs),.tup ds,G1,I1.inv.laid (t':=s1.toks) (fun b u e=>aF _ e) (aH _) ?_,m1.trans (.Nz I1.ab hf),rfl,?_,q⟩
 ·exact⟨by rw [rd.length,cV]; exact z,us,r,⟨_,bc _ rfl,rfl,_,rfl⟩⟩
 ·exact .tup bN (rd.mono (.new hf))
theorem fJ(h:Cw X es t):gH X (.List es pos) (gG t):=by
 intro E pins s σ H τ G Q hE I hq;refine wpAny_List_spliced (z8 h pos hE I hq ?_);rintro xs H1 ds G1 us s1 I1 m1 r rd ⟨z,q⟩;refine⟨by rw [<-r.length,rd.length,cV]; exact z,?_⟩;have hf:H1 s1.heap.objs.size=none:=I1.inv.cu.fresh (aH _);refine⟨.ref s1.heap.objs.size,upd H1 s1.heap.objs.size (.lst xs),.ref _,dH G1 s1.heap.objs.size (.lst ds),I1.inv.laid (t':=s1.toks) (fun b u e=>aF _ e) (aH _) ?_,m1.trans (.Jy I1.ab hf rd),rfl,.ref _,q _ (I1.ab.free hf)⟩;exact⟨by rw [rd.length,cV]; exact z,us,0,r,bc _ rfl⟩
def zd(K:ar)(sp:kC):Sp:=fun vs H Q _=>∃ ds G Q2,bq K H vs ds/\mM K H G/\sp ds G Q2 (fun _ _=>False)/\∀ d G' v H',Q2 d G'->Mv K H G H' G'->b7 K H' v d->Q v H'
variable {k:Nat} {f:Addr} {fd:gy} {ps:List Str} {sp:kC} {x:Str} {p:Pos} {r:List D->Gp->DK->Prop} {id:String}
theorem PC(F:uw X.prog X.w X.K X.mg X.base Iy k f fd ps (zd X.K sp))(hr:mJ k X.A)(hg:Gl X x)(hm:X.mg x=some (.ref f))(hk:qM X.K (.ref f)=true)(hb:Binds X.K fd ps [])
  (ha:Cw X (e :: es) t) (Ep:autoParam ((x == ("__debug__" : Str))=false) Ad._auto_1) (he:autoParam (bI (e :: es) X.env=(false,eval e X.env) :: bI es X.env) Ar._auto_1) (Cc:autoParam ((rE pos (bI es X.env)).any (·.1)=false) Ar._auto_1) :
  gH X (.Call (.Name x p) (e :: es) [] pos) (fun E τ G Q=>bC (fun ds G1 Q1 _=>sp ds G1 Q1 fun _ _=>False) t E τ G Q):=by
 intro E pins s σ H τ G Q hE I h;refine eX (wc I.inv hg hm ?_ Ep);refine za (h₀:=X.base) I.inv.ok.mod.WZ hk (z8 ha pos hE I h fun vs H1 ds G1 us s1 I1 m1 r rd q=>⟨I1.inv.Fh,?_⟩) he Cc;refine iB (O6 F hr hb .nil Uv I1.inv r (Q:=Cu X.K H1 G1 Q) ?_) fun _ _ z=>(rP.of z).trans m1;rw [cj];exact⟨ds,G1,Q,rd,I1.ab,q,fun d G' v H' q' m' RV=>⟨d,G',m',RV,q'⟩⟩
theorem ez (hc:qg X (.builtin id) r) (hg:Gl X x) (hm:X.mg x=none) (hv:dZ x=some (.builtin id)) (ha:Cw X (e :: es) t) (hn:autoParam (x≠"__name__") Ad._auto_1) (Ep:autoParam ((x == ("__debug__" : Str))=false) Ad._auto_1)
  (he:autoParam (bI (e :: es) X.env=(false,eval e X.env) :: bI es X.env) Ar._auto_1) (Cc:autoParam ((rE pos (bI es X.env)).any (·.1)=false) Ar._auto_1):gH X (.Call (.Name x p) (e :: es) [] pos) (oK r t):=by
 intro E pins s σ H τ G Q hE I h;refine eX (nj I.inv hg hm hv ?_ hn Ep);exact me (z8 ha pos hE I h fun vs H1 ds G1 us s1 I1 m1 r1 jS q1=>iB (hc pins s1 σ H1 G1 vs ds us Q I1.inv I1.ab r1 jS q1) fun _ _ z=>z.trans m1) he Cc
variable {st:Stmt} {sts:List Stmt} {u v:iq}
theorem gN:yh X [] fR:=fun _ _ _ σ H τ G _ _ I h=>zP ⟨σ,H,τ,G,I,.refl I.ab,h⟩
theorem aI(h1:Iw X st u)(h2:yh X sts v):yh X (st :: sts) (bY u v):=by
 intro E pins s σ H τ G D hE I h;refine wpAny_execs_cons (iB (h1 E pins s σ H τ G { D with nx:=v E D } hE I h) fun f s1 q=>?_);cases f with
 | next =>
  obtain⟨kR,H',rY,G',I',m,q⟩:=q;exact iB (h2 E pins s1 kR H' rY G' D hE I' q) fun _ _ z=>z.trans m
 | ret v=>exact q
 | brk=>exact q
 | cont=>exact q
theorem aN(h1:Iw X st u):yh X [st] u:=by
 intro E pins s σ H τ G D hE I h;refine wpAny_execs_cons (iB (h1 E pins s σ H τ G D hE I h) fun f s1 q=>?_);cases f with
 | next=>exact zP q
 | ret v=>exact q
 | brk=>exact q
 | cont=>exact q
theorem bX(he:gH X e te):Iw X (.Return (some e) pos) (cE te):=by
 intro E pins s σ H τ G D hE I h;exact wpAny_Return_some (iB (he E pins s σ H τ G _ hE I h) (by rintro v s1 ⟨x,H1,d,G1,I1,m,r1,rd,q1⟩; exact⟨x,σ,H1,d,G1,I1,m,r1,rd,q1⟩))
theorem jx{sa sb:List Stmt}(hc:Ol X c tA)(ha:yh X sa u)(hb:yh X sb v):Iw X (.If c sa sb pos) (jF tA u v):=by
 intro E pins s σ H τ G D hE I h;refine wpAny_If (OQ hc hE I h fun d H1 G1 s1 I1 m1 q1=>?_);cases d with
 | true=>exact iB (ha E pins s1 σ H1 τ G1 D hE I1 (by simpa using q1)) fun _ _ z=>z.trans m1
 | false=>exact iB (hb E pins s1 σ H1 τ G1 D hE I1 (by simpa using q1)) fun _ _ z=>z.trans m1
def NW(X:Cx)(target:Expr)(t:BZ):Prop :=
 ∀ (E:nA) (pins:List (Addr×Obj)) (s:aA) (σ:L2.St) (H:Hp) (τ:jc) (G:Gp) (w:V) (d:D) (u:Value) (Q:jc->Gp->Prop),Lk X E->I2 X pins σ H τ G s->RelV w u->b7 X.K H w d->t E d τ G Q ->
  wpAny (model X.prog X.w) X.A (KH target X.env u) (fun _ s'=>∃ kR H' rY G',I2 X pins kR H' rY G' s'/\Mv X.K H G H' G'/\Q rY G') X.xe s
def T8(X:Cx)(ts:List Expr)(t:E6):Prop :=
 ∀ (E:nA) (pins:List (Addr×Obj)) (s:aA) (σ:L2.St) (H:Hp) (τ:jc) (G:Gp) (ws:List V) (ds:List D) (us:List Value) (Q:jc->Gp->Prop),Lk X E->I2 X pins σ H τ G s->Vals ws us->bq X.K H ws ds->t E ds τ G Q ->
  wpAny (model X.prog X.w) X.A (assignInOrder ((BN ts X.env).map (·.2)) us) (fun _ s'=>∃ kR H' rY G',I2 X pins kR H' rY G' s'/\Mv X.K H G H' G'/\Q rY G') X.xe s
theorem Pw{i:Nat}{x:Str}(hN:X.N.Nodup)(hi:X.N[i]?=some x)(hx:Loc X.env.scope x)(hf:autoParam (X.fn x=true\/X.env.scope.names.lookup x=some .local) Ao._auto_1):NW X (.Name x pos) (aG i):=by
 intro E pins s σ H τ G w d u Q hE I r rd h;exact wpAny_assign_Name (FK I.inv hN hi hx r (fun s' I'=>⟨_,H,_,G,⟨I',I.st.set i rd,I.ab⟩,.refl I.ab,h⟩) hf)
theorem fk:T8 X [] hU:=by
 intro E pins s σ H τ G ws ds us Q hE I r rd h;unfold hU at h;split at h
 ·have e:=rd.zero;subst e;cases r;exact assignInOrder_nil ⟨σ,H,τ,G,I,.refl I.ab,h⟩
 ·exact h.elim
theorem bL{t:BZ}{u:E6}(h1:NW X e t)(h2:T8 X es u)
  (hs:autoParam ((BN (e :: es) X.env).map (·.2)=KH e X.env :: (BN es X.env).map (·.2)) Ar._auto_1):T8 X (e :: es) (cL t u):=by
 intro E pins s σ H τ G ws ds us Q hE I r rd h;unfold cL at h;split at h
 ·cases rd with
  | cons jS Av =>
   cases r with
   | cons r1 r2 =>
    rw [hs];refine assignInOrder_cons (iB (h1 E pins s σ H τ G _ _ _ _ hE I r1 jS h) ?_);rintro _ s1 ⟨Ze,H1,qO,G1,I1,m1,q1⟩;exact iB (h2 E pins s1 Ze H1 qO G1 _ _ _ Q hE I1 r2 (Av.mono (m1.kp I.ab)) q1) (by rintro _ _ ⟨ZY,H2,xr,G2,o4,m2,q2⟩; exact⟨ZY,H2,xr,G2,o4,m1.trans m2,q2⟩)
 ·exact h.elim
theorem gn{k:Nat}{t:E6}{n:Nat}(hc:X.calm=true)(h:T8 X es t)(hgl:∀ E ds τ G Q,t E ds τ G Q->ds.length=n)
  (hn:autoParam ((BN es X.env).length=n) Ar._auto_1) (hst:autoParam ((BN es X.env).findIdx? (·.1)=none) Ar._auto_1):NW X (.Tuple es k pos) (ig t):=by
 intro E pins s σ H τ G w d u Q hE I r rd hw;unfold ig at hw;split at hw
 ·cases rd with
  | tup hq rs =>
   cases r;obtain⟨bQ,rv,ht,hz⟩:=I.inv.tuple (.of hq);refine assign_Tuple_tuple (I.inv.ok.hd hc) ht (by rw [hn,a8,<-rv.length,rs.length]; exact(hgl _ _ _ _ _ hw).symm) hst fun h' hx=>?_;have I1:Inv X pins σ H { s with heap:=h' }:=I.inv.kept (t':=s.toks) fun b o e=>hx b o (bu (aP e)) e;exact h E pins _ σ H τ G _ _ _ Q hE ⟨I1,I.st,I.ab⟩ (by simpa using rv) rs hw
 ·exact hw.elim
theorem fm:∀ E ds τ G Q,hU E ds τ G Q->ds.length=0:=by
 intro E ds τ G Q h;cases ds with
 | nil=>rfl
 | cons _ _=>exact h.elim
theorem NC{t:BZ}{u:E6}{n:Nat}(h:∀ E ds τ G Q,u E ds τ G Q->ds.length=n)(hm:∀ E d τ G (Q Q':jc->Gp->Prop),t E d τ G Q->(∀ rY G',Q rY G'->Q' rY G')->t E d τ G Q')(hx:∀ E d τ G,¬ t E d τ G fun _ _=>False) :
  ∀ E ds τ G Q,cL t u E ds τ G Q->ds.length=n+1:=by
 intro E ds τ G Q q;cases ds with
 | nil=>exact q.elim
 | cons d ds =>
  by_cases hl:ds.length=n
  ·rw [ai,hl]
  ·exact absurd (hm E d τ G _ (fun _ _=>False) q fun rY G' z=>hl (h _ _ _ _ _ z)) (hx E d τ G)
theorem gY{tg:Expr}{g:BZ}(he:gH X e te)(hg:NW X tg g)(hs:autoParam (swapsWithSole [tg] e pos.line X.env=pure false) Ar._auto_1)(hw:autoParam (swappedStores [tg] e X.env=pure none) Ar._auto_1)
  (h1:autoParam ((BN [tg] X.env).map (·.2)=[KH tg X.env]) Ar._auto_1):Iw X (.Assign [tg] e pos) (bB te g):=by
 intro E pins s σ H τ G D hE I h;refine wpAny_Assign_stores (kG he hE I h fun x H1 d G1 v s1 I1 m1 r1 jS q1=>?_) hs hw;rw [h1];exact iB (hg E pins s1 σ H1 τ G1 x d v _ hE I1 r1 jS q1) (by rintro _ s2 ⟨ZY,H2,xr,G2,o4,m2,q2⟩; exact⟨ZY,H2,xr,G2,o4,m1.trans m2,q2⟩)
theorem SM{i:Nat}{x:Str}{pos':Pos}(hN:X.N.Nodup)(hi:X.N[i]?=some x)(hx:Loc X.env.scope x)(he:gH X e te)(hs:autoParam (Ov e (some (.Name x pos')) pos.line X.env=pure false) Ar._auto_1)(hf:autoParam (X.fn x=true\/X.env.scope.names.lookup x=some .local) Ao._auto_1) :
  Iw X (.Assign [.Name x pos'] e pos) (bB te (aG i)):=by
 intro E pins s σ H τ G D hE I h;refine wpAny_Assign_Name (kG he hE I h fun y H1 d G1 v s1 I1 m1 r1 jS q1=>?_) hs;exact FK I1.inv hN hi hx r1 (fun s2 o4=>⟨_,H1,_,G1,⟨o4,I1.st.set i jS,I1.ab⟩,m1,q1⟩) hf
theorem lx(he:gH X e te)(hs:autoParam (Ov e none pos.line X.env=pure false) Ar._auto_1):Iw X (.Expr e pos) (jg te):=by
 intro E pins s σ H τ G D hE I h;exact wpAny_Expr_any (kG he hE I h fun y H1 d G1 v s1 I1 m1 r1 jS q1=>⟨σ,H1,τ,G1,I1,m1,q1⟩) I.inv.quiet hs
end
def U2(K:ar)(J:It)(H':Hp)(ds:List D)(ok:Gp->Prop):Prop :=
 ∀ i H1 G1,Kp H' H1->mM K H1 G1->ok G1->(∀ d,ds[i]?=some d->J.go i H1/\∀ x H2,J.yld i H1 x H2->b7 K H2 x d/\Mv K H1 G1 H2 G1)/\(ds.length<=i->J.stop i H1)
inductive Kv (X:Cx) (pins:List (Addr×Obj)) (σ:L2.St) (tg:Expr) (H:Hp) (G:Gp) (R:List D->(Gp->Prop)->Gp->Prop) (UE:Value) (s2:aA):Prop
 | mk (it:Addr) (fp:List Addr) (tn:Nat->Heap->Prop) (J:It) (H':Hp) (G':Gp) (ds:List D) (ok:Gp->Prop) (e:UE=.ref it) (i:Inv X pins σ H' s2) (m:Mv X.K H G H' G') (T:Turn X.prog X.w X.K tg J fp it tn) (t0:tn 0 s2.heap) (f:∀ b∈fp,o6 X pins H' b)
  (wk:U2 X.K J H' ds ok) (q:R ds ok G'):Kv X pins σ tg H G R UE s2
def NV(X:Cx)(tg iter:Expr)(wi:NT):Prop :=
 ∀ (E:nA) (pins:List (Addr×Obj)) (s:aA) (σ:L2.St) (H:Hp) (τ:jc) (G:Gp) (R:List D->(Gp->Prop)->Gp->Prop),Lk X E->I2 X pins σ H τ G s->wi E τ G R ->
  wpAny (model X.prog X.w) X.A (eval iter X.env) (fun v s1=>wpAny (model X.prog X.w) X.A (Fu v) (Kv X pins σ tg H G R) X.xe s1) X.xe s
section
variable {X:Cx} {tg:Expr} {a b:Expr} {ta tb:gK} {pos p:Pos}
theorem LG{pins:List (Addr×Obj)}{σ:L2.St}{H H1:Hp}{G G1:Gp}{s1:aA}{l:Addr}{vs:List V}{ds:List D}{ok:Gp->Prop}{R:List D->(Gp->Prop)->Gp->Prop}(I1:Inv X pins σ H1 s1)(m:Mv X.K H G H1 G1)(hq:qL X.K H1 l vs)
  (hk:∀ H2 G2,Kp H1 H2->mM X.K H2 G2->ok G2->∃ ws,qL X.K H2 l ws/\bq X.K H2 ws ds) (q:R ds ok G1):wpAny (model X.prog X.w) X.A (Fu (.ref l)) (Kv X pins σ tg H G R) X.xe s1:=by
 obtain⟨bQ,rv,pl,hz⟩:=I1.list hq;refine IA pl.isList ?_;refine⟨s1.heap.objs.size,[s1.heap.objs.size],_,_,H1,G1,ds,ok,rfl,I1.kept (t':=s1.toks) fun b o e=>aF _ e,m,Mu l _,⟨_,bc _ rfl,rfl,rfl⟩,fun b hb=>?_,fun i H2 G2 k ab o=>?_,q⟩
 ·have e:b=s1.heap.objs.size:=by simpa using hb
  subst e;exact I1.Cd (aH _) (I1.cu.fresh (aH _))
 ·obtain⟨ws,hw,rd⟩:=hk H2 G2 k ab o;refine⟨fun d hd=>?_,fun hl=>⟨ws,hw,by rw [rd.length]; exact hl⟩⟩;obtain⟨v,hv,r⟩:=rd.get hd;refine⟨⟨ws,v,hw,hv⟩,?_⟩;rintro x H3 ⟨e,y⟩;subst e;have:=y ws hw;rw [hv] at this;cases this;exact⟨r,.refl ab⟩
theorem Ve{pins:List (Addr×Obj)}{σ:L2.St}{H H1:Hp}{G G1:Gp}{s1:aA}{l:Addr}{vs:List V}{ds:List D}{R:List D->(Gp->Prop)->Gp->Prop}(I1:Inv X pins σ H1 s1)(m:Mv X.K H G H1 G1)(hq:zL X.K H1 l vs)(rd:bq X.K H1 vs ds)
  (q:R ds (fun _=>True) G1):wpAny (model X.prog X.w) X.A (Fu (.ref l)) (Kv X pins σ tg H G R) X.xe s1:=by
 obtain⟨bQ,rv,pl,hz⟩:=I1.tuple hq;refine wpAny_pyIter_tuple (show s1.heap.IsTuple l bQ.toArray from pl) ?_;refine⟨s1.heap.objs.size,[s1.heap.objs.size],_,_,H1,G1,ds,_,rfl,I1.kept (t':=s1.toks) fun b o e=>aF _ e,m,IX l _,⟨_,bc _ rfl,rfl,rfl⟩,fun b hb=>?_,fun i H2 G2 k ab _=>?_,q⟩
 ·have e:b=s1.heap.objs.size:=by simpa using hb
  subst e;exact I1.Cd (aH _) (I1.cu.fresh (aH _))
 ·have hw:=k.sqT hq;have Av:=rd.mono k;refine⟨fun d hd=>?_,fun hl=>⟨vs,hw,by rw [rd.length]; exact hl⟩⟩;obtain⟨v,hv,r⟩:=Av.get hd;refine⟨⟨vs,v,hw,hv⟩,?_⟩;rintro x H3 ⟨e,y⟩;subst e;have:=y vs hw;rw [hv] at this;cases this;exact⟨r,.refl ab⟩
theorem d8(ha:gH X a ta):NV X tg a (ka ta):=by
 intro E pins s σ H τ G R hE I h;refine kG ha hE I h fun x H1 d G1 v s1 I1 m1 r1 jS q1=>?_;cases jS with
 | tup hq rs=>cases r1; exact Ve I1.inv m1 (.of hq) rs q1
 | dN hq rs=>cases r1; exact LG I1.inv m1 hq.sq (fun H2 G2 k ab _=>⟨_,(k.Vm hq).sq,rs.mono k⟩) q1
 | ref p =>
  cases r1;dsimp only at q1;split at q1
  ·rename_i ds e;obtain⟨vs,hv,rs⟩:=I1.ab.lst e;refine LG I1.inv m1 (.of hv) (fun H2 G2 k ab o=>?_) q1;obtain⟨ws,hw,rH⟩:=ab.lst o;exact⟨ws,.of hw,rH⟩
  ·exact q1.elim
 | qo _ _=>exact q1.elim
 | qm _ _=>exact q1.elim
 | fg=>exact q1.elim
 | bl _=>exact q1.elim
 | int _=>exact q1.elim
 | str _=>exact q1.elim
 | exc _=>exact q1.elim
 | Hv _ _=>exact q1.elim
 | oY _ _ _ _=>exact q1.elim
theorem Vw{pins:List (Addr×Obj)}{σ:L2.St}{H H1:Hp}{G G1:Gp}{s:aA}{R:List D->(Gp->Prop)->Gp->Prop}{lo hi:Int}{t u v:Tok}{tk:Nat}(I:Inv X pins σ H1 s)(m:Mv X.K H G H1 G1)(h1:-(2 ^ 62)<=lo)(h2:lo < 2 ^ 62)(h3:-(2 ^ 62)<=hi)(h4:hi < 2 ^ 62)
  (q:R (ja lo (hi - lo).toNat) (fun _=>True) G1):wpAny (model X.prog X.w) X.A (Fu (.ref s.heap.objs.size)) (Kv X pins σ tg H G R) X.xe { s with heap:=s.heap.push { cls:=.type "range",data:=.fields #[.int lo t,.int hi u,.int 1 v] },toks:=tk }:=by
 refine iB (Pb (tg:=tg) I h1 h2 h3 h4 (R:=fun J H'=>J=Itr lo (hi - lo).toNat/\H'=H1) ⟨rfl,rfl⟩) ?_;rintro UE s2 ⟨it,fp,tn,J,H',e,o4,T,st,fo,eJ,eH⟩;subst eJ; subst eH;refine⟨it,fp,tn,_,H',G1,_,_,e,o4,m,T,st,fo,fun i H2 G2 k ab _=>⟨fun d hd=>?_,fun hl=>?_⟩,q⟩
 ·unfold ja at hd;rw [bx] at hd;cases Ts:(i0 (hi - lo).toNat)[i]? with
  | none=>rw [Ts] at hd; cases hd
  | some j =>
   rw [Ts] at hd;obtain⟨A9,ej⟩:=List.getElem?_eq_some_iff.mp Ts;rw [CC] at A9;rw [rX] at ej;subst ej;cases hd;refine⟨A9,?_⟩;rintro x H3 ⟨e1,e2⟩;subst e1; subst e2;exact⟨.int _,.refl ab⟩
 ·unfold ja at hl;rw [ao,CC] at hl;exact hl
theorem uW (hg:Gl X "range") (hm:X.mg "range" = none) (ha:gH X a ta) (hs:autoParam (bI [a] X.env=[(false,eval a X.env)]) Ar._auto_1):NV X tg (.Call (.Name "range" p) [a] [] pos) (A7 ta):=by
 intro E pins s σ H τ G R hE I h;have hA:Cw X [a] (aw ta aQ):=dO ha fP hs;refine Call_ (nj I.inv hg hm boot_range (dI (z8 hA pos hE I (R:=fun ds G1=>match ds with | [.int n]=>-(2 ^ 62)<=n/\n < 2 ^ 62/\R (ja 0 n.toNat) (fun _=>True) G1 | _=>False) ?_ fun vs H1 ds G1 us s1 I1 m1 r1 jS q1=>?_) hs rfl))
 ·show ta E τ G _;have e:(fun (x:D) (G1:Gp)=>match [x] with | [.int n]=>-(2 ^ 62)<=n/\n < 2 ^ 62/\R (ja 0 n.toNat) (fun _=>True) G1 | _=>False)=fun x G1=>match x with | .int n=>-(2 ^ 62)<=n/\n < 2 ^ 62/\R (ja 0 n.toNat) (fun _=>True) G1 | _=>False:=by
   funext x G1; cases x <;> rfl
  exact e ▸ h
 ·split at q1
  ·rename_i n;obtain⟨w,rfl,ze⟩:=jS.one;cases ze;obtain⟨u,rfl,ru⟩:=r1.one;obtain⟨t,rfl⟩:=ru;obtain⟨q1,q2,q⟩:=q1;exact call_range_1 (Vw I1.inv m1 (by lia) (by lia) q1 q2 (by simpa using q))
  ·exact q1.elim
theorem cR{iter:Expr}{body:List Stmt}{wi:NT}{g:BZ}{t:iq}(hp:PassesOwn (model X.prog X.w) X.A X.env X.xe)(hc:X.calm=true)(hi:NV X tg iter wi)(hg:NW X tg g)(hb:yh X body t)
  (hs:autoParam (∀ x,pN iter X.env x=pure x) Ai._auto_1):Iw X (.For tg iter body [] pos) (dF wi g t):=by
 intro E pins s σ H τ G D hE I h;refine wpAny_For (iB (hi E pins s σ H τ G _ hE I h) fun v s1 h1=>iB h1 fun UE s2 h2=>?_) hs;obtain⟨it,fp,tn,J,H2,G2,ds,ok,e,o4,m2,T,RU,f2,wk,q⟩:=h2;subst e;have Vl:∀ {H':Hp},(∀ b∈fp,H' b=none)->∀ b∈fp,o6 X pins H' b:=fun hn b hb=>⟨hn b hb,(f2 b hb).2⟩;refine codeAny_forLoop_any (fun n s'=>∃ i kR H' rY G',I2 X pins kR H' rY G' s'/\Mv X.K H G H' G'/\Kp H2 H'/\tn i s'.heap/\(∀ b∈fp,H' b=none)/\n=ds.length - i/\i<=ds.length/\rN g t ok (ds.drop i) E D rY G') ?_ ds.length
  ⟨0,σ,H2,τ,G2,I.mv o4 m2,m2,.refl _,RU,fun b hb=>(f2 b hb).1,rfl,cp _,q⟩
 rintro n s3 ⟨i,Sg,H3,U8,G3,I3,m3,k3,Zj,fr3,rfl,hle,w3⟩;by_cases A9:i < ds.length
 ·rw [iJ A9] at w3;obtain⟨ok3,w3⟩:=w3;obtain⟨go,yl⟩:=(wk i H3 G3 k3 I3.ab ok3).1 ds[i] (by simp [A9]);refine kY hp (iB (T.item X rfl rfl rfl hc i pins s3 Sg H3 X.xe I3.inv (Vl fr3) Zj go) ?_);rintro r s4 ⟨u,hr,h4⟩;subst hr;refine kY hp (iB h4 ?_);rintro _ s5 ⟨x,H5,I5,r5,y5,Z7,fr5⟩;obtain⟨rd5,m5⟩:=yl x H5 y5;have I5':=I5.pinned (Vl fr5) (T.obj _ _ Z7);have J5:I2 X (pins++sW fp s5.heap) Sg H5 U8 G3 s5:=⟨I5',I3.st.mono (m5.kp I3.ab),m5.ab⟩;refine kY hp (iB (hg E _ s5 Sg H5 U8 G3 x ds[i] u _ hE J5 r5 rd5 w3) ?_);rintro _ s6 ⟨σ6,H6,τ6,G6,I6,m6,q6⟩;refine kY hp (iB (hb E _ s6 σ6 H6 τ6 G6 _ hE I6 q6) fun f s7 q7=>?_);have again:∀ {Ob:L2.St} {H7:Hp} {Oa:jc} {G7:Gp},I2 X (pins++sW fp s5.heap) Ob H7 Oa G7 s7->Mv X.K H6 G6 H7 G7->rN g t ok (ds.drop (i+1)) E D Oa G7 ->
    ∃ m,m < ds.length - i/\∃ i kR H' rY G',I2 X pins kR H' rY G' s7/\Mv X.K H G H' G'/\Kp H2 H'/\tn i s7.heap/\(∀ b∈fp,H' b=none)/\m=ds.length - i/\i<=ds.length/\rN g t ok (ds.drop i) E D rY G':=fun {Ob H7 Oa G7} I7 m7 n7=>by
   have mm:=m5.trans (m6.trans m7);refine⟨ds.length - (i+1),by lia,i+1,Ob,H7,Oa,G7,⟨I7.inv.vw,I7.st,I7.ab⟩,m3.trans mm,k3.trans (mm.kp I3.ab),T.keep _ _ _ Z7 fun b hb o e=>(I7.inv.pin (b,o) (dw _ (dw _ (qY hb e)))).1,fun b hb=>?_,rfl,A9,n7⟩;obtain⟨o,e,d⟩:=T.obj _ _ Z7 b hb;exact(I7.inv.pin (b,o) (dw _ (dw _ (qY hb e)))).2.1
  cases f with
  | next=>obtain⟨Ob,H7,Oa,G7,I7,m7,n7⟩:=q7; exact again I7 m7 n7
  | cont=>obtain⟨Ob,H7,Oa,G7,I7,m7,n7⟩:=q7; exact again I7 m7 n7
  | brk=>obtain⟨Ob,H7,Oa,G7,I7,m7,q7⟩:=q7; exact⟨Ob,H7,Oa,G7,⟨I7.inv.vw,I7.st,I7.ab⟩,m3.trans (m5.trans (m6.trans m7)),q7⟩
  | ret v=>obtain⟨x7,Ob,H7,d7,G7,I7,m7,r7,rd7,q7⟩:=q7; exact⟨x7,Ob,H7,d7,G7,I7.vw,m3.trans (m5.trans (m6.trans m7)),r7,rd7,q7⟩
 ·have hn:ds.length<=i:=by lia
  rw [nK hn] at w3;obtain⟨ok3,qn⟩:=w3;have stop:=(wk i H3 G3 k3 I3.ab ok3).2 hn;refine kY hp (iB (T.done X rfl rfl rfl hc i pins s3 Sg H3 X.xe I3.inv (Vl fr3) Zj stop) ?_);rintro r s4 ⟨hr,I4⟩;subst hr;exact zP ⟨Sg,H3,U8,G3,⟨I4,I3.st,I3.ab⟩,m3,qn⟩
theorem MQ{c:Expr}{body:List Stmt}{tc:yf}{t:iq}(hp:PassesOwn (model X.prog X.w) X.A X.env X.xe)(hc:Ol X c tc)(hb:yh X body t):Iw X (.While c body [] pos) (Ki tc t):=by
 intro E pins s σ H τ G D hE I h;obtain⟨n0,w0⟩:=h;refine wpAny_While (codeAny_whileLoop (fun n s'=>∃ kR H' rY G',I2 X pins kR H' rY G' s'/\Mv X.K H G H' G'/\FG tc t n E D rY G') ?_ n0 ⟨σ,H,τ,G,I,.refl I.ab,w0⟩);rintro n s1 ⟨Ze,H1,qO,G1,I1,m1,w1⟩;cases n with
 | zero=>exact w1.elim
 | succ n =>
  refine kY hp (OQ hc hE I1 w1 fun b H2 G2 s2 o4 m2 q2=>?_);cases b with
  | true =>
   rw [if_pos rfl] at q2 ⊢;refine kY hp (iB (hb E pins s2 Ze H2 qO G2 _ hE o4 q2) fun f s3 q3=>?_);cases f with
   | next=>obtain⟨Sg,H3,U8,G3,I3,m3,n3⟩:=q3; exact⟨n,pQ _,Sg,H3,U8,G3,I3,m1.trans (m2.trans m3),n3⟩
   | cont=>obtain⟨Sg,H3,U8,G3,I3,m3,n3⟩:=q3; exact⟨n,pQ _,Sg,H3,U8,G3,I3,m1.trans (m2.trans m3),n3⟩
   | brk=>exact q3.trans (m1.trans m2)
   | ret v=>exact q3.trans (m1.trans m2)
  | false =>
   rw [if_neg iG] at q2 ⊢;exact zP ⟨Ze,H2,qO,G2,o4,m1.trans m2,q2⟩
end
theorem DT(n d:Nat)(o:Option Int):HT.kn n d o=kn n d o:=by cases o <;> rfl
theorem bq.cut{K:ar}{H:Hp}{vs:List V}{ds:List D}(r:bq K H vs ds)(lo hi:Option Int):bq K H (HC vs lo hi) (K2.cut ds lo hi):=by
 unfold HC K2.cut;rw [DT,DT,r.length];exact(r.drop _).take _
theorem bq.uf{K:ar}{H:Hp}{vs:List V}{ds:List D}{i:Int}{d:D}(r:bq K H vs ds)(h:K2.uf ds i=some d):∃ v,L2.uf vs i=some v/\b7 K H v d:=by
 unfold K2.uf at h;cases e:K2.LM ds.length i with
 | none=>rw [e] at h; cases h
 | some j =>
  rw [e] at h;obtain⟨v,h1,h2⟩:=r.get (show ds[j]?=some d from h);refine⟨v,?_,h2⟩;show (L2.LM vs.length i).bind _=_;have e':L2.LM vs.length i=some j:=by rw [r.length]; exact e
  rw [e'];exact h1
section
variable {X:Cx} {a b c e:Expr} {ta tb tc te:gK} {pos p2:Pos}
theorem kN{pins:List (Addr×Obj)}{s:aA}{σ:L2.St}{H:Hp}{G:Gp}{x:V}{d:D}{v:Value}{zs:List D}(I:Inv X pins σ H s)(ab:mM X.K H G)(rx:RelV x v)(rd:b7 X.K H x d)(hi:mE d G=some zs) :
  ∃ l vs bQ,v=.ref l/\Vals vs bQ/\bq X.K H vs zs/\s.heap.IsList l bQ.toArray/\vs.length<=a9:=by
 cases rd with
 | dN hq rs =>
  cases hi;cases rx;obtain⟨bQ,rv,pl,hz⟩:=I.list hq.sq;exact⟨_,_,bQ,rfl,rv,rs,pl.isList,hz⟩
 | ref l =>
  unfold mE at hi;dsimp only at hi;cases hg:G l with
  | none=>rw [hg] at hi; cases hi
  | some gg =>
   rw [hg] at hi;cases gg with
   | lst ds =>
    cases hi;cases rx;obtain⟨vs,hv,rs⟩:=ab.lst hg;obtain⟨bQ,rv,pl,hz⟩:=I.list (.of hv);exact⟨_,_,bQ,rfl,rv,rs,pl.isList,hz⟩
   | ins _ _=>cases hi
   | ua _=>cases hi
   | eW _=>cases hi
 | _=>cases hi
theorem xM{pins:List (Addr×Obj)}{s:aA}{σ:L2.St}{H:Hp}(I:Inv X pins σ H s){m:Str->Option Value}(F0:Fr X.base X.env.locals s.heap m){h':Heap}(F:Fr X.base X.env.locals h' m)(N:News X.base X.env.locals h' (ug X.base s.heap X.env.locals)) :
  (∀ b o,b≠X.env.locals->s.heap.get? b=some o->h'.get? b=some o)/\∀ m',s.heap.Ns X.env.locals m'->h'.Ns X.env.locals m':=by
 refine⟨fun b o hb e=>?_,fun m' hm=>?_⟩
 ·cases q:X.base.get? b with
  | some u =>
   have:=I.bk b u q;rw [e] at this; cases this;exact F.keep b _ q
  | none=>exact(N (b,o) (yH hb q e)).1
 ·have e1:=hm.eq_nsMap;have e2:=F0.ns.eq_nsMap;rw [e1,<-e2]; exact F.ns
theorem kT{P:bE}{w:World}{H:Hp}{h:Heap}{a:Addr}:∀ {o:HO},fu P w H h a o->∃ ob,h.get? a=some ob:=by
 intro o x;cases o with
 | lst _=>obtain⟨_,_,_,_,e⟩:=x; exact⟨_,e⟩
 | tup _=>obtain⟨_,_,_,ob,e,_⟩:=x; exact⟨ob,e⟩
 | dK _=>obtain⟨_,_,_,_,ob,_,_,e,_⟩:=x; exact⟨ob,e⟩
 | dT _=>obtain⟨_,_,_,_,ob,_,_,e,_⟩:=x; exact⟨ob,e⟩
 | set _ _=>obtain⟨ob,_,_,_,e,_⟩:=x; exact⟨ob,e⟩
 | ins _ _ _=>obtain⟨_,_,_,e,_⟩:=x; exact⟨_,e⟩
 | own _=>exact x
 | xd _=>obtain⟨_,⟨ob,_,_,e,_⟩,_⟩:=x; exact⟨ob,e⟩
 | met _ _=>exact⟨_,x⟩
 | Xr _ _=>obtain⟨_,_,_,e⟩:=x; exact⟨_,e⟩
 | jC _ _=>exact⟨_,x.1⟩
 | Sq _=>obtain⟨_,e,_⟩:=x; exact⟨_,e⟩
 | ext _=>exact x.2.1
theorem LV{P:bE}{w:World}{H:Hp}{h:Heap}{a:Addr}(ok:pJ P w H h)(e:h.get? a=none):H a=none:=by
 cases q:H a with
 | none=>rfl
 | some o =>
  obtain⟨ob,z⟩:=kT (ok a o q);rw [e] at z; cases z
theorem Inv.UD{pins:List (Addr×Obj)}{s:aA}{σ:L2.St}{H:Hp}(I:Inv X pins σ H s){h':Heap}{t':Nat}{a:Addr}{o:HO}(k:∀ b o,b≠X.env.locals->s.heap.get? b=some o->h'.get? b=some o)(ns:∀ m',s.heap.Ns X.env.locals m'->h'.Ns X.env.locals m')
  (hp:s.heap.get? a=none) (new:fu X.prog X.w (upd H a o) h' a o):Inv X pins σ (upd H a o) { s with heap:=h',toks:=t' }:=by
 have hn:H a=none:=LV I.cu hp;have ne:∀ b u,H b=some u->b≠a:=fun b u e=>eC e hn;have nL:∀ b u,H b=some u->b≠X.env.locals:=fun b u e=>eC e I.free;have ht:∀ b u,s.heap.get? b=some u->b≠a:=fun b u e z=>by subst z; rw [hp] at e; cases e
 have thL:∃ o',h'.get? X.env.locals=some o':=by
  obtain⟨m,hm,_⟩:=I.loc;obtain⟨o',_,_,ho,_⟩:=ns m hm;exact⟨o',ho⟩
 refine I.step (g':=s.gens) (d':=s.drawn) (ch:=[]) (fun b hb=>absurd hb (by simp)) (fun b o hL _ _ e _=>k b o hL e) (fun b o hL _ _ e _=>⟨o.slots,k b o hL e⟩) (fun b o _ e n=>by rw [bz (ht b o e)]; exact n)
  (fun b o _ e=>?_) (fun b xs e=>by rw [bz (ne _ _ e)]; exact e) (fun b o u e=>by rw [bz (ne _ _ e)]; exact e) (fun b ps e=>by rw [bz (ne _ _ e)]; exact e) (fun b ps e=>by rw [bz (ne _ _ e)]; exact e) ns (fun b u e=>?_) I.bare
 ·by_cases hb:b=X.env.locals
  ·rw [hb]; exact thL
  ·exact⟨o,k b o hb e⟩
 ·by_cases hb:b=a
  ·subst hb; rw [bN] at e; cases e; exact new
  ·rw [bz hb] at e;refine(I.cu b u e).k9 (fun c v hc r=>k c v ?_ r) (fun c z=>by rw [bz (ne _ _ z)]; exact z) (fun c xs z=>by rw [bz (ne _ _ z)]; exact z);rcases hc with rfl | hc
   ·exact nL _ _ e
   ·exact nL _ _ hc
theorem dc:qF X (jT .Add) ic:=by
 intro pins s σ H G x y dx dy v u Q I ab rx ry dX dY q;have lists:yd dx dy G Q->wpAny (model X.prog X.w) X.A (jT .Add v u) (rP X pins σ H G Q) X.xe s:=by
  intro q;unfold yd at q;split at q
  ·rename_i xs ys e1 e2;obtain⟨hz,q⟩:=q;obtain⟨l,vs,bQ,rfl,rv,rs,hl,_⟩:=kN I ab rx dX e1;obtain⟨b,ws,nS,rfl,Iq,Ff,hb,_⟩:=kN I ab ry dY e2;obtain⟨m,F0⟩:=I.fr;have hsz:bQ.length+nS.length<=a9:=by rw [<-rv.length,<-Iq.length,rs.length,Ff.length,cV]; exact hz
   refine PyProof.Rows.add_lists F0 Gy hl hb (fun h' F N=>?_) hsz;obtain⟨kk,ns⟩:=xM I F0 F fun p hp=>N p (aJ _ hp);have hp:H s.heap.objs.size=none:=I.cu.fresh (aH _);refine⟨.ref s.heap.objs.size,upd H s.heap.objs.size (.lst (vs++ws)),.ref _,_,Inv.UD (t':=s.toks) I kk ns (Sf (aH _)) ?_,.Jy ab hp (rs.append Ff),rfl,.ref _,q _ (ab.free hp)⟩;exact⟨by rw [av,rv.length,Iq.length]; exact hsz,bQ++nS,0,rv.append Iq,(N _ cA).1⟩
  ·exact q.elim
 cases dX with
 | int i =>
  cases dY with
  | int j=>exact iB (VP pins s σ H _ _ v u (Cu X.K H G Q) I rx ry ⟨i,j,rfl,rfl,_,_,.refl ab,.int _,q⟩) fun _ _ z=>.of z
  | _=>exact lists q
 | str i =>
  cases dY with
  | str j =>
   obtain⟨hz,q⟩:=q;exact iB (Jr pins s σ H _ _ v u (Cu X.K H G Q) I rx ry ⟨i,j,rfl,rfl,by rw [cV]; exact hz,_,_,.refl ab,.str _,q⟩) fun _ _ z=>.of z
  | _=>exact lists q
 | tup h1 r1 =>
  cases dY with
  | tup h2 r2 =>
   obtain⟨hn,hz,q⟩:=q;refine iB (S3 pins s σ H _ _ v u (Cu X.K H G Q) I rx ry ⟨_,_,_,_,rfl,rfl,.of h1,.of h2,?_,?_,fun e=>?_,fun e p hp=>?_⟩) fun _ _ z=>.of z
   ·rintro rfl; cases r1; exact hn rfl
   ·rw [r1.length,r2.length,cV]; exact hz
   ·subst e;cases r2;rw [cj] at q;exact⟨_,_,.refl ab,.tup h1 r1,q⟩
   ·exact⟨_,_,.Nz ab hp,.tup bN ((r1.append r2).mono (.new hp)),q⟩
  | _=>exact lists q
 | ref l=>exact lists (by rw [sT] at q; exact q)
 | dN _ _=>exact lists (by rw [qt] at q; exact q)
 | _=>exact lists (by cases dY <;> exact q)
theorem S4:qF X (jT .Sub) SA:=by
 intro pins s σ H G x y dx dy v u Q I ab rx ry dX dY q;cases dX with
 | int i =>
  cases dY with
  | int j=>exact iB (VL pins s σ H _ _ v u (Cu X.K H G Q) I rx ry ⟨i,j,rfl,rfl,_,_,.refl ab,.int _,q⟩) fun _ _ z=>.of z
  | _=>exact bJ q
 | _=>exact bJ q
theorem zG:qF X (jT .Mult) DW:=by
 intro pins s σ H G x y dx dy v u Q I ab rx ry dX dY q;cases dX with
 | int i =>
  cases dY with
  | int j=>exact iB (VM pins s σ H _ _ v u (Cu X.K H G Q) I rx ry ⟨i,j,rfl,rfl,q.1,_,_,.refl ab,.int _,q.2⟩) fun _ _ z=>.of z
  | _=>exact bJ q
 | _=>exact bJ q
theorem jL:qF X (jT .Mod) sR:=by
 intro pins s σ H G x y dx dy v u Q I ab rx ry dX dY q;cases dX with
 | int i =>
  cases dY with
  | int j=>exact iB (VN pins s σ H _ _ v u (Cu X.K H G Q) I rx ry ⟨i,j,rfl,rfl,q.1,_,_,.refl ab,.int _,q.2⟩) fun _ _ z=>.of z
  | _=>exact bJ q
 | _=>exact bJ q
theorem qw:qF X (jT .FloorDiv) yB:=by
 intro pins s σ H G x y dx dy v u Q I ab rx ry dX dY q;cases dX with
 | int i =>
  cases dY with
  | int j=>exact iB (S2 pins s σ H _ _ v u (Cu X.K H G Q) I rx ry ⟨i,j,rfl,rfl,⟨q.1,q.2.1⟩,_,_,.refl ab,.int _,q.2.2⟩) fun _ _ z=>.of z
  | _=>exact bJ q
 | _=>exact bJ q
theorem PI(hu:X.A.units < cLine):qF X (eS .Lt) Zm:=by
 intro pins s σ H G x y dx dy v u Q I ab rx ry dX dY q;cases dX with
 | int i =>
  cases dY with
  | int j=>exact iB (XC pins s σ H _ _ v u (Cu X.K H G Q) I rx ry ⟨i,j,rfl,rfl,_,_,.refl ab,.bl _,q⟩) fun _ _ z=>.of z
  | _=>exact bJ q
 | tup h1 r1 =>
  cases dY with
  | tup h2 r2 =>
   obtain⟨xs,ys,e1,e2,q⟩:=q;subst e1 e2;have z1:=r1.ints;have z2:=r2.ints;subst z1 z2;have el:∀ xs ys:List Int,HT.lexLt xs ys=K2.lexLt xs ys:=by
    intro xs;induction xs with
    | nil=>intro ys; cases ys <;> rfl
    | cons x xs ih=>intro ys; cases ys with
     | nil=>rfl
     | cons y ys=>unfold HT.lexLt K2.lexLt; rw [ih]
   exact iB (VO hu pins s σ H _ _ v u (Cu X.K H G Q) I rx ry ⟨_,_,xs,ys,rfl,rfl,.of h1,.of h2,_,_,.refl ab,.bl _,by rw [el]; exact q⟩) fun _ _ z=>.of z
  | _=>exact bJ q
 | _=>exact bJ q
theorem VR:qF X (eS .Gt) rGt:=by
 intro pins s σ H G x y dx dy v u Q I ab rx ry dX dY q;cases dX with
 | int i =>
  cases dY with
  | int j=>exact iB (XD pins s σ H _ _ v u (Cu X.K H G Q) I rx ry ⟨i,j,rfl,rfl,_,_,.refl ab,.bl _,q⟩) fun _ _ z=>.of z
  | _=>exact bJ q
 | _=>exact bJ q
mutual
def pd:D->PyData
 | .fg=>.none
 | .bl b=>.bool b
 | .int i=>.int i
 | .str x=>.str x
 | .tup ds=>.tuple (oZ ds)
 | .dN ds=>.list (oZ ds)
 | .iL _=>.none
 | .exc _=>.none
 | .Hv _ _ _=>.none
 | .oY _=>.none
 | .ref _=>.none
def oZ:List D->List PyData
 | []=>[]
 | d :: r=>pd d :: oZ r
end
mutual
theorem xU:∀ (s t:D),nr s=true->nr t=true->BO (pd s) (pd t)=jj s t
 | .fg,t,_,ht=>by cases t <;> first | rfl | (exact aW (show false=true from ht))
 | .bl a,t,_,ht=>by cases t <;> first | rfl | (exact aW (show false=true from ht))
 | .int a,t,_,ht=>by cases t <;> first | rfl | (exact aW (show false=true from ht))
 | .str a,t,_,ht=>by cases t <;> first | rfl | (exact aW (show false=true from ht))
 | .tup a,t,hs,ht=>by
  cases t with
  | tup b=>exact ED a b hs ht
  | ref _=>exact aW (show false=true from ht)
  | exc _=>exact aW (show false=true from ht)
  | Hv _ _ _=>exact aW (show false=true from ht)
  | oY _=>exact aW (show false=true from ht)
  | iL _=>exact aW (show false=true from ht)
  | _=>rfl
 | .dN a,t,hs,ht=>by
  cases t with
  | dN b=>exact ED a b hs ht
  | ref _=>exact aW (show false=true from ht)
  | exc _=>exact aW (show false=true from ht)
  | Hv _ _ _=>exact aW (show false=true from ht)
  | oY _=>exact aW (show false=true from ht)
  | iL _=>exact aW (show false=true from ht)
  | _=>rfl
 | .ref _,_,hs,_=>aW (show false=true from hs)
 | .exc _,_,hs,_=>aW (show false=true from hs)
 | .Hv _ _ _,_,hs,_=>aW (show false=true from hs)
 | .oY _,_,hs,_=>aW (show false=true from hs)
 | .iL _,_,hs,_=>aW (show false=true from hs)
theorem ED:∀ (s t:List D),sX s=true->sX t=true->PyData.eqvAll (oZ s) (oZ t)=mH s t
 | [],[],_,_=>rfl
 | [],_ :: _,_,_=>rfl
 | _ :: _,[],_,_=>rfl
 | a :: r,b :: t,hs,ht=>by
  have UK:nr a=true/\sX r=true:=(pV).mp hs;have W3:nr b=true/\sX t=true:=(pV).mp ht;show (BO (pd a) (pd b)&&PyData.eqvAll (oZ r) (oZ t))=(jj a b&&mH r t);rw [xU a b UK.1 W3.1,ED r t UK.2 W3.2]
end
mutual
theorem lX:∀ (s:D),nr s=true->(pd s).canLay0=true
 | .fg,_=>rfl
 | .bl a,_=>rfl
 | .int a,_=>rfl
 | .str a,h=>h
 | .tup a,h=>zI a h
 | .dN a,h=>zI a h
 | .exc _,_=>rfl
 | .Hv _ _ _,_=>rfl
 | .oY _,_=>rfl
 | .ref _,_=>rfl
 | .iL _,_=>rfl
theorem zI:∀ (s:List D),sX s=true->PyData.canLayAll0 (oZ s)=true
 | [],_=>rfl
 | a :: r,h=>by
  have h':nr a=true/\sX r=true:=(pV).mp h;show ((pd a).canLay0&&PyData.canLayAll0 (oZ r))=true;rw [lX a h'.1,zI r h'.2]; rfl
end
theorem EI{G:Gp}{n:Nat}{d t:D}(h:Sn G n d t):(pd t).depth<=n:=by
 induction h with
 | fg=>exact cp _
 | bl b=>exact cp _
 | int i=>exact cp _
 | str x h=>exact cp _
 | I0=>exact pP (cp _)
 | sH _ _ Qw Qv =>
  exact pP (Nat.max_le.mpr ⟨Qw,vq Qv⟩)
 | MM=>exact pP (cp _)
 | CN _ _ Qw Qv =>
  exact pP (Nat.max_le.mpr ⟨Qw,vq Qv⟩)
 | ref _ _ ih=>exact ih
theorem lS{pins:List (Addr×Obj)}{σ:L2.St}{H:Hp}{s:aA}{G:Gp}(I:Inv X pins σ H s)(ab:mM X.K H G){n:Nat}{d t:D}(h:Sn G n d t) :
  (∀ v u,b7 X.K H v d->RelV v u->∃ as,Reads s.heap u (pd t) as) /\
  (∀ ds ss,(d=.dN ds/\t=.dN ss)\/(d=.tup ds/\t=.tup ss)->∀ vs us,bq X.K H vs ds->Vals vs us->∃ as,iT s.heap us (oZ ss) as):=by
 have Ug:∀ {ds ss:List D},(∀ vs us,bq X.K H vs ds->Vals vs us->∃ as,iT s.heap us (oZ ss) as)->∀ v u,b7 X.K H v (.tup ds)->RelV v u->∃ as,Reads s.heap u (pd (.tup ss)) as:=by
  intro ds ss k v u r ru;cases r with
  | tup hq rs =>
   cases ru;obtain⟨bQ,rv,⟨o,ho,hc,n,hd⟩,hz⟩:=I.tuple (.of hq);obtain⟨as,ra⟩:=k _ bQ rs rv;exact⟨as,.tuple ho hc hd (by simpa using ra)⟩
 have Uk:∀ {ds ss:List D},(∀ vs us,bq X.K H vs ds->Vals vs us->∃ as,iT s.heap us (oZ ss) as)->∀ v u,b7 X.K H v (.dN ds)->RelV v u->∃ as,Reads s.heap u (pd (.dN ss)) as:=by
  intro ds ss k v u r ru;cases r with
  | dN hq rs =>
   cases ru;obtain⟨bQ,rv,pl,hz⟩:=I.list hq.sq;obtain⟨o,ho,hc,n,hd⟩:=pl.isList;obtain⟨as,ra⟩:=k _ bQ rs rv;exact⟨_,.list ho hc hd (by simpa using ra)⟩
 induction h with
 | fg=>exact⟨fun v u r ru=>by cases r; cases ru; exact⟨_,.none⟩,fun ds ss e=>by rcases e with ⟨e,_⟩ | ⟨e,_⟩ <;> cases e⟩
 | bl b=>exact⟨fun v u r ru=>by cases r; cases ru; exact⟨_,.bool b⟩,fun ds ss e=>by rcases e with ⟨e,_⟩ | ⟨e,_⟩ <;> cases e⟩
 | int i=>exact⟨fun v u r ru=>by cases r; obtain⟨t,rfl⟩:=ru; exact⟨_,.int i t⟩,fun ds ss e=>by rcases e with ⟨e,_⟩ | ⟨e,_⟩ <;> cases e⟩
 | str x hx=>exact⟨fun v u r ru=>by cases r; obtain⟨t,rfl⟩:=ru; exact⟨_,.str x t⟩,fun ds ss e=>by rcases e with ⟨e,_⟩ | ⟨e,_⟩ <;> cases e⟩
 | I0 =>
  have k:∀ vs us,bq X.K H vs []->Vals vs us->∃ as,iT s.heap us (oZ []) as:=fun vs us r ru=>by
   have e:=r.zero;subst e;cases ru;exact⟨_,.nil⟩
  refine⟨Ug k,fun ds ss e=>?_⟩;rcases e with ⟨e,_⟩ | ⟨e,e2⟩
  ·cases e
  ·cases e; cases e2; exact k
 | sH h1 h2 Qw Qv =>
  have k2:=Qv.2 _ _ (.inr ⟨rfl,rfl⟩);have k:∀ vs us,bq X.K H vs (_ :: _)->Vals vs us->∃ as,iT s.heap us (oZ (_ :: _)) as:=fun vs us r ru=>by
   cases r with
   | cons r1 r2 =>
    cases ru with
    | cons u1 u2 =>
     obtain⟨as,ra⟩:=Qw.1 _ _ r1 u1;obtain⟨bs,rb⟩:=k2 _ _ r2 u2;exact⟨_,.cons ra rb⟩
  refine⟨Ug k,fun ds ss e=>?_⟩;rcases e with ⟨e,_⟩ | ⟨e,e2⟩
  ·cases e
  ·cases e; cases e2; exact k
 | MM =>
  have k:∀ vs us,bq X.K H vs []->Vals vs us->∃ as,iT s.heap us (oZ []) as:=fun vs us r ru=>by
   have e:=r.zero;subst e;cases ru;exact⟨_,.nil⟩
  refine⟨Uk k,fun ds ss e=>?_⟩;rcases e with ⟨e,e2⟩ | ⟨e,_⟩
  ·cases e; cases e2; exact k
  ·cases e
 | CN h1 h2 Qw Qv =>
  have k2:=Qv.2 _ _ (.inl ⟨rfl,rfl⟩);have k:∀ vs us,bq X.K H vs (_ :: _)->Vals vs us->∃ as,iT s.heap us (oZ (_ :: _)) as:=fun vs us r ru=>by
   cases r with
   | cons r1 r2 =>
    cases ru with
    | cons u1 u2 =>
     obtain⟨as,ra⟩:=Qw.1 _ _ r1 u1;obtain⟨bs,rb⟩:=k2 _ _ r2 u2;exact⟨_,.cons ra rb⟩
  refine⟨Uk k,fun ds ss e=>?_⟩;rcases e with ⟨e,e2⟩ | ⟨e,_⟩
  ·cases e; cases e2; exact k
  ·cases e
 | ref hg h1 ih =>
  refine⟨fun v u r ru=>?_,fun ds ss e=>by rcases e with ⟨e,_⟩ | ⟨e,_⟩ <;> cases e⟩;cases r;cases ru;obtain⟨vs,hv,rs⟩:=ab.lst hg;obtain⟨bQ,rv,pl,hz⟩:=I.list (.of hv);obtain⟨o,ho,hc,n,hd⟩:=pl.isList;obtain⟨as,ra⟩:=ih.2 _ _ (.inl ⟨rfl,rfl⟩) vs bQ rs rv;exact⟨_,.list ho hc hd (by simpa using ra)⟩
theorem lU(hu:X.A.units+64 < cLine):qF X (eS .Eq) (Fg false):=by
 intro pins s σ H G x y dx dy v u Q I ab rx ry dX dY q;obtain⟨a,b,sa,sb,q⟩:=q;obtain⟨as,ra⟩:=(lS I ab sa).1 x v dX rx;obtain⟨bs,rb⟩:=(lS I ab sb).1 y u dY ry;have d1:=EI sa;refine SeqAt.compareEq_reads ra rb (lX _ sa.nr) (lX _ sb.nr) (by unfold SN at d1; lia) ?_;rw [xU _ _ sa.nr sb.nr];exact⟨.bl _,H,.bl _,G,I,.refl ab,rfl,.bl _,q⟩
theorem PH(hu:X.A.units+64 < cLine):qF X (eS .NotEq) (Fg true):=by
 intro pins s σ H G x y dx dy v u Q I ab rx ry dX dY q;obtain⟨a,b,sa,sb,q⟩:=q;obtain⟨as,ra⟩:=(lS I ab sa).1 x v dX rx;obtain⟨bs,rb⟩:=(lS I ab sb).1 y u dY ry;have d1:=EI sa;refine SeqAt.compareNe_reads ra rb (lX _ sa.nr) (lX _ sb.nr) (by unfold SN at d1; lia) ?_;rw [xU _ _ sa.nr sb.nr];exact⟨.bl _,H,.bl _,G,I,.refl ab,rfl,.bl _,q⟩
end
theorem wH(j k:Key):jj (eV j) (eV k)=decide (j=k):=by
 cases j with
 | inl a=>cases k with
  | inl b=>rw [Qd]; rfl
  | inr b=>exact(decide_eq_false (fun z=>nomatch z)).symm
 | inr a=>cases k with
  | inl b=>exact(decide_eq_false (fun z=>nomatch z)).symm
  | inr b=>rw [Qc]; exact(RQ a b)
theorem C9:∀ (js ks:List Key),mH (js.map eV) (ks.map eV)=decide (js=ks)
 | [],[]=>(decide_eq_true rfl).symm
 | [],_ :: _=>(decide_eq_false (fun z=>nomatch z)).symm
 | _ :: _,[]=>(decide_eq_false (fun z=>nomatch z)).symm
 | j :: js,k :: ks=>by
  show (jj (eV j) (eV k)&&mH (js.map eV) (ks.map eV))=_;rw [wH,C9 js ks,HA]
theorem tu(js ks:List Key):jj (.tup (js.map eV)) (.tup (ks.map eV))=decide (js=ks):=by
 exact C9 js ks
section
variable {K:ar} {H:Hp}
theorem wg{d:D}(h:dE d=true):∃ k:Key,d=eV k:=by
 cases d with
 | int i=>exact⟨.inl i,rfl⟩
 | str x=>exact⟨.inr x,rfl⟩
 | _=>exact absurd h (by simp [dE])
theorem LH:∀ {ds:List D},ds.all dE=true->∃ ks:List Key,ds=ks.map eV
 | [],_=>⟨[],rfl⟩
 | d :: r,h=>by
  rw [uC,aK] at h;obtain⟨k,rfl⟩:=wg h.1;obtain⟨ks,rfl⟩:=LH h.2;exact⟨k :: ks,rfl⟩
theorem LI{d:D}(h:ly d=true):∃ ks:List Key,d=.tup (ks.map eV):=by
 cases d with
 | tup ds=>obtain⟨ks,rfl⟩:=LH (ds:=ds) h; exact⟨ks,rfl⟩
 | _=>exact absurd h (by simp [ly])
theorem vL{v:V}{k:Key}(r:b7 K H v (eV k)):v=kV k:=by
 cases k with
 | inl i=>cases r; rfl
 | inr x=>cases r; rfl
theorem FT:∀ {vs:List V} {ks:List Key},bq K H vs (ks.map eV)->vs=ks.map kV
 | _,[],r=>r.zero
 | _,k :: ks,r=>by
  rw [ak] at r;cases r with
  | cons r1 r2=>rw [vL r1,FT r2]; rfl
theorem FU{v:V}{ks:List Key}(r:b7 K H v (.tup (ks.map eV))):∃ b,v=.ref b/\H b=some (.tup (ks.map kV)):=by
 cases r with
 | tup h rs=>have e:=FT rs; subst e; exact⟨_,rfl,h⟩
theorem mW.look{kv:List (Key×V)}{kvs:List (D×D)}(r:mW K H kv kvs)(k:Key):(∃ v d,nO kv k=some v/\K2.look kvs (eV k)=some d/\b7 K H v d)\/(nO kv k=none/\K2.look kvs (eV k)=none):=by
 induction r using mW.ind with
 | nil=>exact .inr ⟨rfl,rfl⟩
 | @cons j v d r t rd rs ih =>
  by_cases e:j=k
  ·left;refine⟨v,d,sD (p:=(j,v)) e,?_,rd⟩;unfold K2.look;rw [cB (by show jj (eV j) (eV k)=true; rw [wH]; exact decide_eq_true e)]; rfl
  ·have e1:nO ((j,v) :: r) k=nO r k:=sE (p:=(j,v)) e;have e2:K2.look ((eV j,d) :: t) (eV k)=K2.look t (eV k):=by
    unfold K2.look;rw [cC (by show ¬ jj (eV j) (eV k)=true; rw [wH]; simpa using e)]
   rw [e1,e2];exact ih
theorem oh.look{kv:List (List Key×V)}{kvs:List (D×D)}(r:oh K H kv kvs)(k:List Key):(∃ v d,nO kv k=some v/\K2.look kvs (.tup (k.map eV))=some d/\b7 K H v d)\/(nO kv k=none/\K2.look kvs (.tup (k.map eV))=none):=by
 induction r using oh.ind with
 | nil=>exact .inr ⟨rfl,rfl⟩
 | @cons j v d r t rd rs ih =>
  by_cases e:j=k
  ·left;refine⟨v,d,sD (p:=(j,v)) e,?_,rd⟩;unfold K2.look;rw [cB (by show jj (.tup (j.map eV)) (.tup (k.map eV))=true; rw [tu]; exact decide_eq_true e)]; rfl
  ·have e1:nO ((j,v) :: r) k=nO r k:=sE (p:=(j,v)) e;have e2:K2.look ((.tup (j.map eV),d) :: t) (.tup (k.map eV))=K2.look t (.tup (k.map eV)):=by
    unfold K2.look;rw [cC (by show ¬ jj (.tup (j.map eV)) (.tup (k.map eV))=true; rw [tu]; simpa using e)]
   rw [e1,e2];exact ih
theorem mW.any{kv:List (Key×V)}{kvs:List (D×D)}(r:mW K H kv kvs)(k:Key):(kv.any fun p=>decide (p.1=k))=kvs.any fun p=>jj p.1 (eV k):=by
 induction r using mW.ind with
 | nil=>rfl
 | @cons j v d r t rd rs ih=>simp only [mS]; rw [ih,wH]
theorem oh.any{kv:List (List Key×V)}{kvs:List (D×D)}(r:oh K H kv kvs)(k:List Key):(kv.any fun p=>decide (p.1=k))=kvs.any fun p=>jj p.1 (.tup (k.map eV)):=by
 induction r using oh.ind with
 | nil=>rfl
 | @cons j v d r t rd rs ih=>simp only [mS]; rw [ih,tu]
theorem mW.put{kv:List (Key×V)}{kvs:List (D×D)}(r:mW K H kv kvs)(k:Key){v:V}{d:D}(rd:b7 K H v d):mW K H (putK kv k v) (K2.put kvs (eV k) d):=by
 unfold putK K2.put;rw [r.any k];by_cases h:(kvs.any fun p=>jj p.1 (eV k))=true
 ·rw [if_pos h,if_pos h];clear h;induction r using mW.ind with
  | nil=>exact .nil
  | @cons j w e r t re rs ih =>
   simp only [ak];rw [wH];by_cases e:j=k
   ·simp only [e,if_true,decide_true]; exact .cons rd ih
   ·simp only [e,if_false,decide_false,ay]; exact .cons re ih
 ·rw [if_neg h,if_neg h];clear h;induction r using mW.ind with
  | nil=>exact .cons rd .nil
  | cons re rs ih=>exact .cons re ih
theorem oh.put{kv:List (List Key×V)}{kvs:List (D×D)}(r:oh K H kv kvs)(k:List Key){v:V}{d:D}(rd:b7 K H v d):oh K H (putK kv k v) (K2.put kvs (.tup (k.map eV)) d):=by
 unfold putK K2.put;rw [r.any k];by_cases h:(kvs.any fun p=>jj p.1 (.tup (k.map eV)))=true
 ·rw [if_pos h,if_pos h];clear h;induction r using oh.ind with
  | nil=>exact .nil
  | @cons j w e r t re rs ih =>
   simp only [ak];rw [tu];by_cases e:j=k
   ·simp only [e,if_true,decide_true]; exact .cons rd ih
   ·simp only [e,if_false,decide_false,ay]; exact .cons re ih
 ·rw [if_neg h,if_neg h];clear h;induction r using oh.ind with
  | nil=>exact .cons rd .nil
  | cons re rs ih=>exact .cons re ih
end
theorem Kp.putD{H:Hp}{p:Addr}{o o':HO}(hp:H p=some o)(h:(∃ k,o=.dK k)\/∃ k,o=.dT k):Kp H (upd H p o') :=
 ⟨fun a ys e=>by rw [bz (by rintro rfl; rw [hp] at e; rcases h with ⟨_,rfl⟩ | ⟨_,rfl⟩ <;> cases e)]; exact e,fun a ob u e=>by rw [bz (by rintro rfl; rw [hp] at e; rcases h with ⟨_,rfl⟩ | ⟨_,rfl⟩ <;> cases e)]; exact e⟩
section
variable {X:Cx} {pins:List (Addr×Obj)} {σ:L2.St} {H:Hp} {s:aA} {G:Gp} {a:Addr} {kvs:List (D×D)} {k:D} {y:V}
theorem toT(I:Inv X pins σ H s)(e:H a=some (.dK [])):Inv X pins σ (upd H a (.dT [])) s:=by
 obtain⟨z,hd,vs,rel,dd⟩:=Dj I.cu e;have hv:vs=[]:=by cases rel; rfl
 subst hv;obtain⟨o,es,ep,ho,hx,yM,hko,hl,nd⟩:=dd;have he:es=#[]:=by
  cases hq:es.toList with
  | nil=>simpa using hq
  | cons _ _=>rw [hq] at hl; cases hl
 subst he;exact I.write (h':=s.heap) (t':=s.toks) (x:=a) (e:=a) (by rw [e]; exact gT) (.inl rfl) (fun b u _ q=>q) ⟨o,ho⟩ ⟨cp _,hd,[],.nil,o,#[],ep,ho,hx,yM,rfl,cq⟩
theorem toK(I:Inv X pins σ H s)(e:H a=some (.dT [])):Inv X pins σ (upd H a (.dK [])) s:=by
 obtain⟨z,hd,xs,rel,o,es,ep,ho,hx,yM,hl,nd⟩:=I.cu a _ e;have hv:xs=[]:=by cases rel; rfl
 subst hv;have he:es=#[]:=by simpa using hl
 subst he;exact I.write (h':=s.heap) (t':=s.toks) (x:=a) (e:=a) (by rw [e]; exact gT) (.inl rfl) (fun b u _ q=>q) ⟨o,ho⟩ ⟨cp _,hd,[],.nil,o,#[],ep,ho,hx,yM,(fun _ h=>by simp at h),.nil,cq⟩
theorem LB{o:HO}(ab:mM X.K H G)(hg:G a=some (.eW kvs))(k:Kp H (upd H a o))(ho:KA X.K (upd H a o) a (.eW kvs)):Mv X.K H G (upd H a o) G:=by
 have m:=Mv.put ab hg k ho;have e:dH G a (.eW kvs)=G:=by
  funext b; unfold dH; split
  ·rename_i z; rw [z,hg]
  ·rfl
 rw [e] at m;exact m
theorem EH(I:Inv X pins σ H s)(ab:mM X.K H G)(hg:G a=some (.eW kvs))(hk:ie kvs k=true)(ry:b7 X.K H y k) :
  ∃ H',Inv X pins σ H' s/\Mv X.K H G H' G/\((∃ (kv:List (Key×V)) (kk:Key),H' a=some (.dK kv)/\mW X.K H' kv kvs/\k=eV kk/\y=kV kk)\/∃ (kv:List (List Key×V)) (kk:List Key) (b:Addr),H' a=some (.dT kv)/\oh X.K H' kv kvs/\k=.tup (kk.map eV)/\y=.ref b/\H' b=some (.tup (kk.map kV))):=by
 unfold ie at hk;rw [qI,aK,aK] at hk;rcases hk with ⟨h1,h2⟩ | ⟨h1,h2⟩
 ·obtain⟨kk,rfl⟩:=wg h1;have ey:=vL ry;subst ey;rcases ab a _ hg with ⟨kv,hv,rs⟩ | ⟨kv,hv,rs⟩
  ·exact⟨H,I,.refl ab,.inl ⟨kv,kk,hv,rs,rfl,rfl⟩⟩
  ·cases rs with
   | nil =>
    refine⟨_,toK I hv,LB ab hg (.putD hv (.inr ⟨_,rfl⟩)) (.inl ⟨[],bN,.nil⟩),.inl ⟨[],kk,bN,.nil,rfl,rfl⟩⟩
   | cons _ _=>simp [dE] at h2
 ·obtain⟨kk,rfl⟩:=LI h1;obtain⟨b,rfl,hb⟩:=FU ry;rcases ab a _ hg with ⟨kv,hv,rs⟩ | ⟨kv,hv,rs⟩
  ·cases rs with
   | nil =>
    have kp:Kp H (upd H a (.dT [])):=.putD hv (.inl ⟨_,rfl⟩);exact⟨_,toT I hv,LB ab hg kp (.inr ⟨[],bN,.nil⟩),.inr ⟨[],kk,b,bN,.nil,rfl,rfl,kp.tup _ _ hb⟩⟩
   | @cons j _ _ _ _ _ _=>cases j <;> simp [eV,ly] at h2
  ·exact⟨H,I,.refl ab,.inr ⟨kv,kk,b,hv,rs,rfl,rfl,hb⟩⟩
theorem Bo(I:Inv X pins σ H s)(ab:mM X.K H G)(hg:G a=some (.eW kvs))(hk:ie kvs k=true)(ry:b7 X.K H y k) :
  ∃ H' o,Inv X pins σ H' s/\Mv X.K H G H' G/\zo H' a y o/\o.isSome=(look kvs k).isSome/\∀ d,look kvs k=some d->∃ v,o=some v/\b7 X.K H' v d:=by
 obtain⟨H',I',m,h⟩:=EH I ab hg hk ry;rcases h with ⟨kv,kk,hv,rs,rfl,rfl⟩ | ⟨kv,kk,b,hv,rs,rfl,rfl,hb⟩
 ·refine⟨H',nO kv kk,I',m,.k hv,?_,fun d hd=>?_⟩
  ·rcases rs.look kk with ⟨v,d,e1,e2,_⟩ | ⟨e1,e2⟩ <;> rw [e1,e2] <;> rfl
  ·rcases rs.look kk with ⟨v,d',e1,e2,r⟩ | ⟨e1,e2⟩
   ·rw [e2] at hd; cases hd; exact⟨v,e1,r⟩
   ·rw [e2] at hd; cases hd
 ·refine⟨H',nO kv kk,I',m,.t hv hb,?_,fun d hd=>?_⟩
  ·rcases rs.look kk with ⟨v,d,e1,e2,_⟩ | ⟨e1,e2⟩ <;> rw [e1,e2] <;> rfl
  ·rcases rs.look kk with ⟨v,d',e1,e2,r⟩ | ⟨e1,e2⟩
   ·rw [e2] at hd; cases hd; exact⟨v,e1,r⟩
   ·rw [e2] at hd; cases hd
theorem DU{x:V}(I:Inv X pins σ H s)(rd:b7 X.K H x (.iL kvs))(hk:ie kvs k=true)(ry:b7 X.K H y k) :
  ∃ a o,x=.ref a/\(kvs=[]\/zo H a y o)/\o.isSome=(look kvs k).isSome/\∀ d,look kvs k=some d->∃ v,o=some v/\b7 X.K H v d:=by
 unfold ie at hk;rw [qI,aK,aK] at hk;cases rd with
 | qo h rs =>
  rename_i a ob kv;rcases hk with ⟨h1,h2⟩ | ⟨h1,h2⟩
  ·obtain⟨kk,rfl⟩:=wg h1;have ey:=vL ry;subst ey;refine⟨a,nO kv kk,rfl,.inr (.inl ⟨kv,kk,.inr ⟨_,h⟩,rfl,rfl⟩),?_,fun d hd=>?_⟩
   ·rcases rs.look kk with ⟨v,d,e1,e2,_⟩ | ⟨e1,e2⟩ <;> rw [e1,e2] <;> rfl
   ·rcases rs.look kk with ⟨v,d',e1,e2,r⟩ | ⟨e1,e2⟩
    ·rw [e2] at hd; cases hd; exact⟨v,e1,r⟩
    ·rw [e2] at hd; cases hd
  ·cases rs with
   | nil=>exact⟨a,none,rfl,.inl rfl,rfl,fun d hd=>by cases hd⟩
   | cons _ _ =>
    rename_i kx _ _ _ _ _ _;rw [uC,aK] at h2;cases kx <;> exact absurd h2.1 (by simp [eV,ly])
 | qm h rs =>
  rename_i a ob kv;rcases hk with ⟨h1,h2⟩ | ⟨h1,h2⟩
  ·cases rs with
   | nil=>exact⟨a,none,rfl,.inl rfl,rfl,fun d hd=>by cases hd⟩
   | cons _ _ =>
    rw [uC,aK] at h2;exact absurd h2.1 (by simp [dE])
  ·obtain⟨kk,rfl⟩:=LI h1;obtain⟨b,rfl,hb⟩:=FU ry;refine⟨a,nO kv kk,rfl,.inr (.inr ⟨kv,kk,b,.inr ⟨_,h⟩,rfl,hb,rfl⟩),?_,fun d hd=>?_⟩
   ·rcases rs.look kk with ⟨v,d,e1,e2,_⟩ | ⟨e1,e2⟩ <;> rw [e1,e2] <;> rfl
   ·rcases rs.look kk with ⟨v,d',e1,e2,r⟩ | ⟨e1,e2⟩
    ·rw [e2] at hd; cases hd; exact⟨v,e1,r⟩
    ·rw [e2] at hd; cases hd
theorem Q4{v:V}{d:D}(I:Inv X pins σ H s)(ab:mM X.K H G)(hg:G a=some (.eW kvs))(hk:ie kvs k=true)(hz:kvs.length < SZ)(ry:b7 X.K H y k)(rv:b7 X.K H v d) :
  ∃ H' H'',Inv X pins σ H' s/\NY H' a y v H''/\Mv X.K H G H'' (dH G a (.eW (put kvs k d))):=by
 obtain⟨H',I',m,h⟩:=EH I ab hg hk ry;have rv':=rv.mono (m.kp ab);have sz:a9=16777216:=cV;rcases h with ⟨kv,kk,hv,rs,rfl,rfl⟩ | ⟨kv,kk,b,hv,rs,rfl,rfl,hb⟩
 ·have kp:Kp H' (upd H' a (.dK (putK kv kk v))):=.putD hv (.inl ⟨_,rfl⟩);exact⟨H',_,I',.k hv (by rw [rs.length,sz]; exact hz),m.trans (.put m.ab hg kp (.inl ⟨_,bN,(rs.put kk rv').mono kp⟩))⟩
 ·have kp:Kp H' (upd H' a (.dT (putK kv kk v))):=.putD hv (.inr ⟨_,rfl⟩);exact⟨H',_,I',.t hv hb (by rw [rs.length,sz]; exact hz),m.trans (.put m.ab hg kp (.inr ⟨_,bN,(rs.put kk rv').mono kp⟩))⟩
end
section
variable {X:Cx} {a b c e:Expr} {es:List Expr} {ta tb tc te:gK} {t:Fp} {pos p p2 apos rq:Pos} {x:Str}
theorem AI{k:Bool}{j}:gH X (.Constant (.bool k) j pos) (dC (.bl k)):=xE XB fun _ _=>.bl k
theorem MR{st:Stmt}:Iw X st Q7:=fun _ _ _ _ _ _ _ _ _ _ h=>h.elim
theorem Sl:Y3 X (unaryOp .USub) Vy:=by
 intro pins s σ H G x dx v Q I ab rx dX q;cases dX with
 | int i=>exact iB (Vd pins s σ H _ v (Cu X.K H G Q) I rx ⟨i,rfl,_,_,.refl ab,.int _,q⟩) fun _ _ z=>.of z
 | _=>exact bJ q
theorem eK(hu:X.A.units+64 < cLine)(ha:gH X a ta)(hb:gH X b tb)(hs:T6 b):gH X (.Subscript a b pos) (br mD ta tb):=by
 intro E pins s σ H τ G Q hE I h;refine Subscript_ (Rw ha hb hE I h fun v u s2 x y dx dy H2 G2 J m rx ry dX dY q=>?_);have fin:∀ {rb:R2},IxR X rb->rb x y H2 (Cu X.K H2 G2 Q)->wpAny (model X.prog X.w) X.A (subscriptTail a b v u) (rP X pins σ H G Q) X.xe s2:=fun hr hq =>
  iB (hr a b pins s2 σ H2 x y v u _ J.inv rx ry hq (hs _ _)) fun _ _ z=>(rP.of z).trans m
 cases dX with
 | tup hq rs =>
  cases dY with
  | int i =>
   rw [jv] at q;split at q
   ·rename_i d hd;obtain⟨w,hw,rH⟩:=rs.uf hd;exact fin V6 ⟨_,_,i,w,rfl,rfl,.of hq,hw,d,G2,.refl J.ab,rH,q⟩
   ·exact q.elim
  | _=>exact bJ q
 | dN hq rs =>
  cases dY with
  | int i =>
   rw [mC] at q;split at q
   ·rename_i d hd;obtain⟨w,hw,rH⟩:=rs.uf hd;exact fin LK ⟨_,_,i,w,rfl,rfl,hq.sq,hw,d,G2,.refl J.ab,rH,q⟩
   ·exact q.elim
  | _=>exact bJ q
 | qo h rs =>
  rw [tS] at q;obtain⟨hk,q⟩:=q;split at q
  ·rename_i d hd;obtain⟨a',o,ea,g,_,hv⟩:=DU J.inv (.qo h rs) hk dY;obtain⟨w,rfl,rH⟩:=hv d hd;cases ea;rcases g with rfl | g
   ·cases hd
   ·cases rx;exact tail_any (tD J.inv g) PySem.F.slot_dict_getitem.lookup (xX (by lia) J.inv g ry fun w' s3 I4 rv=>⟨w,H2,d,G2,I4,m,rv,rH,q⟩) (hs _ _)
  ·exact q.elim
 | qm h rs =>
  rw [tS] at q;obtain⟨hk,q⟩:=q;split at q
  ·rename_i d hd;obtain⟨a',o,ea,g,_,hv⟩:=DU J.inv (.qm h rs) hk dY;obtain⟨w,rfl,rH⟩:=hv d hd;cases ea;rcases g with rfl | g
   ·cases hd
   ·cases rx;exact tail_any (tD J.inv g) PySem.F.slot_dict_getitem.lookup (xX (by lia) J.inv g ry fun w' s3 I4 rv=>⟨w,H2,d,G2,I4,m,rv,rH,q⟩) (hs _ _)
  ·exact q.elim
 | ref l =>
  rw [DY] at q;split at q
  ·rename_i ds hl;obtain⟨vs,hv,rs⟩:=J.ab.lst hl;cases dY with
   | int i =>
    dsimp only at q;split at q
    ·rename_i d hd;obtain⟨w,hw,rH⟩:=rs.uf hd;exact fin LK ⟨_,_,i,w,rfl,rfl,.of hv,hw,d,G2,.refl J.ab,rH,q⟩
    ·exact q.elim
   | _=>exact bJ q
  ·rename_i kvs hl;obtain⟨hk,q⟩:=q;split at q
   ·rename_i d hd;obtain⟨H3,o,I3,m3,g,_,hv⟩:=Bo J.inv J.ab hl hk dY;obtain⟨w,rfl,rH⟩:=hv d hd;cases rx;exact tail_any (tD I3 g) PySem.F.slot_dict_getitem.lookup (xX (by lia) I3 g ry fun w' s3 I4 rv=>⟨w,H3,d,G2,I4,m.trans m3,rv,rH,q⟩) (hs _ _)
   ·exact q.elim
  ·exact q.elim
 | _=>exact bJ q
def ZT(X:Cx)(e:Option Expr)(t:Y5):Prop :=
 ∀ (E:nA) (pins:List (Addr×Obj)) (s:aA) (σ:L2.St) (H:Hp) (τ:jc) (G:Gp) (Q:Option Int->Gp->Prop),Lk X E->I2 X pins σ H τ G s->t E τ G Q ->
  wpAny (model X.prog X.w) X.A (evalPart e X.env) (fun u s'=>∃ o H' G',Inv X pins σ H' s'/\Mv X.K H G H' G'/\IsPart u o/\Q o G') X.xe s
theorem iV:ZT X none ft:=by
 intro E pins s σ H τ G Q hE I h;rw [evalPart_none];exact az ⟨none,H,G,I.inv,.refl I.ab,.none,h⟩
theorem gZ(h:gH X e te):ZT X (some e) (nH te):=by
 intro E pins s σ H τ G Q hE I hw;rw [evalPart_some];refine kG h hE I hw fun x H1 d G1 u s1 I1 m1 r1 jS q1=>?_;cases jS with
 | int i =>
  obtain⟨t,rfl⟩:=r1;exact⟨some i,H1,G1,I1.inv,m1,.int i t,q1⟩
 | _=>exact bJ q1
theorem gC{lo hi:Option Expr}{tl th:Y5}(he:gH X a ta)(hl:ZT X lo tl)(hu:ZT X hi th):gH X (.Subscript a (.Slice lo hi none p2) pos) (zk ta tl th):=by
 intro E pins s σ H τ G Q hE I h;refine Subscript_ (kG he hE I h fun x H1 d G1 v s1 I1 m1 r1 jS q1=>?_);refine wpAny_Slice (iB (hl E pins s1 σ H1 τ G1 _ hE I1 q1) ?_);rintro vl s2 ⟨l,H2,G2,o4,m2,pl,q2⟩;refine iB (hu E pins s2 σ H2 τ G2 _ hE (I1.mv o4 m2) q2) ?_;rintro vu s3 ⟨r,H3,G3,I3,m3,pu,q3⟩;rw [evalPart_none];refine az ?_;have m13:=m2.trans m3;have mm:=m1.trans m13;have I4:Inv X pins σ H3 { s3 with heap:=s3.heap.push { cls:=.type "slice",data:=.fields #[vl,vu,.none] } }:=I3.kept (t':=s3.toks) fun b ob q=>aF _ q;have Xs:=jS.mono (m13.kp I1.ab);have Ku:=m3.ab;have key:∀ {rb:V->Option Int->Option Int->Hp->VK->Prop},SlR X rb->rb x l r H3 (Cu X.K H3 G3 Q)->wpAny (model X.prog X.w) X.A (subscriptTail a (.Slice lo hi none p2) v (.ref s3.heap.objs.size)) (rP X pins σ H G Q) X.xe { s3 with heap:=s3.heap.push { cls:=.type "slice",data:=.fields #[vl,vu,.none] } }:=fun hr hq=>by
  obtain⟨T,id,hT,ht,hg⟩:=hr pins { s3 with heap:=s3.heap.push { cls:=.type "slice",data:=.fields #[vl,vu,.none] } } σ H3 x v vl vu l r s3.heap.objs.size _ I4 r1 (Heap.IsSliceOf.new ..) pl pu hq;exact iB (tail_any (ops:=[.ref s3.heap.objs.size,v]) ht hT hg (by with_unfolding_all rfl)) fun _ _ z=>(rP.of z).trans mm
 cases Xs with
 | tup hq rs =>
  obtain⟨hw,q⟩:=q3;refine key Vp ⟨_,_,rfl,.of hq,?_,fun p hp=>⟨_,G3,.Nz Ku hp,.tup bN ((rs.cut l r).mono (.new hp)),q⟩⟩;rw [DT,DT,rs.length];exact hw
 | dN hq rs=>exact key K9 ⟨_,_,rfl,hq.sq,fun p hp=>⟨_,_,.Jy Ku hp (rs.cut l r),.ref _,q3 p (Ku.free hp)⟩⟩
 | ref g =>
  rw [zA] at q3;split at q3
  ·rename_i ds hg;obtain⟨vs,hv,rs⟩:=Ku.lst hg;exact key K9 ⟨_,_,rfl,.of hv,fun p hp=>⟨_,_,.Jy Ku hp (rs.cut l r),.ref _,q3 p (Ku.free hp)⟩⟩
  ·exact q3.elim
 | _=>exact bJ q3
theorem S0(ss:List D)(s:D)(h1:sX ss=true)(h2:nr s=true):((oZ ss).any fun y=>BO y (pd s))=ss.any (jj · s):=by
 induction ss with
 | nil=>rfl
 | cons d r ih =>
  have h':nr d=true/\sX r=true:=(pV).mp h1;show (BO (pd d) (pd s)||(oZ r).any _)=_;rw [ih h'.2,xU d s h'.1 h2]; rfl
theorem TG{G:Gp}{n:Nat}{ds ss:List D}(h:Sn G (n+1) (.dN ds) (.dN ss)):cF (oZ ss)<=n:=by
 exact vq (EI h)
theorem El(hu:X.A.units+64 < cLine)(neg:Bool){pins:List (Addr×Obj)}{s:aA}{σ:L2.St}{H:Hp}{G:Gp}{x y:V}{dx t:D}{ds ss:List D}{v u:Value}{Q:DK}(I:Inv X pins σ H s)(ab:mM X.K H G)(rx:RelV x v)(dX:b7 X.K H x dx)
  (hy:(∃ l vs bQ,u=.ref l/\Vals vs bQ/\bq X.K H vs ds/\(s.heap.IsList l bQ.toArray\/s.heap.IsTuple l bQ.toArray))) (s1:Sn G SN dx t) (s2:Sn G SN (.dN ds) (.dN ss))
  (q:Q (.bl (if neg then !ss.any (jj · t) else ss.any (jj · t))) G):wpAny (model X.prog X.w) X.A (eS (if neg then .NotIn else .In) v u) (rP X pins σ H G Q) X.xe s:=by
 obtain⟨l,vs,bQ,rfl,rv,rs,hl⟩:=hy;obtain⟨as,ra⟩:=(lS I ab s1).1 x v dX rx;obtain⟨bs,rb⟩:=(lS I ab s2).2 ds ss (.inl ⟨rfl,rfl⟩) vs bQ rs rv;have d2:=TG (n:=7) s2;have n2:sX ss=true:=s2.nr;have GQ:=zI _ n2;have e:=S0 ss t n2 s1.nr;have Fi:X.A.units+1+min (cF (oZ ss)) (pd t).depth < cLine:=by lia
 have Uo:iT s.heap bQ.toArray.toList (oZ ss) bs:=by simpa using rb
 have fin:∀ k:Bool,k=(if neg then !ss.any (jj · t) else ss.any (jj · t))->rP X pins σ H G Q (.bool k) s:=fun k hk=>by subst hk; exact⟨.bl _,H,.bl _,G,I,.refl ab,rfl,.bl _,q⟩
 cases neg with
 | false =>
  rcases hl with hl | hl
  ·exact SeqAt.in_listAt _ hl (ux Uo ra GQ (lX _ s1.nr) Fi) (by rw [su Uo GQ,e]; exact fin _ rfl)
  ·exact SeqAt.in_tupleAt _ hl (ux Uo ra GQ (lX _ s1.nr) Fi) (by rw [su Uo GQ,e]; exact fin _ rfl)
 | true =>
  rcases hl with hl | hl
  ·exact SeqAt.notIn_listAt _ hl (ux Uo ra GQ (lX _ s1.nr) Fi) (by rw [su Uo GQ,e]; exact fin _ rfl)
  ·exact SeqAt.notIn_tupleAt _ hl (ux Uo ra GQ (lX _ s1.nr) Fi) (by rw [su Uo GQ,e]; exact fin _ rfl)
theorem Qu(hu:X.A.units+64 < cLine)(neg:Bool){pins:List (Addr×Obj)}{s:aA}{σ:L2.St}{H:Hp}{G:Gp}{x y:V}{dx:D}{kvs:List (D×D)}{v u:Value}{Q:DK}(I:Inv X pins σ H s)(ab:mM X.K H G)(rx:RelV x v)(ry:RelV y u)(dY:b7 X.K H y (.iL kvs))(dX:b7 X.K H x dx)
  (q:Of neg dx (.iL kvs) G Q):wpAny (model X.prog X.w) X.A (eS (if neg then .NotIn else .In) v u) (rP X pins σ H G Q) X.xe s:=by
 obtain⟨zh,hk,q⟩:=q;have go:∀ (a:Addr) (o:Option V),y=.ref a->zo H a x o->o.isSome=(look kvs dx).isSome->wpAny (model X.prog X.w) X.A (eS (if neg then .NotIn else .In) v u) (rP X pins σ H G Q) X.xe s:=by
  intro a o ea g ho;subst ea;cases ry;cases neg with
  | false=>exact YS (by lia) I g rx fun s3 I4=>⟨.bl _,H,.bl _,G,I4,.refl ab,rfl,.bl _,by rw [ho]; exact q⟩
  | true=>exact L4 (by lia) I g rx fun s3 I4=>⟨.bl _,H,.bl _,G,I4,.refl ab,rfl,.bl _,by rw [ho]; exact q⟩
 obtain⟨a,o,ea,g,ho,_⟩:=DU I dY hk dX;rcases g with rfl | g
 ·exact absurd rfl zh
 ·exact go a o ea g ho
theorem Lv(hu:X.A.units+64 < cLine)(neg:Bool):qF X (eS (if neg then .NotIn else .In)) (Of neg):=by
 intro pins s σ H G x y dx dy v u Q I ab rx ry dX dY q;cases dY with
 | tup hq rs =>
  obtain⟨t,ss,s1,s2,q⟩:=q;cases ry;obtain⟨bQ,rv,pl,hz⟩:=I.tuple (.of hq);exact El hu neg (y:=x) I ab rx dX ⟨_,_,bQ,rfl,rv,rs,.inr pl⟩ s1 s2 q
 | dN hq rs =>
  obtain⟨t,ss,s1,s2,q⟩:=q;cases ry;obtain⟨bQ,rv,pl,hz⟩:=I.list hq.sq;exact El hu neg (y:=x) I ab rx dX ⟨_,_,bQ,rfl,rv,rs,.inl pl.isList⟩ s1 s2 q
 | qo h rs=>exact Qu hu neg I ab rx ry (.qo h rs) dX q
 | qm h rs=>exact Qu hu neg I ab rx ry (.qm h rs) dX q
 | ref l =>
  unfold Of at q;dsimp only at q;split at q
  ·rename_i kvs hl;obtain⟨hk,q⟩:=q;obtain⟨H3,o,I3,m3,g,ho,_⟩:=Bo I ab hl hk dX;cases ry;cases neg with
   | false=>exact YS (by lia) I3 g rx fun s3 I4=>⟨.bl _,H3,.bl _,G,I4,m3,rfl,.bl _,by rw [ho]; exact q⟩
   | true=>exact L4 (by lia) I3 g rx fun s3 I4=>⟨.bl _,H3,.bl _,G,I4,m3,rfl,.bl _,by rw [ho]; exact q⟩
  ·rename_i ds hl;obtain⟨t,ss,s1,s2,q⟩:=q;cases ry;obtain⟨vs,hv,rs⟩:=ab.lst hl;obtain⟨bQ,rv,pl,hz⟩:=I.list (.of hv);exact El hu neg (y:=x) I ab rx dX ⟨_,_,bQ,rfl,rv,rs,.inl pl.isList⟩ s1 s2 q
  ·exact q.elim
 | _=>exact bJ q
theorem VQ(hu:X.A.units+64 < cLine):qF X (eS .In) (Of false):=Lv hu false
theorem MZ(hu:X.A.units+64 < cLine):qF X (eS .NotIn) (Of true):=Lv hu true
end
section
variable {X:Cx} {a b c e o:Expr} {es:List Expr} {ta tb tc te to:gK} {t:Fp} {pos p p2 apos rq:Pos} {x name:Str} {id T:String}
theorem iE:qg X (.builtin "len") sd:=by
 intro pins s σ H G xs ds us Q I ab rx rd q;unfold sd at q;split at q
 ·rename_i x;obtain⟨v,rfl,r⟩:=rd.one;have Sk:∀ (n:Nat),Za X.K v H n->Q (.int (n:Int)) G->wpAny (model X.prog X.w) X.A (call (.builtin "len") us) (rP X pins σ H G Q) X.xe s:=fun n hn hq =>
   iB (Rm pins s σ H [v] us (Cu X.K H G Q) I rx ⟨v,n,rfl,hn,_,_,.refl ab,.int _,hq⟩) fun _ _ z=>.of z
  have sz:a9=16777216:=cV;cases r with
  | tup hq rs=>exact Sk _ (.inr ⟨_,.of hq,by rw [rs.length]⟩) q
  | dN hq rs=>exact Sk _ (.inl ⟨_,hq.sq,by rw [rs.length]⟩) q
  | str y =>
   unfold lenOf at q;dsimp only at q;by_cases hz:y.length<=SZ
   ·rw [if_pos hz] at q; exact Sk _ ⟨by rw [sz]; exact hz,rfl⟩ q
   ·rw [if_neg hz] at q; exact q.elim
  | qo h rs =>
   rename_i l o kv kvs;obtain⟨u,rfl,ru⟩:=rx.one;cases ru;unfold lenOf at q;dsimp only at q;by_cases ha:(kvs.all fun p=>dE p.1)=true
   ·rw [if_pos ha] at q;exact UX I (.inr ⟨_,h⟩) fun t s' I'=>⟨.int kv.length,H,_,G,I',.refl ab,⟨t,rfl⟩,.int _,by rw [rs.length]; exact q⟩
   ·rw [if_neg ha] at q; exact q.elim
  | qm h rs =>
   rename_i l o kv kvs;obtain⟨u,rfl,ru⟩:=rx.one;cases ru;unfold lenOf at q;dsimp only at q;by_cases ha:(kvs.all fun p=>dE p.1)=true
   ·rw [if_pos ha] at q;cases rs with
    | nil =>
     obtain⟨z,hS,xs,rel,ob,es,ep,ho,hx,yM,hl,nd⟩:=(I.cu l _ h).2;have hxs:xs=[]:=by cases rel; rfl
     subst hxs;have he:es=#[]:=by simpa using hl
     subst he;have dd:s.heap.DictOf (cK X.prog X.w) l []:=⟨ob,#[],ep,ho,hx,yM,(fun _ h=>by simp at h),.nil,cq⟩;refine call_len_dict hS dd (by simp) ?_;exact⟨.int 0,H,_,G,I.tok _,.refl ab,⟨_,rfl⟩,.int _,q⟩
    | cons _ _=>simp [dE] at ha
   ·rw [if_neg ha] at q; exact q.elim
  | ref l =>
   unfold lenOf at q;dsimp only at q;cases hg:G l with
   | none=>rw [hg] at q; exact q.elim
   | some g =>
    rw [hg] at q;cases g with
    | lst ds =>
     obtain⟨vs,hv,rs⟩:=ab.lst hg;exact Sk _ (.inl ⟨_,.of hv,by rw [rs.length]⟩) q
    | ins _ _=>exact q.elim
    | ua _=>exact q.elim
    | eW kvs =>
     obtain⟨u,rfl,ru⟩:=rx.one;cases ru;dsimp only at q;by_cases ha:(kvs.all fun p=>dE p.1)=true
     ·rw [if_pos ha] at q;rcases ab l _ hg with ⟨kv,hv,rs⟩ | ⟨kv,hv,rs⟩
      ·exact UX I (.inl hv) fun t s' I'=>⟨.int kv.length,H,_,G,I',.refl ab,⟨t,rfl⟩,.int _,by rw [rs.length]; exact q⟩
      ·cases rs with
       | nil =>
        obtain⟨z,hd,vs,rel,dd⟩:=Dj (toK I hv).cu bN;have hvs:vs=[]:=by cases rel; rfl
        subst hvs;refine call_len_dict hd dd (by simp) ?_;exact⟨.int 0,H,_,G,I.tok _,.refl ab,⟨_,rfl⟩,.int _,q⟩
       | cons _ _=>simp [dE] at ha
     ·rw [if_neg ha] at q; exact q.elim
  | _=>exact bJ q
 ·exact q.elim
theorem Bv:qg X (.type "list") wW:=by
 intro pins s σ H G xs ds us Q I ab rx rd q;unfold wW at q;split at q
 ·rename_i x;obtain⟨v,rfl,r⟩:=rd.one;have WT:∀ (l:Addr) (ys:List V) (zs:List D),v=.ref l->(qL X.K H l ys\/zL X.K H l ys)->bq X.K H ys zs->gv G (.lst zs) Q->wpAny (model X.prog X.w) X.A (call (.type "list") us) (rP X pins σ H G Q) X.xe s:=fun l ys zs e h rs hq=>by
   subst e;exact iB (ES pins s σ H _ us (Cu X.K H G Q) I rx ⟨l,ys,rfl,h,fun p hp=>⟨_,_,.Jy ab hp rs,.ref _,hq p (ab.free hp)⟩⟩) fun _ _ z=>.of z
  cases r with
  | tup hq rs=>exact WT _ _ _ rfl (.inr (.of hq)) rs q
  | dN hq rs=>exact WT _ _ _ rfl (.inl hq.sq) rs q
  | ref l =>
   unfold itemsOf at q;dsimp only at q;cases hg:G l with
   | none=>rw [hg] at q; exact q.elim
   | some g =>
    rw [hg] at q;cases g with
    | lst ds =>
     obtain⟨vs,hv,rs⟩:=ab.lst hg;exact WT _ _ _ rfl (.inl (.of hv)) rs q
    | ins _ _=>exact q.elim
    | ua _=>exact q.elim
    | eW kvs=>exact q.elim
  | _=>exact bJ q
 ·exact q.elim
theorem oF {r:List D->Gp->DK->Prop} (hc:qg X (.type T) r) (hg:Gl X x) (hm:X.mg x=none) (hv:dZ x=some (.type T)) (ha:Cw X (e :: es) t) (hn:autoParam (x≠"__name__") Ad._auto_1) (Ep:autoParam ((x == ("__debug__" : Str))=false) Ad._auto_1)
  (he:autoParam (bI (e :: es) X.env=(false,eval e X.env) :: bI es X.env) Ar._auto_1) (Cc:autoParam ((rE pos (bI es X.env)).any (·.1)=false) Ar._auto_1):gH X (.Call (.Name x p) (e :: es) [] pos) (oK r t):=by
 intro E pins s σ H τ G Q hE I h;refine eX (nj I.inv hg hm hv ?_ hn Ep);exact dI (z8 ha pos hE I h fun vs H1 ds G1 us s1 I1 m1 r1 jS q1=>iB (hc pins s1 σ H1 G1 vs ds us Q I1.inv I1.ab r1 jS q1) fun _ _ z=>z.trans m1) he Cc
theorem Qa (K:ar):∀ C∈["int","bool","list","tuple","dict","str"],∀ T∈["NoneType","bool","int","str","tuple","list","dict"],PySem.W.kitOne K (.type T) (.type C)=some (T == C||(T == "bool" && C == "int")):=by
 intro C hC T hT;simp only [bb,bG,or_false] at hC hT;rcases hC with rfl | rfl | rfl | rfl | rfl | rfl <;> rcases hT with rfl | rfl | rfl | rfl | rfl | rfl | rfl <;> kernel_rfl
theorem Qp (C:String) (hC:C∈["int","bool","list","tuple","dict","str"]) {pins:List (Addr×Obj)} {s:aA} {σ:L2.St} {H:Hp} {G:Gp} {v:V} {d:D} {u:Value} {k:Bool} {Q:DK} (I:Inv X pins σ H s) (ab:mM X.K H G) (ru:RelV v u) (r:b7 X.K H v d)
  (hk:UG C d G=some k) (q:Q (.bl k) G):wpAny (model X.prog X.w) X.A (call (.builtin "isinstance") [u,.type C]) (rP X pins σ H G Q) X.xe s:=by
 have fin:∀ tk,rP X pins σ H G Q (.bool k) { s with toks:=tk }:=fun tk=>⟨.bl k,H,.bl k,G,I.tok _,.refl ab,rfl,.bl k,q⟩;have hl:∀ T∈["NoneType","bool","int","str","tuple","list","dict"],k=(T == C||(T == "bool" && C == "int"))->PySem.W.kitOne X.K (.type T) (.type C)=some k:=fun T hT e=>by rw [Qa X.K C hC T hT,e]
 have tl:∀ {l:Addr} {o:Obj},s.heap.get? l=some o->o.cls=.type "list"->k=("list" == C||("list" == "bool" && C == "int"))->v=.ref l->wpAny (model X.prog X.w) X.A (call (.builtin "isinstance") [u,.type C]) (rP X pins σ H G Q) X.xe s:=fun ho hc e ev=>by
  subst ev;cases ru;exact iN PySem.W.kitx_list I.Fh ⟨_,ho,hc⟩ (hl "list" (by decide) e) (fun z=>nomatch z) fin
 have td:∀ {l:Addr} {o:Obj},s.heap.get? l=some o->o.cls=.type "dict"->k=("dict" == C||("dict" == "bool" && C == "int"))->v=.ref l->wpAny (model X.prog X.w) X.A (call (.builtin "isinstance") [u,.type C]) (rP X pins σ H G Q) X.xe s:=fun ho hc e ev=>by
  subst ev;cases ru;exact iN Sa I.Fh ⟨_,ho,hc⟩ (hl "dict" (by decide) e) (fun z=>nomatch z) fin
 have qc:∀ P:String->Prop,(∀ C'∈["int","bool","list","tuple","dict","str"],P C')->P C:=fun P h=>h C hC;cases r with
 | fg =>
  cases ru;have e:k=("NoneType" == C||("NoneType" == "bool" && C == "int")):=by
   have:k=false:=(ba hk).symm;rw [this];exact qc (fun C=>false=("NoneType" == C||("NoneType" == "bool" && C == "int"))) (by decide)
  exact iN PySem.W.kitx_none I.Fh gT (hl _ (by decide) e) (fun z=>nomatch z) fin
 | bl y =>
  cases ru;have e:k=("bool" == C||("bool" == "bool" && C == "int")):=by
   have:k=(C == "bool" || C == "int"):=(ba hk).symm;rw [this];exact qc (fun C=>(C == "bool" || C == "int")=("bool" == C||("bool" == "bool" && C == "int"))) (by decide)
  exact iN PySem.W.kitx_bool I.Fh gT (hl _ (by decide) e) (fun z=>nomatch z) fin
 | int y =>
  obtain⟨t,rfl⟩:=ru;have e:k=("int" == C||("int" == "bool" && C == "int")):=by
   have:k=(C == "int"):=(ba hk).symm;rw [this];exact qc (fun C=>(C == "int")=("int" == C||("int" == "bool" && C == "int"))) (by decide)
  exact iN PySem.W.kitx_int I.Fh gT (hl _ (by decide) e) (fun z=>nomatch z) fin
 | str y =>
  obtain⟨t,rfl⟩:=ru;have e:k=("str" == C||("str" == "bool" && C == "int")):=by
   have:k=(C == "str"):=(ba hk).symm;rw [this];exact qc (fun C=>(C == "str")=("str" == C||("str" == "bool" && C == "int"))) (by decide)
  exact iN PySem.W.kitx_str I.Fh gT (hl _ (by decide) e) (fun z=>nomatch z) fin
 | tup hq rs =>
  cases ru;have e:k=("tuple" == C||("tuple" == "bool" && C == "int")):=by
   have:k=(C == "tuple"):=(ba hk).symm;rw [this];exact qc (fun C=>(C == "tuple")=("tuple" == C||("tuple" == "bool" && C == "int"))) (by decide)
  obtain⟨bQ,rv,⟨o,h1,h2,_⟩,hz⟩:=I.tuple (.of hq);exact iN PySem.W.kitx_tuple I.Fh ⟨o,h1,h2⟩ (hl _ (by decide) e) (fun z=>nomatch z) fin
 | dN hq rs =>
  obtain⟨bQ,rv,pl,hz⟩:=I.list hq.sq;obtain⟨o,h1,h2,_⟩:=pl.isList;refine tl h1 h2 ?_ rfl;have:k=(C == "list"):=(ba hk).symm;rw [this];exact qc (fun C=>(C == "list")=("list" == C||("list" == "bool" && C == "int"))) (by decide)
 | qo h rs =>
  have e:k=("dict" == C||("dict" == "bool" && C == "int")):=by
   have:k=(C == "dict"):=(ba hk).symm;rw [this];exact qc (fun C=>(C == "dict")=("dict" == C||("dict" == "bool" && C == "int"))) (by decide)
  obtain⟨_,_,vs,_,ob,_,_,h1,h2,_⟩:=tx I.cu (.inr ⟨_,h⟩);exact td h1 h2.1 e rfl
 | qm h rs =>
  have e:k=("dict" == C||("dict" == "bool" && C == "int")):=by
   have:k=(C == "dict"):=(ba hk).symm;rw [this];exact qc (fun C=>(C == "dict")=("dict" == C||("dict" == "bool" && C == "int"))) (by decide)
  obtain⟨_,_,ys,_,ob,_,_,h1,h2,_⟩:=yP I.cu (.inr ⟨_,h⟩);exact td h1 h2.1 e rfl
 | exc h=>simp [UG] at hk
 | Hv h _=>simp [UG] at hk
 | oY _ _ _ _=>simp [UG] at hk
 | ref l =>
  unfold UG at hk;dsimp only at hk;cases hg:G l with
  | none=>rw [hg] at hk; cases hk
  | some g =>
   rw [hg] at hk;cases g with
   | lst ds =>
    obtain⟨vs,hv,rs⟩:=ab.lst hg;obtain⟨bQ,rv,pl,hz⟩:=I.list (.of hv);obtain⟨o,h1,h2,_⟩:=pl.isList;refine tl h1 h2 ?_ rfl;have:k=(C == "list"):=(ba hk).symm;rw [this];exact qc (fun C=>(C == "list")=("list" == C||("list" == "bool" && C == "int"))) (by decide)
   | ins _ _=>cases hk
   | ua _=>cases hk
   | eW kvs =>
    have e:k=("dict" == C||("dict" == "bool" && C == "int")):=by
     have:k=(C == "dict"):=(ba hk).symm;rw [this];exact qc (fun C=>(C == "dict")=("dict" == C||("dict" == "bool" && C == "int"))) (by decide)
    rcases ab l _ hg with ⟨kv,hv,rs⟩ | ⟨kv,hv,rs⟩
    ·obtain⟨_,_,vs,_,ob,_,_,h1,h2,_⟩:=Dj I.cu hv;exact td h1 h2.1 e rfl
    ·obtain⟨_,_,ys,_,ob,_,_,h1,h2,_⟩:=QY I.cu hv;exact td h1 h2.1 e rfl
theorem D6 (C:String) (hC:C∈["int","bool","list","tuple","dict","str"]) {y:Str} {py:Pos} (hg:Gl X "isinstance") (hm:X.mg "isinstance" = none) (hgC:Gl X y) (hmC:X.mg y=none) (hvC:dZ y=some (.type C)) (ha:gH X a ta) (hn:autoParam (y≠"__name__") Ad._auto_1) (Ep:autoParam ((y == ("__debug__" : Str))=false) Ad._auto_1)
  (he:autoParam (bI [a,.Name y py] X.env=(false,eval a X.env) :: bI [.Name y py] X.env) Ar._auto_1) (Cc:autoParam ((rE pos (bI [Expr.Name y py] X.env)).any (·.1)=false) Ar._auto_1) (Tt:autoParam (bI [.Name y py] X.env=[(false,eval (.Name y py) X.env)]) Ar._auto_1) :
  gH X (.Call (.Name "isinstance" p) [a,.Name y py] [] pos) (Q9 C ta):=by
 intro E pins s σ H τ G Q hE I h;refine eX (nj I.inv hg hm zb ?_);refine me ?_ he Cc;rw [he];show wpAny _ _ (DE ((false,eval a X.env) :: rE pos (bI [.Name y py] X.env))) _ _ s;refine iA (kG ha hE I h fun v H1 d G1 u s1 I1 m1 r1 jS q1=>?_);rw [Tt];show wpAny _ _ (DE [(false,eval (.Name y py) X.env)]) _ _ s1;refine iA (nj I1.inv hgC hmC hvC (nN ?_) hn Ep)
 try dsimp only at q1
 split at q1
 ·rename_i k hk;exact iB (Qp C hC I1.inv I1.ab r1 jS hk q1) fun _ _ z=>z.trans m1
 ·exact q1.elim
end
section
variable {X:Cx} {a b c e o:Expr} {es:List Expr} {ta tb tc te to:gK} {t:Fp} {pos p p2 apos rq:Pos} {x name:Str} {id T:String}
def Kx(X:Cx)(id:String)(r:D->List D->Gp->DK->Prop):Prop :=
 ∀ (pins:List (Addr×Obj)) (s:aA) (σ:L2.St) (H:Hp) (G:Gp) (x:V) (d:D) (xs:List V) (ds:List D) (v:Value) (us:List Value) (Q:DK),Inv X pins σ H s->mM X.K H G->RelV x v->b7 X.K H x d->Vals xs us->bq X.K H xs ds->r d ds G Q ->
  wpAny (model X.prog X.w) X.A (call (.builtin id) (v :: us)) (rP X pins σ H G Q) X.xe s
def T5(X:Cx)(T:String)(ty:D->Gp->Prop):Prop:=∀ (pins:List (Addr×Obj)) (s:aA) (σ:L2.St) (H:Hp) (G:Gp) (x:V) (d:D) (v:Value),Inv X pins σ H s->mM X.K H G->RelV x v->b7 X.K H x d->ty d G ->
  s.TypeIs v T/\∀ a,v=.ref a->∃ ob,s.heap.get? a=some ob/\ob.dict=none
theorem k8:T5 X "list" DO:=by
 intro pins s σ H G x d v I ab r rd h;cases rd with
 | dN hq rs=>exact DL I r (.inl ⟨rfl,_,hq.sq⟩)
 | ref l =>
  unfold DO at h;dsimp only at h;split at h
  ·rename_i ds hg;obtain⟨vs,hv,rs⟩:=ab.lst hg;exact DL I r (.inl ⟨rfl,vs,.of hv⟩)
  ·exact h.elim
 | _=>exact bJ h
theorem oy:T5 X "dict" RS:=by
 intro pins s σ H G x d v I ab r rd h;cases rd with
 | qo q rs =>
  cases r;obtain⟨t1,t2,_⟩:=Qq I (.inl ⟨_,.inr ⟨_,q⟩⟩);exact⟨t1,t2⟩
 | qm q rs =>
  cases r;obtain⟨t1,t2,_⟩:=Qq I (.inr ⟨_,.inr ⟨_,q⟩⟩);exact⟨t1,t2⟩
 | ref l =>
  unfold RS at h;dsimp only at h;split at h
  ·rename_i kvs hg;rcases ab l _ hg with ⟨kv,hv,rs⟩ | ⟨kv,hv,rs⟩
   ·exact DL I r (.inr (.inr (.inl ⟨rfl,.inl ⟨kv,hv⟩⟩)))
   ·exact DL I r (.inr (.inr (.inl ⟨rfl,.inr ⟨kv,hv⟩⟩)))
  ·exact h.elim
 | _=>exact bJ h
theorem jy {ty:D->Gp->Prop} {r:D->List D->Gp->DK->Prop} (pa:PlainAttrs T) (slot:Slot T name id) (V8:typeOf (.builtin id)=pure (.type "method_descriptor")) (ht:T5 X T ty) (hm:Kx X id r) (ho:gH X o to) (ha:Cw X (e :: es) t)
  (Bb:autoParam (Fv o name X.env (eval o X.env)=eval o X.env) Ar._auto_1)
  (abq:autoParam (((rE rq (bI (e :: es) X.env)).all (fun x=>!x.1)&&(backToKw rq (keywordEach [] X.env)).all (fun x=>x.1.isSome)
   && decide ((e :: es).length+([]:List Keyword).length+(if ([]:List Keyword).isEmpty then 0 else 1) < 30))=true) Ar._auto_1)
  (Ba:autoParam ((apos.endLine == rq.line)=true) Ar._auto_1) (hs:autoParam (bI (e :: es) X.env=(false,eval e X.env) :: bI es X.env) Ar._auto_1) (V9:autoParam ((rE rq (bI es X.env)).any (·.1)=false) Ar._auto_1) :
  gH X (.Call (.Attribute o name apos) (e :: es) [] rq) (r8 ty r to t):=by
 intro E pins s σ H τ G Q hE I h;refine wpAny_Call_method_late Bb abq Ba rfl (kG ho hE I h ?_);rintro x H1 d G1 v s1 I1 m1 r1 jS ⟨hy,q1⟩;obtain⟨h1,h2⟩:=ht pins s1 σ H1 G1 x d v I1.inv I1.ab r1 jS hy;refine⟨T,id,pa,slot,V8,h1,h2,?_⟩;have hA:=ha rq E pins s1 σ H1 τ G1 _ hE I1 q1;rw [hs] at hA ⊢;refine nF (by show (false||(rE rq (bI es X.env)).any (·.1))=false; rw [V9] <;> rfl) (Calls.evalArgs_plain ?_);exact iB hA (by rintro us s2 ⟨vs,H2,ds,G2,o4,m2,r2,Av,q2⟩; exact iB (hm pins s2 σ H2 G2 x d vs ds v us Q o4 m2.ab r1 (jS.mono (m2.kp I1.ab)) r2 Av q2) fun _ _ z=>z.trans (m1.trans m2))
theorem lW:Kx X "list.append" mr:=by
 intro pins s σ H G x d xs ds v us Q I ab rx rd Oe DV q;unfold mr at q;split at q
 ·rename_i l d';cases rd;obtain⟨w,rfl,rH⟩:=DV.one;split at q
  ·rename_i zs hg;obtain⟨hz,q⟩:=q;obtain⟨vs,hv,rs⟩:=ab.lst hg;exact iB (CP pins s σ H _ _ v us (Cu X.K H G Q) I rx Oe ⟨l,vs,w,rfl,rfl,hv,by rw [rs.length,cV]; exact hz,_,_,.putL ab hg hv (rs.append (.cons rH .nil)),.fg,q⟩) fun _ _ z=>.of z
  ·exact q.elim
 ·exact q.elim
theorem Kc(l:Addr)(xs:Array Value)(n:Nat)(b:Addr)(ys:Array Value)(n2:Nat)(dd:Option Addr)(sl:Array (Option Value))(UN:¬(!xs.isEmpty&&kF (xs.size+ys.size))=true)(hx:xs.size<=a9)(W0:xs.size+ys.size<=a9+1) :
  Meets (Builtin.«list.extend» ⟨[.ref l,.ref b],[]⟩) (fun _ R s=>s.heap.get? l=some { cls:=.type "list",dict:=none,data:=.seq xs n,slots:=#[] }/\s.heap.get? b=some { cls:=.type "list",dict:=dd,data:=.seq ys n2,slots:=sl }/\R (.ok (.ret gQ)) { s with heap:=s.heap.update l (jP fun x=>x++ys),toks:=s.toks }) :=
 .of_wp fun prog w A R s h=>by
  obtain⟨hp,g,d,tk,os⟩:=s;obtain⟨h1,h2,h3⟩:=h;have e1:=AutoSeq1.idx_int;have e2:=rG;have e3:=IU;have e4:=AutoSeq1.sub_tuple_list;have e5:=AutoSeq1.sub_list_tuple;have hz':(xs++ys).size<=a9+1:=by rw [Array.size_append]; exact W0
  wp_walk using (zN h1 rfl (hz:=hx) (_hz':=hz')),ck h1,ck h2
  exact⟨_,rfl,h3⟩
theorem uZ:Kx X "list.extend" t6:=by
 intro pins s σ H G x d xs ds v us Q I ab rx rd Oe DV q;unfold t6 at q;split at q
 ·rename_i l y;cases rd;obtain⟨w,rfl,rH⟩:=DV.one;obtain⟨u,rfl,ru⟩:=Oe.one;split at q
  ·rename_i zs ys hg Yw;obtain⟨hz,q⟩:=q;obtain⟨vs,hv,rs⟩:=ab.lst hg;obtain⟨b,ws,nS,rfl,Iq,Ff,hb,_⟩:=kN I ab ru rH Yw;cases rx;obtain⟨z,bQ,n,r,hl,e⟩:=I.XW hv;obtain⟨⟨cl,dd,dt,sl⟩,ho,JV,n2,hdt⟩:=hb;simp only at JV hdt;subst JV hdt;have h1:=Iq.length;have h2:=Ff.length;have h3:=rs.length;have h4:=r.length;have h5:a9=16777216:=cV;have h6:SZ=16777216:=rfl;have hsz:bQ.toArray.size+nS.toArray.size<=a9:=by rw [a8,a8]; lia
   have UN:¬ (!bQ.toArray.isEmpty&&kF (bQ.toArray.size+nS.toArray.size))=true:=by
    rw [PQ hsz,KS];exact iG
   refine IG F.slot_list_extend ⟨_,e,rfl⟩ F.entry_list_extend (F.args_list_extend_2 _ _) (Kc l bQ.toArray n b nS.toArray n2 dd sl UN (by rw [a8]; lia) (by lia)) ⟨e,ho,?_⟩;refine⟨.fg,_,.fg,_,I.XX (its':=bQ++nS) hv e (by simp) (r.append Iq) ?_,.putL ab hg hv (rs.append Ff),rfl,.fg,q⟩;rw [av];lia
  ·exact q.elim
 ·exact q.elim
theorem kA:gH X (.Dict [] [] pos) lD:=by
 intro E pins s σ H τ G Q hE I h;exact iB (Px pins s σ H (Cu X.K H G Q) I.inv fun p hp=>⟨_,_,.new I.ab hp (.dk bN .nil),.ref _,h p (I.ab.free hp)⟩) fun _ _ z=>.of z
end
def gU(env:Env):List (Str×uA)->List (Str×Addr)->List (Str×Addr)
 | [],acc=>acc
 | (n,k) :: r,acc=>if k=.free then gU env r ((n,(env.cells.lookup n).getD 0) :: acc) else gU env r acc
theorem vd(env:Env)(f:Str×uA->List (Str×Addr)->Sem (ForInStep (List (Str×Addr))))(hf:∀ n k c,f (n,k) c=if (k == lH)=true then (cellOf env n >>= fun a=>pure (um ((n,a) :: c))) else pure (um c)) :
  ∀ (ns:List (Str×uA)) (acc:List (Str×Addr)),(∀ x∈ns,x.2=.free->∃ c,env.cells.lookup x.1=some c)->forIn ns acc f=(pure (gU env ns acc):Sem (List (Str×Addr)))
 | [],acc,_=>rfl
 | (n,k) :: r,acc,h=>by
  rw [xc,hf];have hr:∀ x∈r,x.2=.free->∃ c,env.cells.lookup x.1=some c:=fun x hx=>h x (aJ _ hx);by_cases hk:k=.free
  ·subst hk;obtain⟨c,hc⟩:=h (n,.free) cA rfl;have ec:cellOf env n=pure c:=by unfold cellOf; rw [hc]
   rw [if_pos (by decide),ec,pure_bind,pure_bind];show forIn r ((n,c) :: acc) f=_;rw [vd env f hf r _ hr];show _=(pure (gU env ((n,.free) :: r) acc):Sem (List (Str×Addr)));rw [gU,if_pos rfl,hc]; rfl
  ·rw [if_neg (by simpa using hk),pure_bind];show forIn r acc f=_;rw [vd env f hf r _ hr];show _=(pure (gU env ((n,k) :: r) acc):Sem (List (Str×Addr)));rw [gU,if_neg hk]
theorem Ck{env:Env}{scope:Scope}(h:∀ x∈scope.names,x.2=.free->∃ c,env.cells.lookup x.1=some c):closureFor scope env=pure (gU env scope.names []):=by
 unfold closureFor;dsimp only;rw [vd env _ (fun n k c=>?_) scope.names [] h]
 ·rfl
 ·by_cases hk:(k == lH)=true
  ·simp only [hk,if_true]
  ·simp only [hk,if_false,ay]
theorem vB{env:Env}{x:Str}{c:Addr}:∀ {ns:List (Str×uA)} {acc:List (Str×Addr)},(∀ y∈ns,y.2=.free->∃ c,env.cells.lookup y.1=some c)->(∀ y c,acc.lookup y=some c->env.cells.lookup y=some c)->(gU env ns acc).lookup x=some c->env.cells.lookup x=some c
 | [],_,_,ha,e=>ha _ _ e
 | (n,k) :: r,acc,h,ha,e=>by
  have hr:∀ y∈r,y.2=.free->∃ c,env.cells.lookup y.1=some c:=fun y hy=>h y (aJ _ hy);unfold gU at e;by_cases hk:k=.free
  ·rw [if_pos hk] at e;refine vB hr (fun y c' q=>?_) e;rw [Fc] at q;by_cases hy:(y == n)=true
   ·rw [hy] at q;have e1:y=n:=eq_of_beq hy;subst e1;obtain⟨c0,hc0⟩:=h (y,k) cA hk;rw [hc0] at q ⊢;exact q
   ·have UI:(y == n)=false:=by simpa using hy
    rw [UI] at q;exact ha y c' q
  ·rw [if_neg hk] at e;exact vB hr ha e
theorem qR{env:Env}{x:Str}:∀ {ns:List (Str×uA)} {acc:List (Str×Addr)},((x,lH)∈ns\/∃ c,acc.lookup x=some c)->∃ c,(gU env ns acc).lookup x=some c
 | [],_,h=>by rcases h with h | h; exact absurd h (by simp); exact h
 | (n,k) :: r,acc,h=>by
  unfold gU;have grow:∀ a,(∃ c,acc.lookup x=some c)->∃ c,((n,a) :: acc).lookup x=some c:=fun a Oh=>by
   obtain⟨c,hc⟩:=Oh;rw [Fc];by_cases hy:(x == n)=true
   ·rw [hy]; exact⟨_,rfl⟩
   ·have UI:(x == n)=false:=by simpa using hy
    rw [UI]; exact⟨c,hc⟩
  by_cases hk:k=.free
  ·rw [if_pos hk];refine qR ?_;rcases h with h | h
   ·rcases List.mem_cons.mp h with e | h
    ·injection e with e1 e2
     subst e1;exact .inr ⟨(env.cells.lookup x).getD 0,by rw [Fc]; simp⟩
    ·exact .inl h
   ·exact .inr (grow _ h)
  ·rw [if_neg hk];refine qR ?_;rcases h with h | h
   ·rcases List.mem_cons.mp h with e | h
    ·injection e with e1 e2
     exact absurd e2.symm hk
    ·exact .inl h
   ·exact .inr h
abbrev eL(X:Cx)(N:List Str)(scope:Scope)(C:Addr)(s:aA)(H:Hp)(fp:List Addr):Cx :=
 { X with env:=compEnvC scope (gU X.env scope.names []) C X.env,N:=N,oz:=s,RH:=H,outer:=X.stack,stack:=X.stack,ex:=fp,fn:=fun _=>false,pn:=[],xe:=fun _ _=>False }
theorem vM{scope:Scope}{env:Env}{x:Str}(h:(ID scope env).names.lookup x=some .cell\/(ID scope env).names.lookup x=some .free)(rM:∀ y∈scope.names,y.2≠.cell):(x,lH)∈scope.names:=by
 have go:∀ k,(ID scope env).names.lookup x=some k->k=.cell\/k=.free->(x,lH)∈scope.names:=by
  intro k hk hkk;have hm:=jh hk;unfold ID at hm;dsimp only at hm;obtain⟨⟨n,j⟩,hj,e⟩:=List.mem_map.mp hm;dsimp only at e;by_cases hc:(j == lH&&env.scope.kind == .function&&env.kindOf n == some .cell)=true
  ·rw [if_pos hc] at e;rw [aK,aK] at hc;injection e with e1 e2
   have ej:j=.free:=eq_of_beq hc.1.1;rw [ej,e1] at hj;exact hj
  ·rw [if_neg hc] at e;injection e with e1 e2
   subst e1;rcases hkk with r | r
   ·exact absurd (e2.trans r) (rM _ hj)
   ·rw [e2.trans r] at hj; exact hj
 rcases h with h | h
 ·exact go _ h (.inl rfl)
 ·exact go _ h (.inr rfl)
section
variable {X:Cx} {N:List Str} {scope:Scope} {fp:List Addr} {pins:List (Addr×Obj)} {σ:L2.St} {H:Hp} {s:aA} {C:Addr}
theorem WC(I:Inv X pins σ H s)(rM:∀ y∈scope.names,y.2≠.cell)(C4:scope.kind=.function)(rL:∀ y∈scope.names,y.2=.free->X.env.kindOf y.1=some .cell)(hC:s.heap.objs.size<=C)(Yy:∀ b∈fp,o6 X pins H b/\b < s.heap.objs.size):(eL X N scope C s H fp).Ok:=by
 have JV:∀ y∈scope.names,y.2=.free->∃ c,X.env.cells.lookup y.1=some c:=fun y hy hf=>I.ok.has _ (.inl (rL y hy hf));have Vg:∀ x c,(gU X.env scope.names []).lookup x=some c->X.env.cells.lookup x=some c:=fun x c e=>vB JV (fun y c q=>by simp at q) e;refine⟨I.ok.mod,C4,I.ok.glob,I.ok.blt,hC,fun x y c h1 h2=>I.ok.inj x y c (Vg x c h1) (Vg y c h2),fun x hx=>?_,fun x c h=>absurd h (by simp),I.ok.hd,I.ok.frames,.inl rfl,fun b hb=>?_,I.bs,aU I.ok.R4 I.sz,fun b o e hb=>?_,fun b hb=>?_,I.stack,I.K5⟩
 ·exact qR (.inl (vM hx rM))
 ·obtain⟨⟨f0,f1,f2,f3,f4,f5⟩,A9⟩:=Yy b hb;exact⟨bu (bK A9 hC),fun x c e=>f4 x c (Vg x c e)⟩
 ·obtain⟨⟨f0,f1,f2,f3,f4,f5⟩,A9⟩:=Yy b hb;rcases f3 with f3 | f3
  ·exact I.ok.M1 b o e f3
  ·exact absurd (bK (aP e) (aU I.ok.R4 f3)) (jk _)
 ·obtain⟨⟨f0,f1,f2,f3,f4,f5⟩,A9⟩:=Yy b hb;intro z;rcases List.mem_cons.mp (I.Jc b z) with e | e
  ·exact f1 e
  ·exact f2 e
theorem TL{qa:Heap}{m:Nat}{fr:List Nat}{tk:Nat}(I:Inv X pins σ H s)(ok:(eL X N scope s.heap.objs.size s H fp).Ok)(Wj:∀ y∈scope.names,y.2≠.cell)(rL:∀ y∈scope.names,y.2=.free->X.env.kindOf y.1=some .cell)(hN:N.length=m+fr.length)
  (hfr:∀ j i x,fr[j]?=some i->N[m+j]?=some x->X.N[i]?=some x/\X.env.scope.names.lookup x=some .cell/\(ID scope X.env).names.lookup x=some .cell) (R1:∃ mm,qa.Ns s.heap.objs.size mm) (hk:∀ b o,s.heap.get? b=some o->qa.get? b=some o) :
  Inv (eL X N scope s.heap.objs.size s H fp) [] (aR m none++fr.map fun i=>(σ[i]?).getD none) H { s with heap:=qa,toks:=tk }:=by
 have JV:∀ y∈scope.names,y.2=.free->∃ c,X.env.cells.lookup y.1=some c:=fun y hy hf=>I.ok.has _ (.inl (rL y hy hf));have Vg:∀ x c,(gU X.env scope.names []).lookup x=some c->X.env.cells.lookup x=some c:=fun x c e=>vB JV (fun y c q=>by simp at q) e;obtain⟨mm,R1⟩:=R1;refine⟨ok,rfl,I.bare,Un.kept hk,⟨mm,R1,fun i x v h1 h2 h3=>?_⟩,fun x c e=>?_,I.cu.fresh (aH _),fun x c e=>?_,fun p hp=>absurd hp (by simp),I.cu.kept hk,?_⟩
 ·by_cases hi:i < m
  ·rw [cY (by simpa using hi),mR] at h2;split at h2 <;> cases h2
  ·obtain⟨j,rfl⟩:∃ j,i=m+j:=⟨i - m,by lia⟩;rw [cD (by simp),fx,uQ,bx] at h2;cases hj:fr[j]? with
   | none=>rw [hj] at h2; cases h2
   | some k =>
    rw [hj] at h2;have QH:(σ[k]?).getD none=some v:=by simpa using h2
    have UP:σ[k]?=some (some v):=by
     cases q:σ[k]? with
     | none=>rw [q] at QH; cases QH
     | some o=>rw [q] at QH; simp at QH; rw [QH]
    obtain⟨e1,e2,e3⟩:=hfr j k x hj h1;obtain⟨m0,hn0,hl0⟩:=I.loc;obtain⟨u,r,l⟩:=hl0 k x v e1 UP (.inr (.inl e2));refine⟨u,r,.inr ⟨.inl e3,?_⟩⟩;rcases l with ⟨l1,_⟩ | ⟨_,c,hc,rM⟩
    ·have:X.env.scope.names.lookup x=some .local:=l1;rw [e2] at this; cases this
    ·have hx:(x,lH)∈scope.names:=vM (.inl e3) Wj;obtain⟨c',UR⟩:=qR (env:=X.env) (x:=x) (ns:=scope.names) (acc:=[]) (.inl hx);have:=Vg x c' UR;rw [hc] at this;have ec:c=c':=ba this;subst ec;obtain⟨oc,W4,hd⟩:=rM;exact⟨c,UR,oc,hk _ _ W4,hd⟩
 ·obtain⟨v,oc,W4,hd⟩:=I.cell x c (Vg x c e);exact⟨v,oc,hk _ _ W4,hd⟩
 ·exact I.mG x c (Vg x c e)
 ·rw [av,fx,ao];exact hN.symm
theorem EN{prog:bE}{w:World}{A:dg}{R:Result->aA->Prop}{s:aA}{elt target iter:Expr}{ifs:List Expr}{sc:Scope}{pos:Pos}{it acc:Value}{env:Env}(J:Nat->aA->Prop)
  (turn:∀ n s,J n s->wpAny (model prog w) A (nC it) (fun r fZ=>match r with
   | none=>R (.ok .next) fZ
   | some v=>wpAny (model prog w) A (zR target it v) (fun _ Xj=>wpAny (model prog w) A (KH target env v) (fun _ mY =>
     wpAny (model prog w) A (forIn ifs true fun c r=>if r=true then do let ok ← isTrue c env (eval c env); pure (um ok) else pure (um r)) (fun k OT =>
      if k=true then wpAny (model prog w) A (eval elt env) (fun x MD=>wpAny (model prog w) A (call (.builtin "list.append") [acc,x]) (fun _ OS=>∃ m,m < n/\J m OS) (fun _ _=>False) MD) (fun _ _=>False) OT
      else ∃ m,m < n/\J m OT) (fun _ _=>False) mY) (fun _ _=>False) Xj) (fun _ _=>False) fZ) (fun _ _=>False) s) (n:Nat) (h:J n s) :
  xk (model prog w) A (.compLoop (.ListComp elt [⟨target,iter,ifs,0⟩] sc pos) 0 it acc env) R s:=by
 have no:∀ {α:Type} {t:Sem α} {Q:α->aA->Prop} {E:Value->aA->Prop} {s:aA},wpAny (model prog w) A t Q (fun _ _=>False) s->wpAny (model prog w) A t Q E s:=fun h=>IB h (fun _ _ q=>q) fun _ _ z=>z.elim;refine codeAny_loop rfl J (fun n s hJ=>?_) n h;show wpAny _ A ((compTurn (.ListComp elt [⟨target,iter,ifs,0⟩] sc pos) 0 it acc env).onRaise (fun x=>do noteFrame x env; theTreesLotGoes x)) _ _ s;refine wpAny_noted ?_;rw [compTurn_list];refine ah (Ft (ah (iB (no (turn n s hJ)) fun r fZ qa=>?_)));cases r with
 | none=>exact az qa
 | some v =>
  refine ah (iB (no qa) fun _ mY A8=>ah (iB (no A8) fun _ OT Hb=>ah (iB (no Hb) fun k MD X8=>?_)));cases k with
  | false=>exact az ⟨rfl,X8⟩
  | true=>exact ah (ah (iB (no X8) fun x OS aaL=>ah (iB (no aaL) fun _ ad0 aaK=>az (az ⟨rfl,aaK⟩))))
def CompEnd(X:Cx)(pins:List (Addr×Obj))(σ:L2.St)(H:Hp)(G:Gp)(Q:DK)(C Dd:Addr)(s':aA):Prop :=
 ∃ m H' G',Inv X pins σ H' s'/\s'.heap.Ns C m/\o6 X pins H' C/\Mv X.K H G H' G'/\Q (.ref Dd) G'
inductive WO (Xc:Cx):List Expr->Option yf->Prop
 | none:WO Xc [] none
 | some {c:Expr} {t:yf}:Ol Xc c t->WO Xc [c] (some t)
theorem Dq{τ:jc}{G G2:Gp}{H2:Hp}{s2:aA}{tg elt iter:Expr}{ifs:List Expr}{pos:Pos}{m:Nat}{fr:List Nat}{E:nA}{g:BZ}{c:Option yf}{te:gK}{J:It}{tn:Nat->Heap->Prop}{it:Addr}{ds:List D}{ok:Gp->Prop}{Q:DK}{Rr:Value->Addr->Result->aA->Prop}{E0:Value->aA->Prop}
  (hc:X.calm=true) (rM:∀ y∈scope.names,y.2≠.cell) (C4:scope.kind=.function) (rL:∀ y∈scope.names,y.2=.free->X.env.kindOf y.1=some .cell) (hN:N.length=m+fr.length)
  (hfr:∀ j i x,fr[j]?=some i->N[m+j]?=some x->X.N[i]?=some x/\X.env.scope.names.lookup x=some .cell/\(ID scope X.env).names.lookup x=some .cell)
  (hg:∀ C s H fp,NW (eL X N scope C s H fp) tg g) (hi:∀ C s H fp,WO (eL X N scope C s H fp) ifs c) (he:∀ C s H fp,gH (eL X N scope C s H fp) elt te)
  (I:I2 X pins σ H2 τ G2 s2) (m2:Mv X.K H G H2 G2) (T:Turn X.prog X.w X.K tg J fp it tn) (RU:tn 0 s2.heap) (f2:∀ b∈fp,o6 X pins H2 b) (wk:U2 X.K J H2 ds ok) (hz:ds.length<=SZ)
  (hE0:∀ ex G,¬ E ex G) (q:j0 g c te ok ds E (Bs m fr τ) G2 [] fun xs G3=>gv G3 (.lst xs) Q)
  (fin:∀ C s',CompEnd X pins σ H G Q C s2.heap.objs.size s'->Rr (.ref s2.heap.objs.size) C (.ok .next) s') :
  wpAny (model X.prog X.w) X.A (newList []) (fun acc OT=>wpAny (model X.prog X.w) X.A (newFunctionEnv scope X.env.globals (gU X.env scope.names []) [] X.env.qual none .none (some X.env)) (fun YX MD =>
   xk (model X.prog X.w) X.A (.compStart (.ListComp elt [⟨tg,iter,ifs,0⟩] scope pos) 0 (.ref it) acc { YX with scope:=ID scope X.env }) (Rr acc YX.locals) MD) E0 OT) E0 s2:=by
 have sz:a9=16777216:=cV;have xT:H2 s2.heap.objs.size=none:=I.inv.cu.fresh (aH _);have Wt:G2 s2.heap.objs.size=none:=I.ab.free xT;refine dj (wpAny_newFunctionEnv rM (by intro y hy; simp at hy) (fun qa QA Qy=>?_) C4);dsimp only at QA Qy ⊢;have I3:Inv X pins σ (upd H2 s2.heap.objs.size (.lst [])) { s2 with heap:=s2.heap.push { cls:=.type "list",data:=.seq ([]:List Value).toArray },toks:=s2.toks }:=I.inv.aaE (ys:=[]) .nil (cp _);generalize Ye:({ s2 with heap:=s2.heap.push { cls:=.type "list",data:=.seq ([]:List Value).toArray },toks:=s2.toks }:aA)=s3 at I3;generalize YI:upd H2 s2.heap.objs.size (.lst [])=H3 at I3;have eH3:∀ b,b≠s2.heap.objs.size->H3 b=H2 b:=fun b hb=>by rw [<-YI,bz hb]
 have Hf:s3.heap=s2.heap.push { cls:=.type "list",data:=.seq ([]:List Value).toArray }:=by rw [<-Ye]
 have Xo:s3.heap.objs.size=s2.heap.objs.size+1:=by rw [Hf,jI]
 have QD:∀ b∈fp,b < s2.heap.objs.size:=fun b hb=>by
  obtain⟨o,e,_⟩:=T.obj _ _ RU b hb;exact aP e
 have Yx:∀ b∈fp,o6 X pins H3 b/\b < s3.heap.objs.size:=fun b hb=>by
  have hb2:=QD b hb;obtain⟨f0,f1⟩:=f2 b hb;exact⟨⟨by rw [eH3 b (bu hb2)]; exact f0,f1⟩,bK hb2 (by rw [Xo]; exact zX _)⟩
 have Zp:(eL X N scope s3.heap.objs.size s3 H3 fp).Ok:=WC I3 rM C4 rL (aH _) Yx;have UO:∀ b o,s3.heap.get? b=some o->qa.get? b=some o:=fun b o e=>by
  have hb:b < s3.heap.objs.size:=aP e;refine Qy.extBut b o ?_ (aF _ ?_)
  ·rw [<-Hf]; exact bu hb
  ·rw [<-Hf]; exact e
 have aa9:∃ mm,qa.Ns s3.heap.objs.size mm:=⟨_,by rw [Hf]; exact QA⟩;have I4:=TL (tk:=s3.toks+([]:List (Str×Value)).length) I3 Zp rM rL hN hfr aa9 UO;have aaH:Kp H2 H3:=by rw [<-YI]; exact .new xT
 have Ku:mM X.K H3 G2:=by rw [<-YI]; exact(Mv.Nz I.ab xT).ab
 have mv3:Mv X.K H2 G2 H3 G2:=by rw [<-YI]; exact .Nz I.ab xT
 have Zj:R6 X.K H3 (aR m none++fr.map fun i=>(σ[i]?).getD none) (Bs m fr τ):=by
  refine⟨by unfold Bs; rw [av,av,ao,ao,fx,fx],fun i d h2=>?_⟩;unfold Bs at h2;by_cases hi:i < m
  ·rw [cY (by simpa using hi),mR] at h2;split at h2 <;> cases h2
  ·obtain⟨j,rfl⟩:∃ j,i=m+j:=⟨i - m,by lia⟩;rw [cD (by simp),fx,uQ,bx] at h2;rw [cD (by simp),fx,uQ,bx];cases hj:fr[j]? with
   | none=>rw [hj] at h2; cases h2
   | some k =>
    rw [hj] at h2;have QH:(τ[k]?).getD none=some d:=by simpa using h2
    have UP:τ[k]?=some (some d):=by
     cases qq:τ[k]? with
     | none=>rw [qq] at QH; cases QH
     | some o=>rw [qq] at QH; simp at QH; rw [QH]
    obtain⟨v,e1,e2⟩:=I.st.at' k d UP;exact⟨v,by simp [e1],e2.mono aaH⟩
 have hD3:H3 s2.heap.objs.size=some (.lst []):=by rw [<-YI,bN]
 have Xl:tn 0 qa:=T.keep _ _ _ RU fun b hb o e=>UO b o (by rw [Hf]; exact aF _ e);have OX:∀ {Hc:Hp},(∀ b∈fp,Hc b=none)->∀ b∈fp,o6 (eL X N scope s3.heap.objs.size s3 H3 fp) [] Hc b:=fun hn b hb =>
  ⟨hn b hb,(Zp.ZM b hb).1,Zp.QR b hb,.inl hb,fun x c e=>(Zp.ZM b hb).2 x c e,fun p hp=>absurd hp (by simp)⟩
 have neD:∀ b∈fp,b≠s2.heap.objs.size:=fun b hb=>bu (QD b hb);have loop:xk (model X.prog X.w) X.A (.compLoop (.ListComp elt [⟨tg,iter,ifs,0⟩] scope pos) 0 (.ref it) (.ref s2.heap.objs.size) (eL X N scope s3.heap.objs.size s3 H3 fp).env) (Rr (.ref s2.heap.objs.size) s3.heap.objs.size)
   { s3 with heap:=qa,toks:=s3.toks+([]:List (Str×Value)).length }:=by
  refine EN (fun n s'=>∃ i RR Hc OE Gc vj w5,I2 (eL X N scope s3.heap.objs.size s3 H3 fp) [] RR Hc OE Gc s'/\Gc s2.heap.objs.size=none/\Hc s2.heap.objs.size=some (.lst vj)/\bq X.K Hc vj w5/\w5.length<=i/\Mv X.K H2 G2 Hc Gc/\tn i s'.heap/\(∀ b∈fp,Hc b=none) /\
   n=ds.length - i/\i<=ds.length/\j0 g c te ok (ds.drop i) E OE Gc w5 fun xs G3=>gv G3 (.lst xs) Q) ?_ ds.length
   ⟨0,_,H3,_,G2,[],[],⟨I4,Zj,Ku⟩,Wt,hD3,.nil,aH _,mv3,Xl,fun b hb=>by rw [eH3 b (neD b hb)]; exact(f2 b hb).1,rfl,cp _,q⟩
  rintro n s4 ⟨i,RR,Hc,OE,Gc,vj,w5,Ic,gD,hD,rA,hA,mc,stc,frc,rfl,hle,wq⟩;have kpc:Kp H2 Hc:=mc.kp I.ab;by_cases A9:i < ds.length
  ·rw [iJ A9] at wq;obtain⟨okG,wq⟩:=wq;obtain⟨go,yl⟩:=(wk i Hc Gc kpc Ic.ab okG).1 ds[i] (by simp [A9]);refine iB (T.item (eL X N scope s3.heap.objs.size s3 H3 fp) rfl rfl rfl hc i [] s4 RR Hc (fun _ _=>False) Ic.inv (OX frc) stc go) ?_;rintro r s5 ⟨u,hr,h5⟩;subst hr;refine iB h5 ?_;rintro _ s6 ⟨x,H6,I6,r6,y6,Z6,fr6⟩;obtain⟨rd6,m6⟩:=yl x H6 y6;have I6':=I6.pinned (OX fr6) (T.obj _ _ Z6);have J6:I2 (eL X N scope s3.heap.objs.size s3 H3 fp) ([]++sW fp s6.heap) RR H6 OE Gc s6:=⟨I6',Ic.st.mono (m6.kp Ic.ab),m6.ab⟩;have back:∀ {ZX:L2.St} {H9:Hp} {Zd:jc} {G9:Gp} {s9:aA} {aV:List V} {aD:List D},I2 (eL X N scope s3.heap.objs.size s3 H3 fp) ([]++sW fp s6.heap) ZX H9 Zd G9 s9->Mv X.K H2 G2 H9 G9->G9 s2.heap.objs.size=none->H9 s2.heap.objs.size=some (.lst aV)->bq X.K H9 aV aD->aD.length<=i+1 ->
     (j0 g c te ok (ds.drop (i+1)) E Zd G9 aD fun xs G3=>gv G3 (.lst xs) Q)->∃ mm,mm < ds.length - i/\∃ i RR Hc OE Gc vj w5,I2 (eL X N scope s3.heap.objs.size s3 H3 fp) [] RR Hc OE Gc s9/\Gc s2.heap.objs.size=none/\Hc s2.heap.objs.size=some (.lst vj)/\bq X.K Hc vj w5/\w5.length<=i /\
      Mv X.K H2 G2 Hc Gc/\tn i s9.heap/\(∀ b∈fp,Hc b=none)/\mm=ds.length - i/\i<=ds.length/\j0 g c te ok (ds.drop i) E OE Gc w5 fun xs G3=>gv G3 (.lst xs) Q:=fun {ZX H9 Zd G9 s9 aV aD} I9 m9 g9 h9 r9 l9 n9=>by
    refine⟨ds.length - (i+1),by lia,i+1,ZX,H9,Zd,G9,aV,aD,⟨I9.inv.vw,I9.st,I9.ab⟩,g9,h9,r9,l9,m9,T.keep _ _ _ Z6 fun b hb o e=>(I9.inv.pin (b,o) (dw _ (dw _ (qY hb e)))).1,fun b hb=>?_,rfl,A9,n9⟩;obtain⟨o,e,d⟩:=T.obj _ _ Z6 b hb;exact(I9.inv.pin (b,o) (dw _ (dw _ (qY hb e)))).2.1
   have mc6:=mc.trans m6;have hD6:=m6.keep _ _ hD gD;refine iB (hg _ _ _ _ E _ s6 RR H6 OE Gc x ds[i] u _ (Lk.none hE0) J6 r6 rd6 wq) ?_;rintro _ s7 ⟨Ob,H7,Oa,G7,I7,m7,q7⟩;have ZK:=m7.keep _ _ hD6.1 gD;have mc7:=mc6.trans m7;have rA7:=rA.mono ((m6.trans m7).kp Ic.ab);have YR:∀ (H8:Hp) (G8:Gp) (s8:aA),I2 (eL X N scope s3.heap.objs.size s3 H3 fp) ([]++sW fp s6.heap) Ob H8 Oa G8 s8->Mv X.K H7 G7 H8 G8->(te E Oa G8 fun y G9=>j0 g c te ok (ds.drop (i+1)) E Oa G9 (w5++[y]) fun xs G3=>gv G3 (.lst xs) Q) ->
     wpAny (model X.prog X.w) X.A (eval elt (eL X N scope s3.heap.objs.size s3 H3 fp).env) (fun y MD=>wpAny (model X.prog X.w) X.A (call (.builtin "list.append") [.ref s2.heap.objs.size,y]) (fun _ OS=>∃ mm,mm < ds.length - i/\∃ i RR Hc OE Gc vj w5,I2 (eL X N scope s3.heap.objs.size s3 H3 fp) [] RR Hc OE Gc OS/\Gc s2.heap.objs.size=none/\Hc s2.heap.objs.size=some (.lst vj)/\bq X.K Hc vj w5/\w5.length<=i /\
      Mv X.K H2 G2 Hc Gc/\tn i OS.heap/\(∀ b∈fp,Hc b=none)/\mm=ds.length - i/\i<=ds.length/\j0 g c te ok (ds.drop i) E OE Gc w5 fun xs G3=>gv G3 (.lst xs) Q) (fun _ _=>False) MD) (fun _ _=>False) s8:=fun H8 G8 s8 I8 m8 q8=>by
    refine kG (he _ _ _ _) (Lk.none hE0) I8 q8 fun v H9 d9 G9 u9 s9 I9 m9 r9 rd9 q9=>?_;have m79:=m8.trans m9;have ZJ:=m79.keep _ _ ZK.1 ZK.2;have rA9:=rA7.mono (m79.kp I7.ab);have mc9:=mc7.trans m79;refine iB (CP (X:=eL X N scope s3.heap.objs.size s3 H3 fp) _ s9 Ob H9 (.ref s2.heap.objs.size) [v] _ [u9] (fun _ H'=>H'=upd H9 s2.heap.objs.size (.lst (vj++[v]))) I9.inv rfl (.cons r9 .nil)
     ⟨_,vj,v,rfl,rfl,ZJ.1,by rw [rA.length,sz]; have:SZ=16777216:=rfl; lia,rfl⟩) ?_
    rintro _ s10 ⟨v10,H10,I10,_,e10⟩;subst e10;have kpA:Kp H9 (upd H9 s2.heap.objs.size (.lst (vj++[v]))):=.putL ZJ.1;have abA:mM X.K (upd H9 s2.heap.objs.size (.lst (vj++[v]))) G9:=fun a g' e=>by
     have ne:a≠s2.heap.objs.size:=by rintro rfl; rw [ZJ.2] at e; cases e
     exact(I9.ab a g' e).mono kpA (bz ne)
    have mA:Mv X.K H2 G2 (upd H9 s2.heap.objs.size (.lst (vj++[v]))) G9:=⟨fun a o e n=>by
      have ne:a≠s2.heap.objs.size:=eC e xT;obtain⟨e1,e2⟩:=mc9.keep a o e n;exact⟨by rw [bz ne]; exact e1,e2⟩,fun a n=>by
      by_cases ha:a=s2.heap.objs.size
      ·rw [ha,bN]; simp
      ·rw [bz ha]; exact mc9.k9 a n,abA⟩
    exact back ⟨I10,I9.st.mono kpA,abA⟩ mA ZJ.2 bN ((rA9.append (.cons rd9 .nil)).mono kpA) (by rw [av,cU]; lia) q9
   cases hi s3.heap.objs.size s3 H3 fp with
   | none =>
    refine wpAny_tests_nil ?_;rw [if_pos rfl];exact YR H7 G7 s7 I7 (.refl I7.ab) q7
   | some YE =>
    refine wpAny_tests_one (OQ YE (Lk.none hE0) I7 q7 fun k H8 G8 s8 I8 m8 q8=>?_);cases k with
    | true =>
     rw [if_pos rfl] at q8 ⊢;exact YR H8 G8 s8 I8 m8 q8
    | false =>
     rw [if_neg iG] at q8 ⊢;have hD8:=m8.keep _ _ ZK.1 ZK.2;exact back I8 (mc7.trans m8) hD8.2 hD8.1 (rA7.mono (m8.kp I7.ab)) (by lia) q8
  ·have hn:ds.length<=i:=by lia
   rw [nK hn] at wq;obtain⟨okG,qn⟩:=wq;have stop:=(wk i Hc Gc kpc Ic.ab okG).2 hn;refine iB (T.done (eL X N scope s3.heap.objs.size s3 H3 fp) rfl rfl rfl hc i [] s4 RR Hc (fun _ _=>False) Ic.inv (OX frc) stc stop) ?_;rintro r s5 ⟨hr,I5⟩;subst hr;refine fin s3.heap.objs.size s5 ?_;obtain⟨mm,aba,_⟩:=I5.loc;have hC5:Hc s3.heap.objs.size=none:=I5.free;have I6:Inv X pins σ Hc s5:=by
    obtain⟨h5,g5,d5,t5,o5⟩:=s5;have eo:o5=s3.os:=I5.os;subst eo;exact I3.call (h':=h5) (g':=g5) (d':=d5) (t':=t5) (ch:=fp) I5.base I5.cu I5.bare fun b hb=>by
     obtain⟨⟨f0,f1,f2',f3,f4,f5⟩,hl⟩:=Yx b hb;exact⟨f3,f1,f4,f5⟩
   have mvF:Mv X.K H2 G2 Hc (dH Gc s2.heap.objs.size (.lst w5)):=⟨fun a o e n=>by
     have ne:a≠s2.heap.objs.size:=eC e xT;obtain⟨e1,e2⟩:=mc.keep a o e n;exact⟨e1,by rw [cw ne]; exact e2⟩,mc.k9,fun a g' e=>by
     by_cases ha:a=s2.heap.objs.size
     ·subst ha;rw [ax] at e;cases e;exact⟨vj,hD,rA⟩
     ·rw [cw ha] at e;exact Ic.ab a g' e⟩
   exact⟨mm,Hc,_,I6,aba,I3.Cd (aH _) hC5,m2.trans mvF,qn _ gD⟩
 have all:xk (model X.prog X.w) X.A (.compStart (.ListComp elt [⟨tg,iter,ifs,0⟩] scope pos) 0 (.ref it) (.ref s2.heap.objs.size) (eL X N scope s3.heap.objs.size s3 H3 fp).env) (Rr (.ref s2.heap.objs.size) s3.heap.objs.size)
   { s3 with heap:=qa,toks:=s3.toks+([]:List (Str×Value)).length }:=codeAny_compStart_list loop (T.self _ 0 _ _ _ Xl loop)
 subst Ye;exact all
end
section
variable {X:Cx} {N:List Str} {scope:Scope} {tg elt iter:Expr} {ifs:List Expr} {pos:Pos} {m:Nat} {fr:List Nat} {wi:NT} {g:BZ} {c:Option yf} {te:gK}
structure BM(X:Cx)(N:List Str)(scope:Scope)(m:Nat)(fr:List Nat):Prop where
 cell:∀ y∈scope.names,y.2≠.cell
 kind:scope.kind=.function
 names:∀ y∈scope.names,y.2=.local->scope.names.lookup y.1=some .local
 free:∀ y∈scope.names,y.2=.free->X.env.kindOf y.1=some .cell
 len:N.length=m+fr.length
 at':∀ j i x,fr[j]?=some i->N[m+j]?=some x->X.N[i]?=some x/\X.env.scope.names.lookup x=some .cell/\(ID scope X.env).names.lookup x=some .cell
theorem BM.closed{X:Cx}{N:List Str}{scope:Scope}{m:Nat}{fr:List Nat}(k:BM X N scope m fr){pins:List (Addr×Obj)}{σ:L2.St}{H:Hp}{s:aA}(I:Inv X pins σ H s):closureFor scope X.env=pure (gU X.env scope.names []) :=
 Ck fun y hy hf=>I.ok.has _ (.inl (k.free y hy hf))
theorem MV(hc:X.calm=true)(k:BM X N scope m fr)(hi:NV X tg iter wi)(hg:∀ C s H fp,NW (eL X N scope C s H fp) tg g)(Wh:∀ C s H fp,WO (eL X N scope C s H fp) ifs c)(he:∀ C s H fp,gH (eL X N scope C s H fp) elt te)
  (hs:autoParam (∀ x,pN iter X.env x=pure x) Ai._auto_1):gH X (.ListComp elt [⟨tg,iter,ifs,0⟩] scope pos) (gf m fr wi g c te):=by
 intro E pins s σ H τ G Q hE I h;rw [eval_ListComp];refine wpAny_comprehension_free (use:=none) rfl hs (k.closed I.inv) k.kind k.names (iB (hi E pins s σ H τ G _ hE I h) fun xv fZ qa=>iB qa fun UE mY A8=>?_);obtain⟨it,fp,tn,J,H2,G2,ds,ok,e,o4,m2,T,RU,f2,wk,hz,q⟩:=A8;subst e;refine Dq (Rr:=fun acc C=>compPost (model X.prog X.w) X.A X.xe none (rP X pins σ H G Q) acc C) hc k.cell k.kind k.free k.len k.at' hg Wh he (I.mv o4 m2) m2 T RU f2 wk hz (fun _ _ z=>z) q ?_;rintro C s' ⟨mm,H',G',I',R1,fpC,mv,q'⟩;refine⟨mm,R1,fun h' UK=>?_⟩;obtain⟨f0,f1,_,f3,f4,f5⟩:=fpC;exact⟨.ref _,H',.ref _,G',I'.turned (t':=s'.toks) (fun b o hb e=>UK.extBut b o hb e) f0 f1 f3 f4 f5,mv,rfl,.ref _,q'⟩
theorem Gb{i:Nat}{y:Str}{py OZ:Pos}(hN:X.N.Nodup)(hyi:X.N[i]?=some y)(hy:X.env.scope.names.lookup y=some .local)(hc:X.calm=true)(k:BM X N scope m fr)(hi:NV X tg iter wi)(hg:∀ C s H fp,NW (eL X N scope C s H fp) tg g)
  (Wh:∀ C s H fp,WO (eL X N scope C s H fp) ifs c) (he:∀ C s H fp,gH (eL X N scope C s H fp) elt te) (hsw:autoParam (Ov (.ListComp elt [⟨tg,iter,ifs,0⟩] scope pos) (some (.Name y py)) OZ.line X.env=pure true) Ar._auto_1)
  (hs:autoParam (∀ x,pN iter X.env x=pure x) Ai._auto_1):Iw X (.Assign [.Name y py] (.ListComp elt [⟨tg,iter,ifs,0⟩] scope pos) OZ) (bB (gf m fr wi g c te) (aG i)):=by
 intro E pins s σ H τ G D hE I h;rw [exec_Assign_Name_used _ _ _ _ hsw];refine ah (Ft (ah ?_));show wpAny _ X.A (do let _ ← comprehension (.ListComp elt [⟨tg,iter,ifs,0⟩] scope pos) scope X.env _ (newList []) false (eval iter X.env) (some (KH (.Name y py) X.env))) _ _ s;refine ah (iB (wpAny_comprehension_free (use:=some (KH (.Name y py) X.env)) (Q:=fun _ s'=>WN X pins H G D .next s') rfl hs (k.closed I.inv) k.kind k.names (iB (hi E pins s σ H τ G _ hE I h) fun xv fZ qa=>iB qa fun UE mY A8=>?_)) fun _ s' hq=>az (az hq));obtain⟨it,fp,tn,J,H2,G2,ds,ok,e,o4,m2,T,RU,f2,wk,hz,q⟩:=A8;subst e;refine Dq (Rr:=fun acc C=>compPost (model X.prog X.w) X.A X.xe (some (KH (.Name y py) X.env)) (fun _ s'=>WN X pins H G D .next s') acc C) hc k.cell k.kind k.free k.len k.at' hg Wh he (I.mv o4 m2) m2 T RU f2 wk hz (fun _ _ z=>z) q ?_;rintro C s' ⟨mm,H',G',I',R1,fpC,mv,q'⟩;show wpAny (model X.prog X.w) X.A (KH (.Name y py) X.env (.ref mY.heap.objs.size)) _ X.xe s';obtain⟨f0,f1,_,f3,f4,f5⟩:=fpC;refine wpAny_assign_Name (CG (v:=.ref mY.heap.objs.size) I' hN hyi (.inl hy) rfl (?_) (.inr hy));rintro s3 I3 ⟨a,hsb,ha⟩;have hCa:C≠a:=by
  rcases ha with rfl | ha
  ·exact f1
  ·exact fun e=>f4 y a ha e.symm
 refine⟨mm,R1.sameBut hsb hCa,fun h' UK=>?_⟩;exact⟨_,H',_,G',⟨I3.turned (t':=s3.toks) (fun b o hb e=>UK.extBut b o hb e) f0 f1 f3 f4 f5,(I.st.mono (mv.kp I.ab)).set i (.ref _),mv.ab⟩,mv,q'⟩
theorem bM{i:Nat}{u:E6}{n:Nat}(h:∀ E ds τ G Q,u E ds τ G Q->ds.length=n):∀ E ds τ G Q,cL (aG i) u E ds τ G Q->ds.length=n+1 :=
 NC h (fun _ _ _ _ _ _ q k=>k _ _ q) fun _ _ _ _ q=>q
theorem bw (i:Nat) {x:Str} {pos:Pos} (hN:autoParam (X.N[i]?=some x) Ar._auto_1) (hv:autoParam (ZQ X.env.scope x) Ao._auto_1) (hd:autoParam ((x == ("__debug__" : Str))=false) Ad._auto_1)
  (LO:autoParam ((x == ("__classdict__" : Str))=false) Ad._auto_1):gH X (.Name x pos) (au i):=SX hN hv hd LO
theorem JM{pins:List (Addr×Obj)}{s:aA}{σ:L2.St}{H:Hp}{G:Gp}{x:V}{d:D}{v:Value}{zs:List D}(I:Inv X pins σ H s)(ab:mM X.K H G)(rx:RelV x v)(rd:b7 X.K H x d)(hi:itemsOf d G=some zs) :
  ∃ l vs bQ,v=.ref l/\Vals vs bQ/\bq X.K H vs zs/\(s.heap.IsList l bQ.toArray\/s.heap.IsTuple l bQ.toArray)/\vs.length<=a9:=by
 cases rd with
 | dN hq rs =>
  cases hi;cases rx;obtain⟨bQ,rv,pl,hz⟩:=I.list hq.sq;exact⟨_,_,bQ,rfl,rv,rs,.inl pl.isList,hz⟩
 | tup hq rs =>
  cases hi;cases rx;obtain⟨bQ,rv,pl,hz⟩:=I.tuple (.of hq);exact⟨_,_,bQ,rfl,rv,rs,.inr pl,hz⟩
 | ref l =>
  unfold itemsOf at hi;dsimp only at hi;cases hg:G l with
  | none=>rw [hg] at hi; cases hi
  | some gg =>
   rw [hg] at hi;cases gg with
   | lst ds =>
    cases hi;cases rx;obtain⟨vs,hv,rs⟩:=ab.lst hg;obtain⟨bQ,rv,pl,hz⟩:=I.list (.of hv);exact⟨_,_,bQ,rfl,rv,rs,.inl pl.isList,hz⟩
   | ins _ _=>cases hi
   | ua _=>cases hi
   | eW _=>cases hi
 | _=>cases hi
theorem VB{body:List Stmt}{t2:iq}(h:yh X body t2){E:nA}(hE:Lk X E):Xd X body (fun D σ H=>∃ (τ:jc) (G:Gp) (D2:mK),R6 X.K H σ τ/\mM X.K H G/\t2 E D2 τ G /\
  (∀ kR H' rY G',Mv X.K H G H' G'->D2.nx rY G'->D.nx kR H')/\(∀ v H' d G',Mv X.K H G H' G'->b7 X.K H' v d->D2.rt d G'->D.rt v H')/\(∀ τ G,¬ D2.bk τ G)/\(∀ τ G,¬ D2.ct τ G)):=by
 rintro pins s σ H D I ⟨τ,G,D2,st,ab,q,k1,k2,k3,k4⟩;refine iB (h E pins s σ H τ G D2 hE ⟨I,st,ab⟩ q) fun f s1 z=>?_;cases f with
 | next=>obtain⟨kR,H',rY,G',J,mv,z⟩:=z; exact⟨kR,H',J.inv,k1 kR H' rY G' mv z⟩
 | brk=>obtain⟨kR,H',rY,G',J,mv,z⟩:=z; exact(k3 _ _ z).elim
 | cont=>obtain⟨kR,H',rY,G',J,mv,z⟩:=z; exact(k4 _ _ z).elim
 | ret u=>obtain⟨v,kR,H',d,G',J,mv,r,rd,z⟩:=z; exact⟨v,kR,H',J,r,k2 v H' d G' mv rd z⟩
theorem OY{K:ar}{H:Hp}{Nn:List Str}{vs:List V}{ds:List D}(r:bq K H vs ds):R6 K H (L2.start Nn vs) (bg Nn.length ds):=by
 unfold L2.start bg;refine⟨by simp [r.length],fun i d h=>?_⟩;by_cases hi:i < ds.length
 ·rw [cY (by simpa using hi),bx] at h;cases hd:ds[i]? with
  | none=>rw [hd] at h; cases h
  | some d' =>
   rw [hd] at h;have e:d'=d:=by simpa using h
   subst e;obtain⟨v,h1,h2⟩:=r.get hd;refine⟨v,?_,h2⟩;rw [cY (by simpa [r.length] using hi),bx,h1]; rfl
 ·rw [cD (by simpa using hi),mR] at h;split at h <;> cases h
theorem LU{P:bE}{w:World}{K:ar}{mg:Str->Option Value}{base:Heap}{x qual:Str}{st:Stmt}{f:Addr}{fd:gy}{Nn ps:List Str}{k:Nat}{sp:kC}{rd:iq}(F:Ub K x qual st f fd)(S:pK Nn ps (cf st))(len:∀ ds G Q E,sp ds G Q E->ds.length=ps.length)
  (hr:∀ ds G Q,sp ds G Q (fun _ _=>False)->rd (fun _ _=>False) (ends Q) (bg Nn.length ds) G)
  (hb:∀ (ot:Value) (A:dg) (outer:List Env) (s:aA) (H:Hp) (E:XK),mJ k (A.deeper (Cz qual (cf st) s.heap.objs.size f ot))->yh (EL Iy P w K mg base Nn qual (cf st) f ot A outer s H E).VS (jf st) rd):uw P w K mg base Iy (k+1) f fd ps (zd K sp):=by
 refine F.ok S ((by rintro vs H Q E ⟨ds,G,Q2,r,ab,q,_⟩; exact by rw [r.length]; exact len _ _ _ _ q)) ?_;rintro ot A outer s H vs Q E Yg ⟨ds,G,Q2,r,ab,q,kk⟩;refine⟨_,VB (hb ot A outer s H E Yg) (E:=fun _ _=>False) (Lk.none fun _ _ z=>z),?_⟩;exact⟨bg Nn.length ds,G,ends Q2,OY r,ab,hr ds G Q2 q,fun kR H' rY G' mv z=>kk _ _ _ _ z mv .fg,fun v H' d G' mv rdv z=>kk _ _ _ _ z mv rdv,fun _ _ z=>z,fun _ _ z=>z⟩
section
variable {prog:bE} {w:World} {A:dg} {R:Result->aA->Prop} {ZV:Addr} {fq wr:List Addr} {n:Nat} {P:Nat->Value->Prop} {Sx:Nat->Heap->Prop}
theorem VX(W:Walks prog w A.in1 ZV fq wr n P Sx)(bt:Nat->Nat->Bool)(T:Heap->Prop)(B:Addr)(hB:B∉fq)(hT:∀ h h',T h->(∀ b o,b∉wr->b≠B->h.get? b=some o->h'.get? b=some o)->T h')
  (cmp:∀ i j x y s (Q:Value->aA->Prop) (E:Value->aA->Prop),T s.heap->P i x->P j y->Q (.bool (bt i j)) s->wpAny (model prog w) A.in1 (si .Lt x y) Q E s) :
  ∀ (k j:Nat) (s:aA) (best:Value) (cc:Nat),n - (j+1)=k->j+1<=n->Sx (j+1) s.heap->T s.heap->P (sr bt j) best ->
  s.heap.get? B=some { cls:=.type "list",dict:=none,data:=.seq #[best,best] cc,slots:=#[] } ->
  (∀ v h' tk,P (sr bt (n - 1)) v->(∀ b o,b∉wr->b≠B->s.heap.get? b=some o->h'.get? b=some o)->R (.ok (.ret v)) { s with heap:=h',toks:=tk }) ->
  xk (model prog w) A (.builtin "min.loop" ⟨[.ref ZV,.none,.ref B],[]⟩) R s:=by
 have hBw:B∉wr:=fun z=>hB (W.sub _ z);have nm:(toString "min"++toString ".loop" : String) = "min.loop":=by decide
 intro k;induction k with
 | zero =>
  intro j s best cc hk hj hs ht hp hb hR;have ej:j+1=n:=by lia
  refine k0 IM ?_; rw [gJ jW _];show wpAny _ A.in1 (seqItems? (.ref B) >>= _) _ _ s; refine ah (ke hb rfl ?_);show wpAny _ A.in1 (tryCatch (nC (.ref ZV)) _ >>= _) _ _ s; refine ah (uO (W.done s _ _ (ej ▸ hs) fun h' tk kept=>?_));have Hg:=kept B _ hBw hb;show wpAny _ A.in1 (updateSeq B (fun _=>#[]) >>= _) _ _ _; refine ah ?_;refine zN Hg rfl (ah (sf (az ?_)));exact hR best _ tk (by rw [<-ej]; exact hp) fun b o z1 z2 e=>(dJ _ _ (dG z2)).trans (kept b o z1 e)
 | succ k ih =>
  intro j s best cc hk hj hs ht hp hb hR;have lt:j+1 < n:=by lia
  refine k0 IM ?_; rw [gJ jW _];show wpAny _ A.in1 (seqItems? (.ref B) >>= _) _ _ s; refine ah (ke hb rfl ?_);show wpAny _ A.in1 (tryCatch (nC (.ref ZV)) _ >>= _) _ _ s; refine ah (uO (W.item (j+1) s _ _ lt hs fun v h' tk pv Ab kept=>?_));have Hg:=kept B _ hBw hb;have W3:T h':=hT _ _ ht fun b o z1 _ e=>kept b o z1 e;show wpAny _ A.in1 (tryCatch (zV [v,v] (si .Lt v best >>= _)) _ >>= _) _ _ _;refine ah (uO (cG (ah (cmp (j+1) (sr bt j) v best _ _ _ W3 pv hp ?_)))); refine ah (cG (pL ?_)); refine ah (sf (az ?_));cases hbt:bt (j+1) (sr bt j) with
  | true =>
   simp only [if_true]; refine ah ?_;refine zN Hg rfl (ah (sf ?_)); rw [nm];refine az ⟨lC jW _,ih (j+1) _ v _ (by lia) lt (W.frame _ _ _ Ab fun b z o e=>?_) (hT _ _ W3 fun b o _ z2 e=>?_) (by simp only [sr,hbt,if_true]; exact pv) (kg _ Hg rfl) fun v' YK OP Xx kk=>?_⟩
   ·exact(dJ _ _ (fun z':B=b=>hB (by rw [z']; exact z))).trans e
   ·exact(dJ _ _ (dG z2)).trans e
   ·exact hR v' YK OP Xx fun b o z1 z2 e=>kk b o z1 z2 ((dJ _ _ (dG z2)).trans (kept b o z1 e))
  | false =>
   simp only [ay,if_false]; refine ah (sf ?_); rw [nm];refine az ⟨lC jW _,ih (j+1) _ best cc (by lia) lt Ab W3 (by simp only [sr,hbt,ay,if_false]; exact hp) Hg fun v' YK OP Xx kk=>?_⟩;exact hR v' YK OP Xx fun b o z1 z2 e=>kk b o z1 z2 (kept b o z1 e)
end
theorem GB{prog:bE}{w:World}{A:dg}{E:Value->aA->Prop}{s:aA}{x:Value}{Q:Value->aA->Prop}
  (h:wpAny (model prog w) A.in1 (Fu x) (fun it mY=>∃ (I:Addr) (fq wr:List Addr) (n:Nat) (P:Nat->Value->Prop) (Sx:Nat->Heap->Prop) (bt:Nat->Nat->Bool) (T:Heap->Prop),it=.ref I/\Walks prog w A.in1 I fq wr n P Sx/\Sx 0 mY.heap/\(∀ b∈fq,b < mY.heap.objs.size)/\0 < n/\T mY.heap/\(∀ (h h':Heap) (B:Addr),mY.heap.objs.size<=B->T h->(∀ b o,b∉wr->b≠B->h.get? b=some o->h'.get? b=some o)->T h') /\
   (∀ i j x y s (Q:Value->aA->Prop) (E:Value->aA->Prop),T s.heap->P i x->P j y->Q (.bool (bt i j)) s->wpAny (model prog w) A.in1 (si .Lt x y) Q E s) /\
   ∀ v h' tk,P (sr bt (n - 1)) v->(∀ b o,b∉wr->mY.heap.get? b=some o->h'.get? b=some o)->Q v { mY with heap:=h',toks:=tk }) E s) :
  wpAny (model prog w) A (call (.builtin "min") [x]) Q E s:=by
 have nm:(toString "min"++toString ".loop" : String) = "min.loop":=by decide
 refine call_function_tree F.kind_min F.plain_min F.entry_min (F.args_min1 _) ?_;show wpAny _ A.in1 (xg "min" ["key","default"] 0 ⟨[],[]⟩ >>= _) _ _ s; refine ah (wpAny_of_eq (show xg "min" ["key","default"] 0 ⟨[],[]⟩=pure [none,none] from rfl) ?_);refine ah (az ?_); refine ah (IB h (fun it mY A8=>?_) fun _ _ e=>e);obtain⟨I,fq,wr,n,P,Sx,bt,T,rfl,W,hst,Yy,hn,ht,hT,cmp,hQ⟩:=A8;refine ah (dj ?_);have hSf:mY.heap.objs.size∉fq:=fun z=>jk _ (Yy _ z);have hSw:mY.heap.objs.size∉wr:=fun z=>hSf (W.sub _ z);rw [nm];generalize hh:mY.heap.push { cls:=.type "list",data:=.seq ([]:List Value).toArray } = hp;have hb:hp.get? mY.heap.objs.size=some { cls:=.type "list",dict:=none,data:=.seq #[] 0,slots:=#[] }:=by rw [<-hh]; exact bc _ rfl
 have old:∀ b o,mY.heap.get? b=some o->hp.get? b=some o:=fun b o e=>by rw [<-hh]; exact aF _ e
 have st0:Sx 0 hp:=W.frame _ _ _ hst fun b _ o e=>old b o e;have ht0:T hp:=hT _ _ _ (aH _) ht fun b o _ _ e=>old b o e;refine az ⟨lC jW _,?_⟩;refine k0 IM ?_; rw [gJ jW _];show wpAny _ A.in1 (seqItems? (.ref mY.heap.objs.size) >>= _) _ _ _; refine ah (ke hb rfl ?_);show wpAny _ A.in1 (tryCatch (nC (.ref I)) _ >>= _) _ _ _; refine ah (uO (W.item 0 _ _ _ hn st0 fun v h' tk pv Ab kept=>?_));have Hg:=kept _ _ hSw hb;show wpAny _ A.in1 (updateSeq mY.heap.objs.size (fun _=>#[v,v]) >>= _) _ _ _; refine ah ?_;refine zN Hg rfl ?_; rw [nm];refine az ⟨lC jW _,VX W bt T _ hSf (fun h h'=>hT h h' _ (aH _)) cmp _ 0 _ v _ rfl hn (W.frame _ _ _ Ab fun b z o e=>?_) (hT _ _ _ (aH _) (hT _ _ _ (aH _) ht0 fun b o z1 _ e=>kept b o z1 e) fun b o _ z2 e=>?_) pv (kg _ Hg rfl) fun v' YK OP Xx kk=>?_⟩
 ·exact(dJ _ _ (fun z':mY.heap.objs.size=b=>hSf (by rw [z']; exact z))).trans e
 ·exact(dJ _ _ (dG z2)).trans e
 ·refine hQ v' YK OP Xx fun b o z1 e=>?_;have nb:b≠mY.heap.objs.size:=bu (aP e);exact kk b o z1 nb ((dJ _ _ (dG nb)).trans (kept b o z1 (old b o e)))
theorem HW{α:Type}(lt:α->α->Bool)(l:List α)(a:α)(f:Nat->α)(hf:∀ i,i < l.length+1->f i=(a :: l).getD i a) :
  f (sr (fun i j=>lt (f i) (f j)) l.length)=l.foldl (fun m x=>if lt x m=true then x else m) a:=by
 have key:∀ k,k<=l.length->f (sr (fun i j=>lt (f i) (f j)) k)=(l.take k).foldl (fun m x=>if lt x m=true then x else m) a:=by
  intro k;induction k with
  | zero=>intro _; rw [sr,hf 0 (by lia)]; rfl
  | succ k ih =>
   intro hk;have ih':=ih (by lia);rw [List.take_succ_eq_append_getElem (by lia),fy,<-ih'];have e:f (k+1)=l[k]:=by
    rw [hf (k+1) (by lia),cT];simp [show k < l.length by lia]
   show f (if lt (f (k+1)) (f (sr _ k))=true then k+1 else sr _ k)=(if lt l[k] _=true then l[k] else _);rw [<-e];split <;> rfl
 rw [key l.length (aH _),List.take_length]
theorem NO (hc : X.calm = true) (hu : X.A.units + 64 < cLine) : qg X (.builtin "min") TX := by
  intro pins s σ H G xs ds us Q I ab rx rd q;unfold TX at q;split at q
  · rename_i x
    obtain⟨v, rfl, r⟩ := rd.one;obtain⟨u, rfl, ru⟩ := rx.one;have main : ∀ {α : Type} (zs : List α) (a : α) (enc : α -> D) (lt : α -> α -> Bool) (T : Heap -> Prop), itemsOf x G = some ((a :: zs).map enc) -> T s.heap -> (∀ (h h' : Heap) (B : Addr), s.heap.objs.size ≤ B -> T h -> (∀ b o, b < s.heap.objs.size -> b ≠ B -> h.get? b = some o -> h'.get? b = some o) -> T h') ->
        (∀ y z vy vz uy uz (s' : aA) (Q' : Value -> aA -> Prop) (E' : Value -> aA -> Prop), T s'.heap -> b7 X.K H vy (enc y) -> RelV vy uy -> b7 X.K H vz (enc z) -> RelV vz uz -> Q' (.bool (lt y z)) s' -> wpAny (model X.prog X.w) X.A.in1 (si .Lt uy uz) Q' E' s') ->
        Q (enc (zs.foldl (fun m x => if lt x m = true then x else m) a)) G -> wpAny (model X.prog X.w) X.A (call (.builtin "min") [u]) (rP X pins σ H G Q) X.xe s := by
      intro α zs a enc lt T hi ht hT cmp hq;obtain⟨l, vs, bQ, rfl, rv, rs, hl, hz⟩ := JM I ab ru r hi;have hlen : bQ.length = zs.length + 1 := by rw [<-rv.length, rs.length, ao, ai]
      have zh : ∀ {o : Obj}, s.heap.get? l = some o -> l ≠ s.heap.objs.size := fun e => bu (aP e);have at_ : ∀ i uu, bQ.toArray[i]? = some uu -> ∃ vv, RelV vv uu ∧ b7 X.K H vv (enc ((a :: zs).getD i a)) := fun i uu e => by
        have e' : bQ[i]? = some uu := by simpa using e
        have Ts : i < bQ.length := (List.getElem?_eq_some_iff.mp e').1;have hd : ((a :: zs).map enc)[i]? = some (enc ((a :: zs).getD i a)) := by
          rw [bx, cT];cases h9 : (a :: zs)[i]? with
          | none => rw [List.getElem?_eq_none_iff] at h9; simp at h9; lia
          | some z => rfl
        obtain⟨vv, h1, h2⟩ := rs.get hd;obtain⟨uu', h3, h4⟩ := rv.get h1;rw [e'] at h3;cases h3;exact⟨vv, h4, h2⟩
      have YW : ∀ i j p9 q9 s' (Q' : Value -> aA -> Prop) (E' : Value -> aA -> Prop), T s'.heap -> bQ.toArray[i]? = some p9 -> bQ.toArray[j]? = some q9 -> Q' (.bool (lt ((a :: zs).getD i a) ((a :: zs).getD j a))) s' -> wpAny (model X.prog X.w) X.A.in1 (si .Lt p9 q9) Q' E' s' := fun i j p9 q9 s' Q' E' t' h1 h2 h3 => by
        obtain⟨v1, r1, d1⟩ := at_ i p9 h1;obtain⟨v2, r2, d2⟩ := at_ j q9 h2;exact cmp _ _ v1 v2 p9 q9 s' Q' E' t' d1 r1 d2 r2 h3
      have fin : ∀ vv h' tk, bQ.toArray[sr (fun i j => lt ((a :: zs).getD i a) ((a :: zs).getD j a)) (bQ.toArray.size - 1)]? = some vv -> (∀ b o, b ∉ [s.heap.objs.size] -> s.heap.get? b = some o -> h'.get? b = some o) -> rP X pins σ H G Q vv { s with heap := h', toks := tk } := fun vv h' tk e hk => by
        obtain⟨v1, r1, d1⟩ := at_ _ vv e;have es : bQ.toArray.size - 1 = zs.length := by rw [a8]; lia
        rw [es, HW lt zs a (fun i => (a :: zs).getD i a) (fun i _ => rfl)] at d1;exact⟨v1, H, _, G, I.kept fun b o e => hk b o (by simpa using bu (aP e)) e, .refl ab, r1, d1, hq⟩
      have Yl : 0 < bQ.toArray.size := by rw [a8]; lia
      have hTp : ∀ (oo : Obj), T (s.heap.push oo) := fun oo => hT _ _ (s.heap.objs.size + 1) (zX _) ht fun b o hb _ e => aF _ e;have hT2 : ∀ (oo : Obj) (h h' : Heap) (B : Addr), (s.heap.push oo).objs.size ≤ B -> T h -> (∀ b o, b ∉ [s.heap.objs.size] -> b ≠ B -> h.get? b = some o -> h'.get? b = some o) -> T h' := fun oo h h' B hB t kk => hT h h' B (by rw [jI] at hB; exact Nat.le_of_succ_le hB) t fun b o hb hn e => kk b o (by simpa using bu hb) hn e;rcases hl with hl | hl
      · refine GB (IA hl ?_)
        obtain⟨o, ho, JV, n, hd⟩ := id hl;exact⟨s.heap.objs.size, _, _, _, _, _, _, T, rfl, Walks.list (A := X.A.in1) (show X.A.in1.handled = none from I.ok.hd hc) _ l (zh ho) bQ.toArray, ⟨⟨_, bc _ rfl, rfl, rfl⟩, ⟨o, aF _ ho, JV, n, hd⟩⟩,
          fun b hb => by rcases (by simpa using hb : b = s.heap.objs.size ∨ b = l) with rfl | rfl
                         · rw [jI]; exact pQ _
                         · rw [jI]; exact uk (aP ho), Yl, hTp _, hT2 _, YW, fun vv h' tk e hk => fin vv h' tk e fun b o hb e => hk b o hb (aF _ e)⟩
      · refine GB (wpAny_pyIter_tuple hl ?_)
        obtain⟨o, ho, JV, n, hd⟩ := id hl;exact⟨s.heap.objs.size, _, _, _, _, _, _, T, rfl, Walks.tuple (A := X.A.in1) (show X.A.in1.handled = none from I.ok.hd hc) _ l (zh ho) bQ.toArray, ⟨⟨_, bc _ rfl, rfl, rfl⟩, ⟨o, aF _ ho, JV, n, hd⟩⟩,
          fun b hb => by rcases (by simpa using hb : b = s.heap.objs.size ∨ b = l) with rfl | rfl
                         · rw [jI]; exact pQ _
                         · rw [jI]; exact uk (aP ho), Yl, hTp _, hT2 _, YW, fun vv h' tk e hk => fin vv h' tk e fun b o hb e => hk b o hb (aF _ e)⟩
    rcases q with ⟨ns, mm, hi, hm, q⟩ | ⟨Zq, mm, hi, hm, q⟩
    · cases ns with
      | nil => cases hm
      | cons a zs =>
        cases hm;have e : (fun m x : Int => if x < m then x else m) = fun m x => if decide (x < m) = true then x else m := by funext m x; simp
        rw [e] at q;refine main zs a D.int (fun x y => decide (x < y)) (fun _ => True) hi trivial (fun _ _ _ _ _ _ => trivial) (fun y z vy vz uy uz s' Q' E' _ d1 r1 d2 r2 hq => ?_) q;cases d1;cases d2;obtain⟨t1, rfl⟩ := r1;obtain⟨t2, rfl⟩ := r2;exact HT.Aw X.A.in1 s' y t1 z t2 X.prog X.w E' Q' hq
    · cases Zq with
      | nil => cases hm
      | cons a zs =>
        cases hm;have el : ∀ xs ys : List Int, HT.lexLt xs ys = K2.lexLt xs ys := by
          intro xs;induction xs with
          | nil => intro ys; cases ys <;> rfl
          | cons x xs ih => intro ys; cases ys with
            | nil => rfl
            | cons y ys => unfold HT.lexLt K2.lexLt; rw [ih]
        refine main zs a tI K2.lexLt (fun h => ∀ b o, b < s.heap.objs.size -> s.heap.get? b = some o -> h.get? b = some o) hi (fun b o _ e => e) (fun h h' B hB t kk b o hb e => kk b o hb (bu (bK hb hB)) (t b o hb e)) (fun y z vy vz uy uz s' Q' E' t' d1 r1 d2 r2 hq => ?_) q;cases d1 with
        | tup h1 Zk =>
          cases d2 with
          | tup h2 Ff =>
            cases r1;cases r2;have z1 := Zk.ints;have z2 := Ff.ints;subst z1 z2;obtain⟨JP, Sw, ⟨o1, ho1, hc1, n1, YC⟩, _⟩ := I.tuple (.of h1);obtain⟨nS, Iq, ⟨o2, C3, BY, n2, hd2⟩, _⟩ := I.tuple (.of h2);have p1 : IsTup s'.heap _ JP.toArray := ⟨o1, t' _ _ (aP ho1) ho1, hc1, n1, YC⟩;have p2 : IsTup s'.heap _ nS.toArray := ⟨o2, t' _ _ (aP C3) C3, BY, n2, hd2⟩;rw [<-el] at hq;have i1 : ox JP.toArray.toList y := intsAre_of Sw;have i2 : ox nS.toArray.toList z := intsAre_of Iq;exact(HT.AY p1 p2 i1 i2 (show X.A.units + 1 < cLine by lia) hq : wpAny (model X.prog X.w) X.A.in1 (eS .Lt _ _) Q' E' s')
  · exact q.elim
def aac(scope sc:Scope):List (Str×uA):=scope.names.map fun (n,k)=>if (k == .free&&sc.kind == .function&&sc.names.lookup n == some .cell) then (n,.cell) else (n,k)
def zK(N:List Str)(scope:Scope)(m:Nat)(fr:List Nat)(sc:Scope)(XN:List Str):Bool :=
 scope.names.all (fun y=>decide (y.2≠.cell))&&decide (scope.kind=.function)&&scope.names.all (fun y=>!decide (y.2=.local)||decide (scope.names.lookup y.1=some .local)) &&
 scope.names.all (fun y=>!decide (y.2=.free)||decide (sc.names.lookup y.1=some .cell))&&decide (N.length=m+fr.length) &&
 (i0 fr.length).all (fun j=>match fr[j]?,N[m+j]? with
  | some i,some x=>decide (XN[i]?=some x)&&decide (sc.names.lookup x=some .cell)&&decide ((aac scope sc).lookup x=some .cell)
  | _,_=>false)
theorem Ds{sc:Scope}{XN:List Str}(Yd:X.env.scope=sc)(YH:X.N=XN)(hb:zK N scope m fr sc XN=true):BM X N scope m fr:=by
 subst Yd YH;unfold zK at hb;simp only [aK] at hb;obtain⟨⟨⟨⟨⟨h1,h2⟩,h3⟩,h4⟩,h5⟩,h6⟩:=hb;refine⟨fun y hy=>of_decide_eq_true (List.all_eq_true.mp h1 y hy),of_decide_eq_true h2,fun y hy hl=>?_,fun y hy hl=>?_,of_decide_eq_true h5,fun j i x e1 e2=>?_⟩
 ·have:=List.all_eq_true.mp h3 y hy;simp only [hl,decide_true,bF,N8] at this;exact of_decide_eq_true this
 ·have:=List.all_eq_true.mp h4 y hy;simp only [hl,decide_true,bF,N8] at this;exact of_decide_eq_true this
 ·have hj:j < fr.length:=(List.getElem?_eq_some_iff.mp e1).1;have:=List.all_eq_true.mp h6 j (List.mem_range.mpr hj);rw [e1,e2] at this;simp only [aK] at this;exact⟨of_decide_eq_true this.1.1,of_decide_eq_true this.1.2,of_decide_eq_true this.2⟩
theorem j6(N:List Str){sc:Scope}{XN:List Str}(hi:NV X tg iter wi)(hg:∀ C s H fp,NW (eL X N scope C s H fp) tg g)(Wh:∀ C s H fp,WO (eL X N scope C s H fp) ifs c)(he:∀ C s H fp,gH (eL X N scope C s H fp) elt te)
  (Yd:autoParam (X.env.scope=sc) Ar._auto_1) (YH:autoParam (X.N=XN) Ar._auto_1) (hb:autoParam (zK N scope m fr sc XN=true) Ak._auto_1) (hc:autoParam (X.calm=true) Ar._auto_1) (hs:autoParam (∀ x,pN iter X.env x=pure x) Ai._auto_1):gH X (.ListComp elt [⟨tg,iter,ifs,0⟩] scope pos) (gf m fr wi g c te) :=
 MV hc (Ds Yd YH hb) hi hg Wh he hs
theorem AD(N:List Str){sc:Scope}{XN:List Str}{i:Nat}{y:Str}{py OZ:Pos}(hN:X.N.Nodup)(hyi:X.N[i]?=some y)(hy:X.env.scope.names.lookup y=some .local)(hi:NV X tg iter wi)(hg:∀ C s H fp,NW (eL X N scope C s H fp) tg g)
  (Wh:∀ C s H fp,WO (eL X N scope C s H fp) ifs c) (he:∀ C s H fp,gH (eL X N scope C s H fp) elt te) (Yd:autoParam (X.env.scope=sc) Ar._auto_1) (YH:autoParam (X.N=XN) Ar._auto_1) (hb:autoParam (zK N scope m fr sc XN=true) Ak._auto_1) (hc:autoParam (X.calm=true) Ar._auto_1)
  (hsw:autoParam (Ov (.ListComp elt [⟨tg,iter,ifs,0⟩] scope pos) (some (.Name y py)) OZ.line X.env=pure true) Ar._auto_1) (hs:autoParam (∀ x,pN iter X.env x=pure x) Ai._auto_1) :
  Iw X (.Assign [.Name y py] (.ListComp elt [⟨tg,iter,ifs,0⟩] scope pos) OZ) (bB (gf m fr wi g c te) (aG i)) :=
 Gb hN hyi hy hc (Ds Yd YH hb) hi hg Wh he hsw hs
theorem Nb{K:ar}{H:Hp}{a:Addr}{ns:List Int}(hO:T9 H)(hS:qL K H a (ns.map V.int))(hl:ns.length<=63):zd K CH [.ref a] H (fun v _=>v=.bl true) fun _ _ _=>False:=by
 have hF:Xb K H a (ns.map V.int):=by
  rcases hS with (h | ⟨o,h⟩) | h
  ·rcases hO a with z | ⟨o,xs,z⟩
   ·rw [z] at h; cases h
   ·rw [z] at h; cases h
  ·exact .inl ⟨o,h⟩
  ·exact .inr h
 refine⟨[.dN (ns.map D.int)],fun _=>none,fun d _=>d=.bl true,.cons (.dN hF (bq.Lw ns)) .nil,fun a g e=>(by cases e),⟨ns,rfl,hl,fun _=>rfl,fun _=>rfl⟩,fun d G' v H' e mv r=>?_⟩;subst e;cases r;rfl
theorem P7{l:DF}{q:bE}{loose:List Str}{XP:(Str->Option Value)->Heap->Prop}{YP:World->Heap->Prop}{d:DefRec}{K:Params->ar}{k:Nat}{x:Str}(hn:l.most=some 63)(Yz:d.params.defaults=[])(hr:mJ k IF)
  (hY:∀ (w:World) (h:Heap),YP w h->(K w.params).In h)
  (F:∀ (w:World) (mg:Str->Option Value) (fa:Addr) (h:Heap),(K w.params).In h->h.Ns bR mg->mg d.name=some (.ref fa) ->
   ∃ fd:gy,(∀ (s:aA) (u:Value),BindsTo s fd ⟨[u],[]⟩ [(x,u)])/\∀ base:Heap,(K w.params).In base->base.Ns bR mg->uw l.prog w (K w.params) mg base Iy k fa fd [x] (zd (K w.params) CH)) :
  PySem.W.WalkO q loose XP YP l.row.toRowW d [] (fun f vs=>KI f vs) :=
 L2.Sj (n:=63) (k:=k) (x:=x) (CX:=fun _=>Iy) (sp:=fun w=>zd (K w.params) CH) hn (by decide) Yz hr hY F (fun _ _ _ _ hl hO hS=>Nb hO hS hl) fun _ _ _ _ _ z=>z
end
def Km:HO->Bool
 | .lst _=>true
 | .dK _=>true
 | .dT _=>true
 | .ext _=>true
 | _=>false
def nY(h:Heap)(S:Addr->Bool)(H:Hp):Hp:=fun a=>match H a with
 | some u=>if (Km u&&S a)=true then (match h.get? a with
  | some o=>some (.jC o u)
  | none=>some u) else some u
 | none=>none
section
variable {h:Heap} {S:Addr->Bool} {H:Hp} {a:Addr}
theorem JZ(n:∀ u,H a=some u->Km u=false):nY h S H a=H a:=by
 unfold nY;cases e:H a with
 | none=>rfl
 | some u=>simp only [n u e,KR,ay,if_false]
theorem wC(hs:S a=false):nY h S H a=H a:=by
 unfold nY;cases e:H a with
 | none=>rfl
 | some u=>simp only [hs,KS,ay,if_false]
theorem rj{u:HO}{o:Obj}(hs:S a=true)(e:H a=some u)(hu:Km u=true)(ho:h.get? a=some o):nY h S H a=some (.jC o u):=by
 unfold nY;simp only [e,hs,hu,Bool.and_self,if_true,ho]
theorem qB(e:H a=none):nY h S H a=none:=by unfold nY; rw [e]
theorem nX{u:HO}(e:H a=some u)(hu:Km u=false):nY h S H a=some u:=by rw [JZ (fun v z=>by rw [e] at z; cases z; exact hu)]; exact e
theorem t8:Kp H (nY h S H):=⟨fun a xs e=>nX e rfl,fun a o u e=>nX e rfl⟩
end
section
variable {X:Cx} {pins:List (Addr×Obj)} {σ:L2.St} {H:Hp} {s:aA} {G:Gp}
theorem Inv.freeze(I : Inv X pins σ H s)(S : Addr -> Bool) : Inv X pins σ (nY s.heap S H) s where
  ok := I.ok
  os := I.os
  bare := I.bare
  base := { keep := I.base.keep, slot := I.base.slot, there := I.base.there
            free := fun b o q n hx => qB (I.base.free b o q n hx)
            sG := fun b xs q => nX (I.base.sG b xs q) rfl
            rZ := fun b o u q => nX (I.base.rZ b o u q) rfl
            uR := fun b ps q => nX (I.base.uR b ps q) rfl
            uX := fun b x q => nX (I.base.uX b x q) rfl }
  loc := I.loc
  cell := I.cell
  free := qB I.free
  mG := fun x c e => qB (I.mG x c e)
  pin := fun p hp => let ⟨h1, h2, h3⟩ := I.pin p hp; ⟨h1, qB h2, h3⟩
  cu := fun a o q => by
    have st : ∀ u, H a = some u -> fu X.prog X.w (nY s.heap S H) s.heap a u := fun u e =>
      (I.cu a u e).k9 (fun b v _ r => r) (fun b r => nX r rfl) (fun b xs r => nX r rfl)
    cases e : H a with
    | none => rw [qB e] at q; cases q
    | some u =>
      by_cases hc : Km u = true
      · by_cases hs : S a = true
        · obtain⟨ob, ho⟩ := kT (I.cu a _ e)
          rw [rj hs e hc ho] at q;cases q;exact⟨ho, st _ e⟩
        · rw [wC (by simpa using hs), e] at q
          cases q;exact st _ e
      · rw [nX e (by simpa using hc)] at q
        cases q;exact st _ e
  len := I.len
def jR(R:Nat->Bool)(G:Gp):Addr->Bool:=fun a=>R a&&(G a).isSome
theorem C8(I:Inv X pins σ H s)(ab:mM X.K H G)(R:Nat->Bool):Mv X.K H G (nY s.heap (jR R G) H) (Cj R G) where
 keep:=fun a o e n=>by
  refine⟨by rw [wC (by simp [jR,n])]; exact e,?_⟩;unfold Cj; split
  ·rfl
  ·exact n
 k9:=fun a n=>by
  cases q:G a with
  | none=>exact absurd q n
  | some g =>
   have t:=(ab a g q).tracked;cases e:H a with
   | none=>exact absurd e t
   | some u =>
    unfold nY;rw [e];dsimp only;split
    ·split <;> simp
    ·simp
 ab:=fun a g e=>by
  unfold Cj at e;split at e
  ·cases e
  ·rename_i hr;exact(ab a g e).mono t8 (wC (by simp [jR,hr]))
theorem JX(I:Inv X pins σ H s)(ab:mM X.K H G){R:Nat->Bool}:∀ {d t:D} {v:V},Fz G R d t->b7 X.K H v d->b7 X.K (nY s.heap (jR R G) H) v t:=by
 intro d t v h;revert v;refine Fz.rec (motive_1:=fun d t _=>∀ {v:V},b7 X.K H v d->b7 X.K (nY s.heap (jR R G) H) v t)
  (motive_2:=fun ds ts _=>∀ {vs:List V},bq X.K H vs ds->bq X.K (nY s.heap (jR R G) H) vs ts)
  (motive_3:=fun ds ts _=>(∀ {vs:List (Key×V)},mW X.K H vs ds->mW X.K (nY s.heap (jR R G) H) vs ts)/\∀ {vs:List (List Key×V)},oh X.K H vs ds->oh X.K (nY s.heap (jR R G) H) vs ts)
  ?_ ?_ ?_ ?_ ?_ ?_ ?_ ?_ ?_ ?_ h
 ·intro d v r; exact r.mono t8
 ·intro ds ss _ ih v r;cases r with
  | tup h rs=>exact .tup (t8.tup _ _ h) (ih rs)
 ·intro ds ss _ ih v r;cases r with
  | dN h rs=>exact .dN (t8.Vm h) (ih rs)
 ·intro a ds ss g hr _ ih v r;cases r;obtain⟨vs,hv,rs⟩:=ab a _ g;obtain⟨ob,ho⟩:=kT (I.cu a _ hv);exact .dN (.inl ⟨_,rj (by simp [jR,hr,g]) hv rfl ho⟩) (ih rs)
 ·intro a ds ss g hr _ ih v r;cases r;rcases ab a _ g with ⟨kv,hv,rs⟩ | ⟨kv,hv,rs⟩
  ·obtain⟨ob,ho⟩:=kT (I.cu a _ hv);exact .qo (rj (by simp [jR,hr,g]) hv rfl ho) (ih.1 rs)
  ·obtain⟨ob,ho⟩:=kT (I.cu a _ hv);exact .qm (rj (by simp [jR,hr,g]) hv rfl ho) (ih.2 rs)
 ·intro a kvs GR g hr _ ek ih v r;cases r;obtain⟨xs,ks,vs,hv,rel,r1,r2⟩:=ab a _ g;obtain⟨ob,ho⟩:=kT (I.cu a _ hv);have e2:(GR.map fun p=>rJ p.1)=kvs.map fun p=>rJ p.1:=by
   have:=congrArg (List.map rJ) ek;rw [bh,bh] at this;exact this.symm
  exact .oY (rj (by simp [jR,hr,g]) hv rfl ho) ⟨ek.symm.trans rel.1,rel.2⟩ (by rw [e2]; exact r1.mono t8) (ih r2)
 ·intro vs r; cases r; exact .nil
 ·intro d s ds ss _ _ i1 i2 vs r;cases r with
  | cons r rs=>exact .cons (i1 r) (i2 rs)
 ·exact⟨fun r=>by cases r; exact .nil,fun r=>by cases r; exact .nil⟩
 ·intro k d s ds ss _ _ i1 i2;exact⟨fun r=>by cases r with | cons r rs=>exact .cons (i1 r) (i2.1 rs),fun r=>by cases r with | cons r rs=>exact .cons (i1 r) (i2.2 rs)⟩
variable {e:Expr} {te:gK} {st:Stmt} {t:iq}
theorem aX(he:gH X e te):gH X e (cJ te):=by
 intro E pins s σ H τ G Q hE I h;refine iB (he E pins s σ H τ G _ hE I h) ?_;rintro u s1 ⟨v,H1,d,G1,I1,m,r,rd,R,t,hf,q⟩;exact⟨v,_,t,_,Inv.freeze I1 _,m.trans (C8 I1 m.ab R),r,JX I1 m.ab hf rd,q⟩
theorem zF{i:Nat}(h1:Iw X st t):Iw X st (EK i t):=by
 intro E pins s σ H τ G D hE I h;refine iB (h1 E pins s σ H τ G _ hE I h) fun f s1 z=>?_;cases f with
 | next =>
  obtain⟨kR,H',rY,G',I',m,q⟩:=z;simp only at q;split at q
  ·rename_i d hd;obtain⟨R,t,hf,q⟩:=q;obtain⟨v,hv,rv⟩:=I'.st.at' i d hd;have a1:=(I'.st.mono (H':=nY s1.heap (jR R G') H') t8).set i (JX I'.inv I'.ab hf rv);have es:kR.set i (some v)=kR:=by
    have hi:i < kR.length:=(List.getElem?_eq_some_iff.mp hv).1;have e2:=(List.getElem?_eq_some_iff.mp hv).2;rw [<-e2]; exact RP hi
   rw [es] at a1;have m2:=C8 I'.inv I'.ab R;exact⟨kR,_,_,_,⟨Inv.freeze I'.inv _,a1,m2.ab⟩,m.trans m2,q⟩
  ·exact q.elim
 | ret v=>exact z
 | brk=>exact z
 | cont=>exact z
end
theorem nv:dZ "len" = some (.builtin "len"):=by decide +kernel
theorem WK:dZ "min" = some (.builtin "min"):=by decide +kernel
theorem WJ:dZ "sum" = some (.builtin "sum"):=by decide +kernel
theorem qE:dZ "sorted" = some (.builtin "sorted"):=by decide +kernel
theorem L9:dZ "list" = some (.type "list"):=by decide +kernel
theorem Ru:dZ "tuple" = some (.type "tuple"):=by decide +kernel
theorem ud:dZ "dict" = some (.type "dict"):=by decide +kernel
theorem WL:dZ "int" = some (.type "int"):=by decide +kernel
theorem TY:dZ "bool" = some (.type "bool"):=by decide +kernel
end K2
end
section
namespace L2
open PySem PySem.Spec PyProof.Rows
section
variable {X:Cx} {pins:List (Addr×Obj)} {σ:St} {H:Hp} {s:aA} {h':Heap}
theorem Inv.tQ{t':Nat}{fp:List Addr}(I:Inv X pins σ H s)(hf:∀ b∈fp,o6 X pins H b)(k:∀ b o,b∉fp->s.heap.get? b=some o->h'.get? b=some o):Inv X pins σ H { s with heap:=h',toks:=t' }:=by
 have nt:∀ b u,H b=some u->b∉fp:=fun b u e z=>by rw [(hf b z).1] at e; cases e
 refine I.step (g':=s.gens) (d':=s.drawn) (ch:=fp) (fun b hb=>?_) (fun b o _ _ hc e _=>k b o hc e) (fun b o _ _ hc e _=>⟨o.slots,k b o hc e⟩) (fun _ _ _ _ n=>n)
  (fun b o hc e=>⟨o,k b o hc e⟩) (fun _ _ e=>e) (fun _ _ _ e=>e) (fun _ _ e=>e) (fun _ _ e=>e) (fun m hm=>?_) (fun b u e=>?_) I.bare
 ·obtain⟨f0,f1,f2,f3,f4,f5⟩:=hf b hb;exact⟨f3,f1,f4,f5⟩
 ·obtain⟨o,es,ep,ho,r⟩:=hm;exact⟨o,es,ep,k _ _ (fun z=>(hf _ z).2.1 rfl) ho,r⟩
 ·refine(I.cu b u e).k9 (fun c v hc r=>k c v ?_ r) (fun _ z=>z) (fun _ _ z=>z);rcases hc with rfl | hc
  ·exact nt _ _ e
  ·exact nt _ _ hc
theorem Inv.zv{t':Nat}{fp:List Addr}{T:Addr}{vs:List V}(I:Inv X pins σ H s)(hf:∀ b∈fp,o6 X pins H b)(k:∀ b o,b∉fp->s.heap.get? b=some o->h'.get? b=some o)(hT:s.heap.objs.size<=T)
  (new:fu X.prog X.w (upd H T (.tup vs)) h' T (.tup vs)):Inv X pins σ (upd H T (.tup vs)) { s with heap:=h',toks:=t' }:=by
 have hn:H T=none:=I.cu.fresh hT;have ht:∀ b o,s.heap.get? b=some o->b≠T:=fun b o e z=>by subst z; exact absurd (aP e) (Nat.not_lt.mpr hT)
 have nt:∀ b u,H b=some u->b∉fp:=fun b u e z=>by rw [(hf b z).1] at e; cases e
 have ne:∀ b u,H b=some u->b≠T:=fun b u e=>eC e hn;refine I.step (g':=s.gens) (d':=s.drawn) (ch:=fp) (fun b hb=>?_) (fun b o _ _ hc e _=>k b o hc e) (fun b o _ _ hc e _=>⟨o.slots,k b o hc e⟩) (fun b o _ e n=>by rw [bz (ht b o e)]; exact n)
  (fun b o hc e=>⟨o,k b o hc e⟩) (fun b xs e=>by rw [bz (ne _ _ e)]; exact e) (fun b o u e=>by rw [bz (ne _ _ e)]; exact e) (fun b ps e=>by rw [bz (ne _ _ e)]; exact e) (fun b ps e=>by rw [bz (ne _ _ e)]; exact e) (fun m hm=>?_) (fun b u e=>?_) I.bare
 ·obtain⟨f0,f1,f2,f3,f4,f5⟩:=hf b hb;exact⟨f3,f1,f4,f5⟩
 ·obtain⟨o,es,ep,ho,r⟩:=hm;exact⟨o,es,ep,k _ _ (fun z=>(hf _ z).2.1 rfl) ho,r⟩
 ·by_cases hb:b=T
  ·subst hb; rw [bN] at e; cases e; exact new
  ·rw [bz hb] at e;refine(I.cu b u e).k9 (fun c v hc r=>k c v ?_ r) (fun c z=>by rw [bz (ne _ _ z)]; exact z) (fun c xs z=>by rw [bz (ne _ _ z)]; exact z);rcases hc with rfl | hc
   ·exact nt _ _ e
   ·exact nt _ _ hc
theorem o6.upd{b T:Addr}{o:HO}(h:o6 X pins H b)(hb:b≠T):o6 X pins (L2.upd H T o) b:=by
 obtain⟨f0,r⟩:=h;exact⟨by rw [bz hb]; exact f0,r⟩
end
def Ite(K:ar)(a:Addr):It :=
  ⟨fun i H=>∃ xs x,qL K H a xs/\xs[i]?=some x,
   fun i H v H'=>∃ T y,v=.ref T/\H T=none/\H'=upd H T (.tup [.int i,y])/\∀ xs,qL K H a xs->xs[i]?=some y,
   fun i H=>∃ xs,qL K H a xs/\xs.length<=i⟩
theorem Mx{P:bE}{w:World}{K:ar}{elts:List Expr}{kk:Nat}{pos:Pos}(a e it:Addr)(zh:e≠it) :
  Turn P w K (.Tuple elts kk pos) (Ite K a) [e,it] e (fun i h=>(∃ old,IsEnum h e it i old)/\h.IsListIter it a i) where
 mem:=by simp
 obj:=fun i h Oh b hb=>by
  obtain⟨⟨old,he⟩,hit⟩:=Oh;rcases List.mem_cons.mp hb with rfl | hb
  ·exact⟨_,he,fun v z=>by cases z⟩
  ·have e:b=it:=by simpa using hb
   subst e;obtain⟨o,e,c,d⟩:=hit;exact⟨o,e,fun v z=>by rw [d] at z; cases z⟩
 keep:=(by rintro i h h' ⟨⟨old,he⟩,hit⟩ k; exact⟨⟨old,k e (by simp) _ he⟩,hit.at fun o q=>k it (by simp) o q⟩)
 item:=by
  intro X hP hw hK hc i pins s σ H E I hf st hg;obtain⟨⟨old,he⟩,hit⟩:=st;subst hP hw hK;obtain⟨xs,x,hq,hx⟩:=hg;obtain⟨bQ,rv,p,hz⟩:=I.list hq;obtain⟨u,hu,ru⟩:=rv.get hx;have Wq:H s.heap.objs.size=none:=I.cu.fresh (aH _);have heT:e≠s.heap.objs.size:=bu (aP he);have Yu:it≠s.heap.objs.size:=by obtain⟨o,q,_⟩:=hit; exact bu (aP q)
  refine wpAny_pyNext_enum_item he hit p.isList (x:=u) (by simpa using hu) zh fun h' ho abj hT hsz kk=>?_;refine⟨_,rfl,?_⟩;have I1:Inv X pins σ (upd H s.heap.objs.size (.tup [.int i,x])) { s with heap:=h',toks:=s.toks+1 } :=
   I.zv (fp:=[e,it]) hf (fun b o hb q=>kk b o (fun z=>hb (by simp [z])) (fun z=>hb (by simp [z])) q) (aH _)
    ⟨by show 2<=a9; decide,[.int i s.toks,u],.cons ⟨_,rfl⟩ (.cons ru .nil),⟨_,hT,rfl,_,rfl⟩⟩
  refine wpAny_letOwnedTupleGo_enum (s:={ s with heap:=h',toks:=s.toks+1 }) ho fun h2 Tt zg=>?_;have f1:∀ b∈[e,it],o6 X pins (upd H s.heap.objs.size (.tup [.int i,x])) b:=fun b hb=>(hf b hb).upd (by
   rcases List.mem_cons.mp hb with rfl | hb
   ·exact heT
   ·rw [List.mem_singleton.mp hb]; exact Yu)
  have I2:Inv X pins σ (upd H s.heap.objs.size (.tup [.int i,x])) { s with heap:=h2,toks:=s.toks+1 } :=
   Inv.tQ (s:={ s with heap:=h',toks:=s.toks+1 }) (t':=s.toks+1) (fp:=[e,it]) I1 f1 fun b o hb q=>(zg.2 b (fun z=>hb (by simp [z]))).trans q
  refine⟨.ref s.heap.objs.size,_,I2,rfl,⟨_,x,rfl,Wq,rfl,fun ys hy=>by rw [I.v9 hy hq]; exact hx⟩,⟨⟨u,?_⟩,?_⟩,fun b hb=>(f1 b hb).1⟩
  ·simpa using Tt
  ·exact abj.at fun o q=>(zg.2 it (dG zh)).trans q
 done:=by
  intro X hP hw hK hc i pins s σ H E I hf st hg;obtain⟨⟨old,he⟩,hit⟩:=st;subst hP hw hK;obtain⟨xs,hq,hx⟩:=hg;obtain⟨bQ,rv,p,hz⟩:=I.list hq;have hl:=rv.length;refine wpAny_pyNext_enum_end (I.ok.hd hc) he hit p.isList (by simp; lia) fun h' eb=>⟨rfl,?_⟩;exact I.tQ (t':=s.toks) (fp:=[e,it]) hf fun b o hb q=>eb b o (fun z=>hb (by simp [z])) q
 self:=(by rintro A i s Q E ⟨⟨old,he⟩,_⟩ h; exact wpAny_pyIter_enum he h)
end L2
namespace K2
open PySem PySem.Spec PyProof.Rows L2
section
variable {X:Cx} {elts:List Expr} {kk:Nat} {B6:Pos} {a b:Expr} {ta tb:gK} {pos p:Pos}
theorem L1{pins:List (Addr×Obj)}{σ:L2.St}{H H1:Hp}{G G1:Gp}{s1:aA}{l:Addr}{vs:List V}{ds:List D}{ok:Gp->Prop}{R:List D->(Gp->Prop)->Gp->Prop}(I1:Inv X pins σ H1 s1)(m:Mv X.K H G H1 G1)(hq:qL X.K H1 l vs)
  (hk:∀ H2 G2,Kp H1 H2->mM X.K H2 G2->ok G2->∃ ws,qL X.K H2 l ws/\bq X.K H2 ws ds) (q:R (lL 0 ds) ok G1) :
  wpAny (model X.prog X.w) X.A (call (.type "enumerate") [.ref l]) (fun v s2=>wpAny (model X.prog X.w) X.A (Fu v) (Kv X pins σ (.Tuple elts kk B6) H G R) X.xe s2) X.xe s1:=by
 obtain⟨bQ,rv,pl,hz⟩:=I1.list hq;refine call_enumerate_list pl.isList fun h' he hit hsz kp=>?_;refine wpAny_pyIter_enum he ?_;refine⟨_,[s1.heap.objs.size+1,s1.heap.objs.size],_,_,H1,G1,lL 0 ds,ok,rfl,I1.kept (t':=s1.toks) kp,m,Mx l _ _ (Nat.succ_ne_self _),⟨⟨_,he⟩,hit⟩,fun b hb=>?_,fun i H2 G2 k ab o=>?_,q⟩
 ·have Hg:s1.heap.objs.size<=b:=by
   rcases List.mem_cons.mp hb with rfl | hb
   ·lia
   ·rw [List.mem_singleton.mp hb]; exact aH _
  exact I1.Cd Hg (I1.cu.fresh Hg)
 ·obtain⟨ws,hw,rd⟩:=hk H2 G2 k ab o;refine⟨fun d hd=>?_,fun hl=>⟨ws,hw,by rw [rd.length,<-De ds 0]; exact hl⟩⟩;rw [Df] at hd;cases hdi:ds[i]? with
  | none=>rw [hdi] at hd; cases hd
  | some d' =>
   rw [hdi] at hd;obtain⟨v,hv,r⟩:=rd.get hdi;refine⟨⟨ws,v,hw,hv⟩,?_⟩;rintro x H3 ⟨T,y,ex,hT,e3,hy⟩;subst ex e3;have:=hy ws hw;rw [hv] at this;cases this;have ed:D.tup [.int ((0+i:Nat):Int),d']=d:=by simpa using hd
   subst ed;refine⟨.tup bN (.cons (by rw [xl]; exact .int _) (.cons (r.mono (.new hT)) .nil)),.Nz ab hT⟩
theorem EZ:dZ "enumerate" = some (.type "enumerate"):=by decide +kernel
theorem Rt:dZ "zip" = some (.type "zip"):=by decide +kernel
theorem Gg (hg:Gl X "enumerate") (hm:X.mg "enumerate" = none) (ha:gH X a ta) (hs:autoParam (bI [a] X.env=[(false,eval a X.env)]) Ar._auto_1):NV X (.Tuple elts kk B6) (.Call (.Name "enumerate" p) [a] [] pos) (Ha ta):=by
 intro E pins s σ H τ G R hE I h;have hA:Cw X [a] (aw ta aQ):=dO ha fP hs;refine Call_ (nj I.inv hg hm EZ (dI (z8 hA pos hE I (R:=aao fun x G1=>wx x G1 R) h fun vs H1 ds G1 us s1 I1 m1 r1 jS q1=>?_) hs rfl))
 match ds,q1 with
 | [x],q1 =>
  change wx x G1 R at q1;obtain⟨w,rfl,ze⟩:=jS.one;obtain⟨u,rfl,ru⟩:=r1.one;cases ze with
  | dN hq rs=>cases ru; exact L1 I1.inv m1 hq.sq (fun H2 G2 k ab _=>⟨_,(k.Vm hq).sq,rs.mono k⟩) q1
  | ref p =>
   cases ru;unfold wx at q1;dsimp only at q1;split at q1
   ·rename_i ds e;obtain⟨vs,hv,rs⟩:=I1.ab.lst e;refine L1 I1.inv m1 (.of hv) (fun H2 G2 k ab o=>?_) q1;obtain⟨ws,hw,rH⟩:=ab.lst o;exact⟨ws,.of hw,rH⟩
   ·exact q1.elim
  | tup _ _=>exact q1.elim
  | qo _ _=>exact q1.elim
  | qm _ _=>exact q1.elim
  | fg=>exact q1.elim
  | bl _=>exact q1.elim
  | int _=>exact q1.elim
  | str _=>exact q1.elim
  | exc _=>exact q1.elim
  | Hv _ _=>exact q1.elim
  | oY _ _ _ _=>exact q1.elim
 | [],q1=>exact q1.elim
 | _ :: _ :: _,q1=>exact q1.elim
end
end K2
end
section
namespace K2
open PySem PySem.Spec PyProof.Rows L2
section
variable {X:Cx} {o i a b:Expr} {to ti ta tb:gK} {pos p:Pos}
theorem iO(hu:X.A.units+64 < cLine)(ho:gH X o to)(hi:gH X i ti)
  (ha:autoParam (∀ v,KH (.Subscript o i pos) X.env v=(do
   let ov ← zV [v] (eval o X.env)
   let iv ← zV [v,ov] (eval i X.env)
   standAt pos
   zV [v,ov,iv] (setItem ov iv v)
   release [v,ov,iv] [])) Ai._auto_1):NW X (.Subscript o i pos) (kb to ti):=by
 intro E pins s σ H τ G w d u Q hE I r rd h;rw [ha];refine ah (cG (kG ho hE I h fun x H1 dx G1 ov s1 I1 m1 r1 jS q1=>?_));refine ah (cG (kG hi hE I1 q1 fun y H2 dy G2 iv s2 o4 m2 r2 Av q2=>?_));refine ah (Ft (ah (cG ?_)));have Ir:=m1.trans m2;have RV:=rd.mono (Ir.kp I.ab);have Ab:=I.st.mono (Ir.kp I.ab);have Z9:=jS.mono (m2.kp I1.ab);unfold Ah at q2;split at q2
 ·rename_i l;cases Z9;cases r1;split at q2
  ·rename_i xs hg;obtain⟨vs,hv,rs⟩:=o4.ab.lst hg;split at q2
   ·rename_i k;cases Av;split at q2
    ·rename_i j hj;have m3:Mv X.K H2 G2 (upd H2 l (.lst (vs.set j w))) (dH G2 l (.lst (xs.set j d))):=.putL o4.ab hg hv (rs.set RV j);refine iB (set_list pins s2 σ H2 (.ref l) (.int k) w _ _ _ (fun H3=>H3=upd H2 l (.lst (vs.set j w))) o4.inv rfl r2 r ⟨l,vs,k,j,rfl,rfl,hv,?_,rfl⟩) ?_
     ·rw [rs.length]; exact hj
     ·rintro _ s3 ⟨H3,I3,e3⟩;subst e3;exact wpAny_release ⟨σ,_,τ,_,⟨I3,Ab.mono (m3.kp o4.ab),m3.ab⟩,Ir.trans m3,q2⟩
    ·exact q2.elim
   ·exact q2.elim
  ·rename_i kvs hg;obtain⟨hk,hz,q⟩:=q2;obtain⟨H3,H4,I3,dp,m3⟩:=Q4 o4.inv o4.ab hg hk hz Av RV;exact NL (by lia) I3 dp r2 r fun s4 I4=>wpAny_release ⟨σ,H4,τ,_,⟨I4,Ab.mono (m3.kp o4.ab),m3.ab⟩,Ir.trans m3,q⟩
  ·exact q2.elim
 ·exact q2.elim
end
end K2
end
section
namespace L2
open PySem PySem.Spec PyProof.Rows
theorem vE{X:Cx}{pins:List (Addr×Obj)}{σ:St}{H:Hp}{s:aA}{l b:Addr}{xs:List V}(I:Inv X pins σ H s)(hq:qL X.K H l xs)(hf:o6 X pins H b):l≠b:=by
 rintro rfl;obtain⟨f0,f1,f2,f3,f4,f5⟩:=hf;rcases hq with (h | ⟨o,h⟩) | ⟨o,bQ,n,h,_⟩
 ·rw [f0] at h; cases h
 ·rw [f0] at h; cases h
 ·have hb:=I.ok.mod.WZ _ _ h;rcases f3 with f3 | f3
  ·exact I.ok.M1 _ _ hb f3
  ·exact absurd (aP (I.ok.bs _ _ hb).1) (Nat.not_lt.mpr f3)
def Itz(K:ar)(a b:Addr):It :=
  ⟨fun i H=>∃ xs x ys y,qL K H a xs/\xs[i]?=some x/\qL K H b ys/\ys[i]?=some y,
   fun i H v H'=>∃ T x y,v=.ref T/\H T=none/\H'=upd H T (.tup [x,y])/\(∀ xs,qL K H a xs->xs[i]?=some x)/\∀ ys,qL K H b ys->ys[i]?=some y,
   fun i H=>∃ xs ys,qL K H a xs/\qL K H b ys/\(xs.length<=i\/ys.length<=i)⟩
structure Y2(z TI TO i1 i2 a b:Addr)(i:Nat)(h:Heap):Prop where
 hz:IsZip h z TI TO .none
 hI:yk h TI (.ref i1) (.ref i2)
 hO:∃ x y,yk h TO x y
 h1:h.IsListIter i1 a i
 h2:h.IsListIter i2 b i
theorem OM{P:bE}{w:World}{K:ar}{elts:List Expr}{kk:Nat}{pos:Pos}(a b z TI TO i1 i2:Addr)(nd:[z,TI,TO,i1,i2].Nodup) :
  Turn P w K (.Tuple elts kk pos) (Itz K a b) [z,TI,TO,i1,i2] z (Y2 z TI TO i1 i2 a b) where
 mem:=by simp
 obj:=fun i h st c hc=>by
  simp only [bb,bG,or_false] at hc;rcases hc with rfl | rfl | rfl | rfl | rfl
  ·exact⟨_,st.hz,fun v q=>by cases q⟩
  ·exact⟨_,st.hI,fun v q=>by cases q⟩
  ·obtain⟨x,y,h⟩:=st.hO; exact⟨_,h,fun v q=>by cases q⟩
  ·obtain⟨o,e,_,d⟩:=st.h1; exact⟨o,e,fun v q=>by rw [d] at q; cases q⟩
  ·obtain⟨o,e,_,d⟩:=st.h2; exact⟨o,e,fun v q=>by rw [d] at q; cases q⟩
 keep:=fun i h h' st k=>⟨k _ (by simp) _ st.hz,k _ (by simp) _ st.hI,let ⟨x,y,q⟩:=st.hO; ⟨x,y,k _ (by simp) _ q⟩,st.h1.at fun o q=>k _ (by simp) o q,st.h2.at fun o q=>k _ (by simp) o q⟩
 item:=by
  intro X hP hw hK hc i pins s σ H E I hf st hg;subst hP hw hK;obtain⟨xs,x,ys,y,Nv,hx,UL,hy⟩:=hg;obtain⟨JP,Sw,p1,ZA⟩:=I.list Nv;obtain⟨nS,Iq,p2,X9⟩:=I.list UL;obtain⟨u1,ZE,FR⟩:=Sw.get hx;obtain⟨u2,hu2,Jj⟩:=Iq.get hy;obtain⟨xo,yo,hO⟩:=st.hO;have ap:∀ c∈[z,TI,TO,i1,i2],a≠c/\b≠c:=fun c hc=>⟨vE I Nv (hf c hc),vE I UL (hf c hc)⟩;simp only [aY,bb,bG,or_false,not_or] at nd;obtain⟨⟨n1,n2,n3,n4⟩,⟨n5,n6,n7⟩,⟨n8,n9⟩,n10,_⟩:=nd;have Dz:qi z TI TO i1 i2 a b:=⟨dG n1,dG n2,dG n3,dG n4,n5,n6,n7,n8,n9,n10,(ap z (by simp)).1,(ap TO (by simp)).1,(ap i1 (by simp)).1,(ap i2 (by simp)).1,(ap z (by simp)).2,(ap TO (by simp)).2,(ap i1 (by simp)).2,(ap i2 (by simp)).2⟩;have Wq:H s.heap.objs.size=none:=I.cu.fresh (aH _);have inH:∀ c∈[z,TI,TO,i1,i2],c≠s.heap.objs.size:=fun c hc=>by
   simp only [bb,bG,or_false] at hc;rcases hc with rfl | rfl | rfl | rfl | rfl
   ·exact bu (aP st.hz)
   ·exact bu (aP st.hI)
   ·exact bu (aP hO)
   ·obtain⟨o,e,_⟩:=st.h1; exact bu (aP e)
   ·obtain⟨o,e,_⟩:=st.h2; exact bu (aP e)
  refine wpAny_pyNext_zip_item Dz st.hz st.hI hO st.h1 st.h2 p1.isList p2.isList (x:=u1) (y:=u2) (by simpa using ZE) (by simpa using hu2) fun h' a1 a2 a3 a4 a5 a6 a7=>?_;refine⟨_,rfl,?_⟩;have k1:∀ c o,c∉[z,TI,TO,i1,i2]->s.heap.get? c=some o->h'.get? c=some o:=fun c o hc q =>
   a7 c o (fun e=>hc (by simp [e])) (fun e=>hc (by simp [e])) (fun e=>hc (by simp [e])) (fun e=>hc (by simp [e])) q
  have I1:Inv X pins σ (upd H s.heap.objs.size (.tup [x,y])) { s with heap:=h' } :=
   I.zv (t':=s.toks) (fp:=[z,TI,TO,i1,i2]) hf k1 (aH _) ⟨by show 2<=a9; decide,[u1,u2],.cons FR (.cons Jj .nil),⟨_,a5,rfl,_,rfl⟩⟩
  refine wpAny_letOwnedTupleGo_zip (s:={ s with heap:=h' }) a1 fun h2 X9 zg=>?_;have f1:∀ c∈[z,TI,TO,i1,i2],o6 X pins (upd H s.heap.objs.size (.tup [x,y])) c:=fun c hc=>(hf c hc).upd (inH c hc);have I2:Inv X pins σ (upd H s.heap.objs.size (.tup [x,y])) { s with heap:=h2 } :=
   Inv.tQ (s:={ s with heap:=h' }) (t':=s.toks) (fp:=[z,TI,TO,i1,i2]) I1 f1 fun c o hc q=>(zg.2 c (fun e=>hc (by simp [e]))).trans q
  have hI':yk h' TI (.ref i1) (.ref i2):=a7 TI _ (dG n1) n5 n6 n7 st.hI;refine⟨.ref s.heap.objs.size,_,I2,rfl,⟨_,x,y,rfl,Wq,rfl,fun zs hs=>by rw [I.v9 hs Nv]; exact hx,fun zs hs=>by rw [I.v9 hs UL]; exact hy⟩,⟨X9,?_,⟨u1,u2,?_⟩,?_,?_⟩,fun c hc=>(f1 c hc).1⟩
  ·exact(zg.2 TI (dG n1)).trans hI'
  ·exact(zg.2 TO (dG n2)).trans a2
  ·exact a3.at fun o q=>(zg.2 i1 (dG n3)).trans q
  ·exact a4.at fun o q=>(zg.2 i2 (dG n4)).trans q
 done:=by
  intro X hP hw hK hc i pins s σ H E I hf st hg;subst hP hw hK;obtain⟨xs,ys,Nv,UL,hx⟩:=hg;obtain⟨JP,Sw,p1,ZA⟩:=I.list Nv;obtain⟨nS,Iq,p2,X9⟩:=I.list UL;have BX:=Sw.length;have rh:=Iq.length;obtain⟨xo,yo,hO⟩:=st.hO;have ap:∀ c∈[z,TI,TO,i1,i2],a≠c/\b≠c:=fun c hc=>⟨vE I Nv (hf c hc),vE I UL (hf c hc)⟩;simp only [aY,bb,bG,or_false,not_or] at nd;obtain⟨⟨n1,n2,n3,n4⟩,⟨n5,n6,n7⟩,⟨n8,n9⟩,n10,_⟩:=nd;have Dz:qi z TI TO i1 i2 a b:=⟨dG n1,dG n2,dG n3,dG n4,n5,n6,n7,n8,n9,n10,(ap z (by simp)).1,(ap TO (by simp)).1,(ap i1 (by simp)).1,(ap i2 (by simp)).1,(ap z (by simp)).2,(ap TO (by simp)).2,(ap i1 (by simp)).2,(ap i2 (by simp)).2⟩;refine wpAny_pyNext_zip_end (I.ok.hd hc) Dz st.hz st.hI hO st.h1 st.h2 p1.isList p2.isList (by
   rcases hx with hx | hx
   ·left; simp; lia
   ·right; simp; lia) fun h' k1=>⟨rfl,?_⟩
  exact I.tQ (t':=s.toks) (fp:=[z,TI,TO,i1,i2]) hf fun c o hc q=>k1 c o (fun e=>hc (by simp [e])) (fun e=>hc (by simp [e])) (fun e=>hc (by simp [e])) (fun e=>hc (by simp [e])) q
 self:=fun A i s Q E st h=>Mo st.hz h
end L2
namespace K2
open PySem PySem.Spec PyProof.Rows L2
section
variable {X:Cx} {elts:List Expr} {kk:Nat} {B6:Pos} {a b:Expr} {ta tb:gK} {pos p:Pos}
theorem GJ{pins:List (Addr×Obj)}{s:aA}{σ:L2.St}{H:Hp}{G:Gp}{x:V}{d:D}{v:Value}{ds:List D}{ok:Gp->Prop}(I:Inv X pins σ H s)(ab:mM X.K H G)(rx:RelV x v)(rd:b7 X.K H x d)(hi:v8 d G=some (ds,ok)) :
  ∃ l vs,v=.ref l/\qL X.K H l vs/\bq X.K H vs ds/\∀ H2 G2,Kp H H2->mM X.K H2 G2->ok G2->∃ ws,qL X.K H2 l ws/\bq X.K H2 ws ds:=by
 cases rd with
 | dN hq rs=>cases hi; cases rx; exact⟨_,_,rfl,hq.sq,rs,fun H2 G2 k ab _=>⟨_,(k.Vm hq).sq,rs.mono k⟩⟩
 | ref l =>
  unfold v8 at hi;dsimp only at hi;cases hg:G l with
  | none=>rw [hg] at hi; cases hi
  | some gg =>
   rw [hg] at hi;cases gg with
   | lst zs =>
    cases hi;cases rx;obtain⟨vs,hv,rs⟩:=ab.lst hg;refine⟨_,_,rfl,.of hv,rs,fun H2 G2 k ab o=>?_⟩;obtain⟨ws,hw,rH⟩:=ab.lst o;exact⟨ws,.of hw,rH⟩
   | ins _ _=>cases hi
   | ua _=>cases hi
   | eW _=>cases hi
 | _=>cases hi
theorem Lm (hg:Gl X "zip") (hm:X.mg "zip" = none) (ha:gH X a ta) (hb:gH X b tb) (hs:autoParam (bI [a,b] X.env=[(false,eval a X.env),(false,eval b X.env)]) Ar._auto_1) (zg:autoParam (bI [b] X.env=[(false,eval b X.env)]) Ar._auto_1) :
  NV X (.Tuple elts kk B6) (.Call (.Name "zip" p) [a,b] [] pos) (Qx ta tb):=by
 intro E pins s σ H τ G R hE I h;have hA:Cw X [a,b] (aw ta (aw tb aQ)):=dO ha (dO hb fP zg) (by rw [hs,zg]);refine Call_ (nj I.inv hg hm Rt (dI (z8 hA pos hE I (R:=XG fun x y G1=>va x y G1 R) h fun vs H1 ds G1 us s1 I1 m1 r1 jS q1=>?_) (by rw [hs,zg]) (by rw [zg]; rfl)))
 match ds,q1 with
 | [x,y],q1 =>
  change va x y G1 R at q1;obtain⟨w1,w2,rfl,ze,MJ⟩:=jS.two;obtain⟨u1,u2,rfl,FR,Jj⟩:=vals2 r1;unfold va at q1;split at q1
  ·rename_i xs k1 ys k2 e1 e2;obtain⟨l1,v1,rfl,Nv,Zk,st1⟩:=GJ I1.inv I1.ab FR ze e1;obtain⟨l2,v2,rfl,UL,Ff,RU⟩:=GJ I1.inv I1.ab Jj MJ e2;obtain⟨JP,Sw,pl1,_⟩:=I1.inv.list Nv;obtain⟨nS,Iq,pl2,_⟩:=I1.inv.list UL;refine call_zip_2 pl1.isList pl2.isList fun h' z1 z2 z3 z4 z5 z6 z7=>?_;refine Mo z1 ?_;refine⟨_,[s1.heap.objs.size+4,s1.heap.objs.size+2,s1.heap.objs.size+3,s1.heap.objs.size,s1.heap.objs.size+1],_,_,H1,G1,qP xs ys,_,rfl,I1.inv.kept (t':=s1.toks) z7,m1,
    OM l1 l2 _ _ _ _ _ (by simp),⟨z1,z2,⟨_,_,z3⟩,z4,z5⟩,fun c hc=>?_,fun i H2 G2 k ab o=>?_,q1⟩
   ·have UR:s1.heap.objs.size<=c:=by
     simp only [bb,bG,or_false] at hc;rcases hc with rfl | rfl | rfl | rfl | rfl
     ·exact lG _ _
     ·exact lG _ _
     ·exact lG _ _
     ·exact aH _
     ·exact lG _ _
    exact I1.inv.Cd UR (I1.inv.cu.fresh UR)
   ·obtain⟨Xg,hw1,jS⟩:=st1 H2 G2 k ab o.1;obtain⟨Z1,ZD,Av⟩:=RU H2 G2 k ab o.2;refine⟨fun d hd=>?_,fun hl=>⟨Xg,Z1,hw1,ZD,?_⟩⟩
    ·rw [FF] at hd;cases hx:xs[i]? with
     | none=>rw [hx] at hd; cases hd
     | some x' =>
      cases hy:ys[i]? with
      | none=>rw [hx,hy] at hd; cases hd
      | some y' =>
       rw [hx,hy] at hd;have ed:D.tup [x',y']=d:=by simpa using hd
       subst ed;obtain⟨vx,hvx,rx⟩:=jS.get hx;obtain⟨vy,hvy,ry⟩:=Av.get hy;refine⟨⟨Xg,vx,Z1,vy,hw1,hvx,ZD,hvy⟩,?_⟩;rintro v H3 ⟨T,px,py,ex,hT,e3,hx3,hy3⟩;subst ex e3;have q1:=hx3 Xg hw1;have q2:=hy3 Z1 ZD;rw [hvx] at q1;rw [hvy] at q2;cases q1; cases q2;exact⟨.tup bN (.cons (rx.mono (.new hT)) (.cons (ry.mono (.new hT)) .nil)),.Nz ab hT⟩
    ·rw [FE] at hl;rw [jS.length,Av.length];lia
  ·exact q1.elim
 | [],q1=>exact q1.elim
 | [_],q1=>exact q1.elim
 | _ :: _ :: _ :: _,q1=>exact q1.elim
end
end K2
end
section
namespace K2
open PySem PySem.W PyProof.Rows
def i9{α:Type}(lt:Nat->Nat->Bool):KasT α->α
 | .ret a=>a
 | .ask i j k=>i9 lt (k (lt i j))
theorem oi{α β:Type}(lt:Nat->Nat->Bool)(f:α->KasT β):∀ t:KasT α,i9 lt (t.bind f)=i9 lt (f (i9 lt t))
 | .ret _=>rfl
 | .ask i j k=>oi lt f (k (lt i j))
abbrev gA(p:Array Nat)(k:Nat):Nat:=p.getD k 0
theorem C6(p:Array Nat)(k:Nat):gA p k=(p[k]?).getD 0:=by
 unfold gA; rw [Array.getD_eq_getD_getElem?]
structure NU(lt:Nat->Nat->Bool):Prop where
 asymm:∀ i j,lt i j=true->lt j i=false
 trans:∀ i j k,lt j i=false->lt k j=false->lt k i=false
theorem NU.refl{lt:Nat->Nat->Bool}(w:NU lt)(i:Nat):lt i i=false:=by
 cases h:lt i i with
 | false=>rfl
 | true=>rw [w.asymm _ _ h] at h; cases h
def Up(lt:Nat->Nat->Bool)(p:Array Nat)(m:Nat):Prop:=∀ i j,i<=j->j < m->lt (gA p j) (gA p i)=false
def Dn(lt:Nat->Nat->Bool)(p:Array Nat)(m:Nat):Prop:=∀ i j,i<=j->j < m->lt (gA p i) (gA p j)=false
section
variable {lt:Nat->Nat->Bool}
theorem Up.more(w:NU lt){p:Array Nat}{n m:Nat}(h1:1<=n)(h:Up lt p n)(hs:∀ k,n<=k->k < m->lt (gA p k) (gA p (k - 1))=false):Up lt p m:=by
 intro i j Nx hjm;induction j with
 | zero =>
  have:i=0:=by lia
  subst this; exact w.refl _
 | succ j ih =>
  by_cases hj:j+1 < n
  ·exact h i (j+1) Nx hj
  ·by_cases e:i=j+1
   ·subst e; exact w.refl _
   ·have h1:=ih (by lia) (by lia);have h2:=hs (j+1) (by lia) hjm;exact w.trans _ _ _ h1 h2
theorem Lc(p:Array Nat):∀ (f n:Nat),n<=i9 lt (sk p f n)/\i9 lt (sk p f n)<=n+f/\(∀ k,n<=k->k < i9 lt (sk p f n)->lt (gA p k) (gA p (k - 1))=false) /\
  (i9 lt (sk p f n) < n+f->lt (gA p (i9 lt (sk p f n))) (gA p (i9 lt (sk p f n) - 1))=true):=by
 intro f;induction f with
 | zero=>intro n; exact⟨aH _,aH _,fun k h1 h2=>absurd (show k < n from h2) (by lia),fun h=>absurd (show n < n+0 from h) (by lia)⟩
 | succ f ih =>
  intro n;have e:i9 lt (sk p (f+1) n)=if lt (gA p n) (gA p (n - 1))=true then n else i9 lt (sk p f (n+1)):=by
   show i9 lt (if lt (gA p n) (gA p (n - 1))=true then xp n else sk p f (n+1))=_;split <;> rfl
  rw [e];by_cases c:lt (gA p n) (gA p (n - 1))=true
  ·rw [if_pos c];exact⟨aH _,by lia,fun k h1 h2=>absurd h2 (by lia),fun _=>c⟩
  ·rw [if_neg c];obtain⟨h1,h2,h3,h4⟩:=ih (n+1);refine⟨by lia,by lia,fun k k1 k2=>?_,fun h=>h4 (by lia)⟩;by_cases e:k=n
   ·subst e; simpa using c
   ·exact h3 k (by lia) k2
theorem i8{p:Array Nat}{i j:Nat}(hj:j<=p.size)(k:Nat):gA (iw p i j) k=if i<=k/\k < j then gA p (i+j - 1 - k) else gA p k:=by
 rw [C6,iw,getElem?_mirror_all hj];split <;> rw [C6]
theorem oC(p:Array Nat)(i j:Nat):(iw p i j).size=p.size:=mirror_size _ _ _ _
theorem lq(p:Array Nat)(i j:Nat):(iw p i j).Perm p:=mirror_perm _ _ _ _
theorem Dn.rev{p:Array Nat}{a n:Nat}(w:NU lt)(hn:n<=p.size)(h:Dn lt p n)(he:∀ k,a<=k->k < n->lt (gA p (n - 1)) (gA p k)=false):Dn lt (iw p a n) n:=by
 intro i j Nx Yr;rw [i8 hn,i8 hn];by_cases hi:a<=i
 ·rw [if_pos ⟨hi,by lia⟩,if_pos ⟨by lia,Yr⟩];exact w.trans _ _ _ (he (a+n - 1 - j) (by lia) (by lia)) (h (a+n - 1 - i) (n - 1) (by lia) (by lia))
 ·rw [if_neg (by lia)];by_cases hj:a<=j
  ·rw [if_pos ⟨hj,Yr⟩];exact h i (a+n - 1 - j) (by lia) (by lia)
  ·rw [if_neg (by lia)];exact h i j Nx Yr
def Eqs(lt:Nat->Nat->Bool)(p:Array Nat)(n q:Nat):Prop:=q+1<=n/\∀ k,n - (q+1)<=k->k < n->lt (gA p (n - 1)) (gA p k)=false
theorem Dn.one(w:NU lt){p:Array Nat}{n:Nat}(h1:1<=n)(h:Dn lt p n)(hc:lt (gA p (n - 1)) (gA p n)=false):Dn lt p (n+1):=by
 intro i j Nx hj;by_cases e:j=n
 ·subst e;by_cases e2:i=j
  ·subst e2; exact w.refl _
  ·exact w.trans _ _ _ hc (h i (j - 1) (by lia) (by lia))
 ·exact h i j Nx (by lia)
theorem O7(w:NU lt):∀ (f:Nat) (p:Array Nat) (n q:Nat),n+f<=p.size->Dn lt p n->Eqs lt p n q->∃ p' n' q',i9 lt (mP f p n q)=(p',n',q')/\p'.Perm p/\p'.size=p.size/\n<=n'/\n'<=n+f/\Dn lt p' n'/\Eqs lt p' n' q':=by
 intro f;induction f with
 | zero=>intro p n q _ hd he; exact⟨p,n,q,rfl,oU _,rfl,aH _,aH _,hd,he⟩
 | succ f ih =>
  intro p n q hs hd he;have h1:1<=n:=by have:=he.1; lia
  have e:i9 lt (mP (f+1) p n q)=if lt (gA p n) (gA p (n - 1))=true then (if q > 0 then i9 lt (mP f (iw p (n - (q+1)) n) (n+1) 0) else i9 lt (mP f p (n+1) 0))
    else if lt (gA p (n - 1)) (gA p n)=true then (p,n,q) else i9 lt (mP f p (n+1) (q+1)):=by
   show i9 lt (if lt (gA p n) (gA p (n - 1))=true then (if q > 0 then mP f (iw p (n - (q+1)) n) (n+1) 0 else mP f p (n+1) 0) else .ask (gA p (n - 1)) (gA p n) fun d=>if d=true then .ret (p,n,q) else mP f p (n+1) (q+1))=_;split
   ·split <;> rfl
   ·show i9 lt (if lt (gA p (n - 1)) (gA p n)=true then xp (p,n,q) else mP f p (n+1) (q+1))=_;split <;> rfl
  rw [e];by_cases c:lt (gA p n) (gA p (n - 1))=true
  ·rw [if_pos c];have ca:=w.asymm _ _ c;by_cases hq:q > 0
   ·rw [if_pos hq];have d1:Dn lt (iw p (n - (q+1)) n) n:=hd.rev w (by lia) he.2;have en:gA (iw p (n - (q+1)) n) n=gA p n:=by rw [i8 (by lia),if_neg (by lia)]
    have ca':lt (gA (iw p (n - (q+1)) n) (n - 1)) (gA (iw p (n - (q+1)) n) n)=false:=by
     rw [en,i8 (by lia)];split
     ·-- an item of Z3 Zh is above p n
      exact w.trans _ _ _ ca (hd _ (n - 1) (by lia) (by lia))
     ·exact ca
    obtain⟨p',n',q',z,h2,h3,h4,h5,h6,h7⟩:=ih (iw p (n - (q+1)) n) (n+1) 0 (by rw [oC]; lia) (d1.one w h1 ca') ⟨by lia,fun k k1 k2=>by
     have:k=n:=by lia
     subst this; exact w.refl _⟩
    exact⟨p',n',q',z,h2.trans (lq _ _ _),h3.trans (oC _ _ _),by lia,by lia,h6,h7⟩
   ·rw [if_neg hq];obtain⟨p',n',q',z,h2,h3,h4,h5,h6,h7⟩:=ih p (n+1) 0 (by lia) (hd.one w h1 ca) ⟨by lia,fun k k1 k2=>by
     have:k=n:=by lia
     subst this; exact w.refl _⟩
    exact⟨p',n',q',z,h2,h3,by lia,by lia,h6,h7⟩
  ·rw [if_neg c];have c':lt (gA p n) (gA p (n - 1))=false:=by simpa using c
   by_cases d:lt (gA p (n - 1)) (gA p n)=true
   ·rw [if_pos d];exact⟨p,n,q,rfl,oU _,rfl,aH _,by lia,hd,he⟩
   ·rw [if_neg d];have d':lt (gA p (n - 1)) (gA p n)=false:=by simpa using d
    obtain⟨p',n',q',z,h2,h3,h4,h5,h6,h7⟩:=ih p (n+1) (q+1) (by lia) (hd.one w h1 d') ⟨by have:=he.1; lia,fun k k1 k2=>by
     rw [Nat.add_sub_cancel];by_cases e:k=n
     ·subst e; exact w.refl _
     ·exact w.trans _ _ _ (he.2 k (by lia) (by lia)) c'⟩
    exact⟨p',n',q',z,h2,h3,by lia,by lia,h6,h7⟩
theorem Dn.up{p:Array Nat}{n:Nat}(hn:n<=p.size)(h:Dn lt p n):Up lt (iw p 0 n) n:=by
 intro i j Nx Yr;rw [i8 hn,i8 hn,if_pos ⟨by lia,Yr⟩,if_pos ⟨by lia,by lia⟩];exact h _ _ (by lia) (by lia)
theorem FQ(w:NU lt){p:Array Nat}{n nrem:Nat}(h1:1<=n)(hn:n<=nrem)(hs:nrem<=p.size)(h:Dn lt p n):∃ p' m,i9 lt (Ow n nrem p)=(m,p')/\p'.Perm p/\p'.size=p.size/\n<=m/\m<=nrem/\Up lt p' m:=by
 obtain⟨a1,a2,a3,_⟩:=Lc (lt:=lt) (iw p 0 n) (nrem - n) n;refine⟨iw p 0 n,i9 lt (sk (iw p 0 n) (nrem - n) n),by rw [Ow,oi]; rfl,lq _ _ _,oC _ _ _,a1,by lia,?_⟩;exact(h.up (by lia)).more w h1 a3
theorem vK(w:NU lt){p:Array Nat}{n nrem:Nat}(h1:1<=n)(hn:n < nrem)(hs:nrem<=p.size)(h:Dn lt p n)(hc:lt (gA p (n - 1)) (gA p n)=false) :
  ∃ p' m,i9 lt (zS n nrem p)=(m,p')/\p'.Perm p/\p'.size=p.size/\n<=m/\m<=nrem/\Up lt p' m:=by
 obtain⟨p1,n1,q1,z,z2,z3,z4,z5,z6,z7⟩:=O7 w (nrem - (n+1)) p (n+1) 0 (by lia) (h.one w h1 hc) ⟨by lia,fun k k1 k2=>by
  have:k=n:=by lia
  subst this; exact w.refl _⟩
 rw [zS,oi,z];show ∃ p' m,i9 lt (if q1 > 0 then Ow n1 nrem (iw p1 (n1 - (q1+1)) n1) else Ow n1 nrem p1)=(m,p')/\_;by_cases hq:q1 > 0
 ·rw [if_pos hq];obtain⟨p',m,y1,y2,y3,y4,y5,y6⟩:=FQ (nrem:=nrem) w (p:=iw p1 (n1 - (q1+1)) n1) (by lia) (by lia) (by rw [oC]; lia) (z6.rev w (by lia) z7.2);exact⟨p',m,y1,(y2.trans (lq _ _ _)).trans z2,(y3.trans (oC _ _ _)).trans z3,by lia,y5,y6⟩
 ·rw [if_neg hq];obtain⟨p',m,y1,y2,y3,y4,y5,y6⟩:=FQ (nrem:=nrem) w (p:=p1) (by lia) (by lia) (by lia) z6;exact⟨p',m,y1,y2.trans z2,y3.trans z3,by lia,y5,y6⟩
theorem ML(w:NU lt){p:Array Nat}{nrem:Nat}(h1:1<=nrem)(hs:nrem<=p.size):∃ p' m,i9 lt (kas_count nrem p)=(m,p')/\p'.Perm p/\p'.size=p.size/\1<=m/\m<=nrem/\Up lt p' m:=by
 obtain⟨a1,a2,a3,a4⟩:=Lc (lt:=lt) p (nrem - 1) 1;rw [kas_count,oi];generalize i9 lt (sk p (nrem - 1) 1)=n at a1 a2 a3 a4;have u1:Up lt p 1:=fun i j Nx hj=>by
  have:i=j:=by lia
  subst this; exact w.refl _
 have up:Up lt p n:=u1.more w (aH _) a3;by_cases e:n=nrem
 ·subst e;rw [if_pos (by simp)];exact⟨p,n,rfl,oU _,rfl,a1,aH _,up⟩
 ·rw [if_neg (by simpa using e)];have hb:=a4 (by lia);by_cases h2:n > 1
  ·rw [if_pos h2];show ∃ p' m,i9 lt (if lt (gA p 0) (gA p (n - 1))=true then xp (n,p) else zS n nrem (iw p 0 n))=(m,p')/\_;by_cases c:lt (gA p 0) (gA p (n - 1))=true
   ·rw [if_pos c];exact⟨p,n,rfl,oU _,rfl,a1,by lia,up⟩
   ·rw [if_neg c];have c':lt (gA p 0) (gA p (n - 1))=false:=by simpa using c
    have all:∀ i j,i < n->j < n->lt (gA p i) (gA p j)=false:=fun i j hi hj =>
     w.trans _ _ _ (w.trans _ _ _ (up j (n - 1) (by lia) (by lia)) c') (up 0 i (by lia) hi)
    have d1:Dn lt (iw p 0 n) n:=fun i j Nx hj=>by
     rw [i8 (by lia),i8 (by lia),if_pos ⟨by lia,by lia⟩,if_pos ⟨by lia,hj⟩];exact all _ _ (by lia) (by lia)
    have hl:lt (gA (iw p 0 n) (n - 1)) (gA (iw p 0 n) n)=false:=by
     rw [i8 (by lia),i8 (by lia),if_pos ⟨by lia,by lia⟩,if_neg (by lia)];exact w.trans _ _ _ (w.asymm _ _ hb) (all _ _ (by lia) (by lia))
    obtain⟨p',m,y1,y2,y3,y4,y5,y6⟩:=vK (nrem:=nrem) w (p:=iw p 0 n) a1 (by lia) (by rw [oC]; lia) d1 hl;exact⟨p',m,y1,y2.trans (lq _ _ _),y3.trans (oC _ _ _),by lia,y5,y6⟩
  ·rw [if_neg h2];have e1:n=1:=by lia
   subst e1;have d1:Dn lt p 1:=fun i j Nx hj=>by
    have:i=j:=by lia
    subst this; exact w.refl _
   obtain⟨p',m,y1,y2,y3,y4,y5,y6⟩:=vK (nrem:=nrem) w (p:=p) (aH _) (by lia) hs d1 (w.asymm _ _ hb);exact⟨p',m,y1,y2,y3,by lia,y5,y6⟩
theorem MK(w:NU lt){p:Array Nat}{k:Nat}:∀ (f l r:Nat),l<=r->r<=k->r - l<=f->Up lt p k->(∀ i,i < l->lt (gA p k) (gA p i)=false)->(∀ i,r<=i->i < k->lt (gA p k) (gA p i)=true) ->
  ∃ m,i9 lt (kZ p k f l r)=m/\m<=k/\(∀ i,i < m->lt (gA p k) (gA p i)=false)/\(∀ i,m<=i->i < k->lt (gA p k) (gA p i)=true):=by
 intro f;induction f with
 | zero =>
  intro l r hlr ZF hf up h1 h2;have:l=r:=by lia
  subst this;exact⟨l,rfl,ZF,h1,h2⟩
 | succ f ih =>
  intro l r hlr ZF hf up h1 h2;have e:i9 lt (kZ p k (f+1) l r)=if l>=r then l else if lt (gA p k) (gA p ((l+r) / 2))=true then i9 lt (kZ p k f l ((l+r) / 2)) else i9 lt (kZ p k f ((l+r) / 2+1) r):=by
   show i9 lt (if l>=r then xp l else .ask (gA p k) (gA p ((l+r) / 2)) fun c=>if c=true then kZ p k f l ((l+r) / 2) else kZ p k f ((l+r) / 2+1) r)=_;split
   ·rfl
   ·show i9 lt (if lt (gA p k) (gA p ((l+r) / 2))=true then kZ p k f l ((l+r) / 2) else kZ p k f ((l+r) / 2+1) r)=_;split <;> rfl
  rw [e];by_cases c:l>=r
  ·rw [if_pos c];have:l=r:=by lia
   subst this;exact⟨l,rfl,ZF,h1,h2⟩
  ·rw [if_neg c];by_cases d:lt (gA p k) (gA p ((l+r) / 2))=true
   ·rw [if_pos d];refine ih l ((l+r) / 2) (by lia) (by lia) (by lia) up h1 fun i i1 i2=>?_;cases q:lt (gA p k) (gA p i) with
    | true=>rfl
    | false=>rw [w.trans _ _ _ (up ((l+r) / 2) i i1 i2) q] at d; cases d
   ·rw [if_neg d];refine ih ((l+r) / 2+1) r (by lia) ZF (by lia) up (fun i hi=>?_) h2;exact w.trans _ _ _ (up i ((l+r) / 2) (by lia) (by lia)) (by simpa using d)
theorem C7{p:Array Nat}{src d:Nat}(hs:src < p.size)(hd:d<=src)(k:Nat):gA (bubble p src d) k=if k=src - d then gA p src else if src - d < k/\k<=src then gA p (k - 1) else gA p k:=by
 rw [C6,getElem?_bubble hs d hd,C6 p src,C6 p (k - 1),C6 p k];by_cases h1:k=src - d
 ·rw [if_pos h1,if_pos h1]
 ·rw [if_neg h1,if_neg h1];by_cases h2:src - d < k/\k<=src
  ·rw [if_pos h2,if_pos h2]
  ·rw [if_neg h2,if_neg h2]
theorem Sy(w:NU lt):∀ (f:Nat) (p:Array Nat) (k:Nat),k+f<=p.size->Up lt p k->∃ p',i9 lt (kas_bin f p k)=p'/\p'.Perm p/\p'.size=p.size/\Up lt p' (k+f):=by
 intro f;induction f with
 | zero=>intro p k _ up; exact⟨p,rfl,oU _,rfl,up⟩
 | succ f ih =>
  intro p k hs up;obtain⟨m,e,hm,h1,h2⟩:=MK w k 0 k (cp _) (aH _) (aH _) up (fun i hi=>absurd hi (by lia)) (fun i i1 i2=>absurd i1 (by lia));have up':Up lt (bubble p k (k - m)) (k+1):=by
   intro i j Nx hj;rw [C7 (by lia) (by lia),C7 (by lia) (by lia)];have ek:k - (k - m)=m:=by lia
   rw [ek];by_cases j1:j=m
   ·rw [if_pos j1];by_cases i1:i=m
    ·rw [if_pos i1]; exact w.refl _
    ·rw [if_neg i1,if_neg (by lia)]; exact h1 i (by lia)
   ·rw [if_neg j1];by_cases j2:m < j/\j<=k
    ·rw [if_pos j2];by_cases i1:i=m
     ·rw [if_pos i1]; exact w.asymm _ _ (h2 (j - 1) (by lia) (by lia))
     ·rw [if_neg i1];by_cases i2:m < i/\i<=k
      ·rw [if_pos i2]; exact up _ _ (by lia) (by lia)
      ·rw [if_neg i2]; exact up _ _ (by lia) (by lia)
    ·rw [if_neg j2,if_neg (by lia),if_neg (by lia)]; exact up _ _ Nx (by lia)
  obtain⟨p',z,z1,z2,z3⟩:=ih (bubble p k (k - m)) (k+1) (by rw [bubble_size]; lia) up';refine⟨p',?_,z1.trans (bubble_perm _ _ _),z2.trans (bubble_size _ _ _),by rw [show k+(f+1)=k+1+f by lia]; exact z3⟩;rw [kas_bin,oi,e]; exact z
theorem O5(w:NU lt){n:Nat}(h1:1<=n):∃ p,i9 lt (kas_sort n)=p/\p.toList.Perm (i0 n)/\p.size=n/\Up lt p n:=by
 obtain⟨p,m,z,z1,z2,z3,z4,z5⟩:=ML w (p:=(i0 n).toArray) h1 (by simp);have zs:p.size=n:=by rw [z2]; simp
 have zp:p.toList.Perm (i0 n):=by simpa using z1.toList
 rw [kas_sort,oi,z];show ∃ q,i9 lt (if m < n then kas_bin (n - max m 1) p (max m 1) else .ret p)=q/\_;by_cases c:m < n
 ·rw [if_pos c];have em:max m 1=m:=by lia
  rw [em];obtain⟨p',y,y1,y2,y3⟩:=Sy w (n - m) p m (by lia) z5;exact⟨p',y,(by simpa using y1.toList:p'.toList.Perm p.toList).trans zp,y2.trans zs,by rw [show n=m+(n - m) by lia]; exact y3⟩
 ·rw [if_neg c];have:m=n:=by lia
  subst this;exact⟨p,rfl,zp,zs,z5⟩
end
end K2
end
section
namespace K2
open PySem PySem.Spec PyProof.Rows L2
open PySem.AutoSeq1 (wpAny_loadPart')
open PySem.MeetsSeq PySem.MeetsSeq2 PySem.MeetsSeq3 PySem.SeqAt
def BL(A:dg)(s:aA)(y x:Value)(b:Bool):Prop :=
 ∀ (prog:bE) (w:World) (E:Value->aA->Prop) (Q:Value->aA->Prop),Q (.bool b) s->wpAny (model prog w) A (si .Lt y x) Q E s
def uo(e l:Nat->Bool)(n m:Nat):Nat->Nat->Bool
 | 0,_=>decide (n < m)
 | f+1,i=>if e i=true then uo e l n m f (i+1) else l i
theorem Tg(l b:Addr)(xs ys:Array Value)(n m:Nat)(dd de:Option Addr)(sl sm:Array (Option Value))(e lt:Nat->Bool)(k:Nat) :
  ∀ i:Nat,i<=min xs.size ys.size->min xs.size ys.size - i=k->Meets (Builtin.«list.__eq__.loop» ⟨[.ref l,.ref b,vo i,vo 0],[]⟩)
   (fun A R s=>s.heap.get? l=some { cls:=.type "list",dict:=dd,data:=.seq xs n,slots:=sl }/\s.heap.get? b=some { cls:=.type "list",dict:=de,data:=.seq ys m,slots:=sm } /\
    (∀ j (h1:j < xs.size) (h2:j < ys.size),EqAt A.in1 s xs[j] ys[j] (e j)/\BL A.in1 s xs[j] ys[j] (lt j)) /\
    R (.ok (.ret (.bool (uo e lt xs.size ys.size k i)))) s):=by
 induction k with
 | zero =>
  intro i hi hk prog w A R s h;obtain⟨hp,g,d,tk,os⟩:=s;obtain⟨hl,hb,he,h⟩:=h
  wp_walk using ck hl,ck hb
  by_cases c:xs.size<=ys.size
  ·have h1:xs[((i:Nat):Int).toNat]?=none:=by simp; lia
   rw [h1]
   wp_walk using ck hl,ck hb
   exact h
  ·have h2:ys[((i:Nat):Int).toNat]?=none:=by simp; lia
   rw [h2];cases q:xs[((i:Nat):Int).toNat]? with
   | none =>
    wp_walk using ck hl,ck hb
    exact h
   | some v =>
    wp_walk using ck hl,ck hb
    exact h
 | succ k ih =>
  intro i hi hk prog w A R s h;obtain⟨hp,g,d,tk,os⟩:=s;obtain⟨hl,hb,he,h⟩:=h
  wp_walk using ck hl,ck hb
  have l1:i < xs.size:=by lia
  have l2:i < ys.size:=by lia
  have h1:xs[((i:Nat):Int).toNat]?=some xs[i]:=by simp [l1]
  have h2:ys[((i:Nat):Int).toNat]?=some ys[i]:=by simp [l2]
  have hc:((i:Int)+1)=((i+1:Nat):Int):=by push_cast; rfl
  rw [h1,h2];refine ah ((he i l1 l2).1 prog w _ _ ?_);cases q:e i with
  | true =>
   rw [uo,q,if_pos rfl] at h
   wp_walk
   rw [hc];exact⟨lC plain_eq_loop _,k0 entry_eq_loop (by
    rw [gJ plain_eq_loop _];exact ih (i+1) (by lia) (by lia) prog w A R _ ⟨hl,hb,he,h⟩)⟩
  | false =>
   rw [uo,q,if_neg (by simp)] at h
   wp_walk using ck hl,ck hb
   rw [h1,h2];have Yh:=(he i l1 l2).2 prog w
   wp_walk using Yh
   exact h
theorem CW(l b:Addr)(xs ys:Array Value)(n m:Nat)(dd de:Option Addr)(sl sm:Array (Option Value))(e lt:Nat->Bool) :
  Meets (Builtin.«list.__lt__» ⟨[.ref l,.ref b],[]⟩)
   (fun A R s=>s.heap.get? l=some { cls:=.type "list",dict:=dd,data:=.seq xs n,slots:=sl }/\s.heap.get? b=some { cls:=.type "list",dict:=de,data:=.seq ys m,slots:=sm } /\
    (∀ j (h1:j < xs.size) (h2:j < ys.size),EqAt A.in1 s xs[j] ys[j] (e j)/\BL A.in1 s xs[j] ys[j] (lt j)) /\
    R (.ok (.ret (.bool (uo e lt xs.size ys.size (min xs.size ys.size) 0)))) s):=by
 intro prog w A R s h;obtain⟨hp,g,d,tk,os⟩:=s;obtain⟨hl,hb,he,h⟩:=h;have f3:=IU
 wp_walk using ck hl,ck hb
 exact⟨lC plain_eq_loop _,k0 entry_eq_loop (by
  rw [gJ plain_eq_loop _];exact Tg l b xs ys n m dd de sl sm e lt _ 0 (cp _) rfl prog w A R _ ⟨hl,hb,he,h⟩)⟩
theorem z0(l b:Addr)(xs ys:Array Value)(n m:Nat)(dd de:Option Addr)(sl sm:Array (Option Value))(e lt:Nat->Bool) :
  Meets (Builtin.«tuple.__lt__» ⟨[.ref l,.ref b],[]⟩)
   (fun A R s=>s.heap.get? l=some { cls:=.type "tuple",dict:=dd,data:=.seq xs n,slots:=sl }/\s.heap.get? b=some { cls:=.type "tuple",dict:=de,data:=.seq ys m,slots:=sm } /\
    (∀ j (h1:j < xs.size) (h2:j < ys.size),EqAt A.in1 s xs[j] ys[j] (e j)/\BL A.in1 s xs[j] ys[j] (lt j)) /\
    R (.ok (.ret (.bool (uo e lt xs.size ys.size (min xs.size ys.size) 0)))) s) :=
 .of_wp fun prog w A R s h=>by
  obtain⟨hp,g,d,tk,os⟩:=s;obtain⟨hl,hb,he,h⟩:=h;have f2:=rG;have zl:(xs.toList.zip ys.toList).length=min xs.size ys.size:=by simp
  wp_walk using ck hl,ck hb,mO _ (fun rest c s'=>c.1=none/\s'=⟨hp,g,d,tk,os⟩/\∃ i,i<=min xs.size ys.size/\rest=(xs.toList.zip ys.toList).drop i /\
   R (.ok (.ret (.bool (uo e lt xs.size ys.size (min xs.size ys.size - i) i)))) ⟨hp,g,d,tk,os⟩) _
  case turn =>
   rintro⟨y,x⟩ rest c s' ⟨hc,rfl,i,hi,hz,hR⟩;have il:i < min xs.size ys.size:=by
    have:=congrArg cM hz;rw [cP,zl,ai] at this;lia
   have l1:i < xs.size:=by lia
   have l2:i < ys.size:=by lia
   rw [iJ (by rw [zl]; exact il)] at hz;injection hz with hyx Qz
   have ey:y=xs[i]/\x=ys[i]:=by simpa using hyx
   obtain⟨rfl,rfl⟩:=ey;obtain⟨k,ek⟩:∃ k,min xs.size ys.size - i=k+1:=⟨min xs.size ys.size - i - 1,by lia⟩;rw [ek,uo] at hR;refine ah ((he i l1 l2).1 prog w _ _ ?_);cases q:e i with
   | true =>
    rw [q,if_pos rfl] at hR
    wp_walk
    exact⟨rfl,rfl,i+1,by lia,Qz,by rw [show min xs.size ys.size - (i+1)=k by lia]; exact hR⟩
   | false =>
    rw [q,if_neg (by simp)] at hR;have Yh:=(he i l1 l2).2 prog w
    wp_walk using Yh
    exact⟨_,rfl,by simpa using hR⟩
  case fin =>
   rintro⟨c1,c2⟩ s' ⟨hc,rfl,i,hi,hz,hR⟩;simp only at hc;subst hc;have il:min xs.size ys.size - i=0:=by
    have:=congrArg cM hz;rw [cP,zl,aB] at this;lia
   rw [il,uo] at hR
   wp_walk
   exact⟨_,rfl,by simpa [vr] using hR⟩
  case h =>
   exact⟨rfl,rfl,0,cp _,rfl,by simpa using h⟩
theorem M6{A:dg}{s:aA}{l b:Addr}{xs ys:Array Value}{e lt:Nat->Bool}(hl:s.heap.IsList l xs)(hb:s.heap.IsList b ys)(hu:A.units < cLine)
  (he:∀ j (h1:j < xs.size) (h2:j < ys.size),EqAt A.in1 s xs[j] ys[j] (e j)/\BL A.in1 s xs[j] ys[j] (lt j)):BL A s (.ref l) (.ref b) (uo e lt xs.size ys.size (min xs.size ys.size) 0):=by
 intro prog w E Q hq;obtain⟨⟨cls,dd,data,sl⟩,ho,hc,n,hd⟩:=id hl;obtain⟨⟨Rk,Fo,data2,La⟩,C3,BY,n2,hd2⟩:=id hb;simp only at hc hd BY hd2;subst hc hd BY hd2;exact y8 (op:=.Lt) ⟨_,ho,rfl⟩ ⟨_,C3,rfl⟩ vp Mq (KN _ _) (CW l b xs ys n n2 dd Fo sl La e lt)
  ⟨ho,C3,he,(fun x=>nomatch x),hq⟩ hu
theorem JJ{A:dg}{s:aA}{l b:Addr}{xs ys:Array Value}{e lt:Nat->Bool}(hl:s.heap.IsTuple l xs)(hb:s.heap.IsTuple b ys)(hu:A.units < cLine)
  (he:∀ j (h1:j < xs.size) (h2:j < ys.size),EqAt A.in1 s xs[j] ys[j] (e j)/\BL A.in1 s xs[j] ys[j] (lt j)):BL A s (.ref l) (.ref b) (uo e lt xs.size ys.size (min xs.size ys.size) 0):=by
 intro prog w E Q hq;obtain⟨⟨cls,dd,data,sl⟩,ho,hc,n,hd⟩:=id hl;obtain⟨⟨Rk,Fo,data2,La⟩,C3,BY,n2,hd2⟩:=id hb;simp only at hc hd BY hd2;subst hc hd BY hd2;exact y8 (op:=.Lt) ⟨_,ho,rfl⟩ ⟨_,C3,rfl⟩ nI ui (sA _ _) (z0 l b xs ys n n2 dd Fo sl La e lt)
  ⟨ho,C3,he,(fun x=>nomatch x),hq⟩ hu
theorem qy(xs ys:List D):∀ (k i:Nat),i<=min xs.length ys.length->min xs.length ys.length - i=k ->
  uo (fun j=>jj (xs.getD j .fg) (ys.getD j .fg)) (fun j=>qJ (xs.getD j .fg) (ys.getD j .fg)) xs.length ys.length k i=nR (xs.drop i) (ys.drop i)
 | 0,i,hi,hk=>by
  rw [uo];by_cases c:xs.length<=ys.length
  ·have e1:xs.drop i=[]:=nK (by lia);rw [e1];cases q:ys.drop i with
   | nil =>
    have:=congrArg cM q;rw [cP,aB] at this;exact decide_eq_false (by lia)
   | cons y r =>
    have:=congrArg cM q;rw [cP,ai] at this;exact decide_eq_true (by lia)
  ·have e1:ys.drop i=[]:=nK (by lia);rw [e1];cases q:xs.drop i with
   | nil =>
    have:=congrArg cM q;rw [cP,aB] at this;exact decide_eq_false (by lia)
   | cons y r=>exact decide_eq_false (by lia)
 | k+1,i,hi,hk=>by
  have l1:i < xs.length:=by lia
  have l2:i < ys.length:=by lia
  rw [uo,iJ l1,iJ l2,oI,qy xs ys k (i+1) (by lia) (by lia)];have g1:xs.getD i .fg=xs[i]:=by rw [cT,aC l1]; rfl
  have g2:ys.getD i .fg=ys[i]:=by rw [cT,aC l2]; rfl
  rw [g1,g2]
theorem lr{h:Heap}:∀ {ds:List D} {vs:List Value} {as:List Addr},iT h vs (oZ ds) as->∀ j (hj:j < vs.length),∃ bs,Reads h vs[j] (pd (ds.getD j .fg)) bs
 | [],vs,as,r,j,hj=>by cases r; exact absurd hj (xn _)
 | d :: ds,_,_,.cons (v:=v) (vs:=vs) r1 r2,j,hj=>by
  cases j with
  | zero=>exact⟨_,r1⟩
  | succ j=>exact lr r2 j (by simpa using hj)
theorem readsAll_len{h:Heap}:∀ {ds:List D} {vs:List Value} {as:List Addr},iT h vs (oZ ds) as->vs.length=ds.length
 | [],_,_,r=>by cases r; rfl
 | d :: ds,_,_,.cons r1 r2=>by rw [ai,ai,readsAll_len r2]
theorem qW:∀ {ds:List D},sX ds=true->∀ j,nr (ds.getD j .fg)=true
 | [],_,j=>by rw [List.getD_nil]; rfl
 | d :: ds,h,0=>by
  have h:(nr d&&sX ds)=true:=h;rw [aK] at h; simpa using h.1
 | d :: ds,h,j+1=>by
  have h:(nr d&&sX ds)=true:=h;rw [aK] at h; simpa using qW h.2 j
theorem mI:∀ (ds:List D) (j:Nat),(pd (ds.getD j .fg)).depth<=cF (oZ ds)
 | [],j=>by rw [List.getD_nil]; exact aH _
 | d :: ds,0=>by
  show (pd d).depth<=cF (pd d :: oZ ds);simp only [cF]; lia
 | d :: ds,j+1=>by
  have:=mI ds j;show (pd (ds.getD j .fg)).depth<=cF (pd d :: oZ ds);simp only [cF]; lia
theorem tf:∀ {l:List pE} {ds:List D},fQ l ds=true->∀ j,j < ds.length->∃ s∈l,cZ s (ds.getD j .fg)=true/\l[j]?=some s
 | [],[],_,j,hj=>absurd hj (xn _)
 | [],_ :: _,h,_,_=>by cases h
 | _ :: _,[],h,_,_=>by cases h
 | s :: l,d :: ds,h,0,_=>by
  have h:(cZ s d&&fQ l ds)=true:=h;rw [aK] at h;exact⟨s,by simp,by simpa using h.1,by simp⟩
 | s :: l,d :: ds,h,j+1,hj=>by
  have h:(cZ s d&&fQ l ds)=true:=h;rw [aK] at h;obtain⟨s',h1,h2,h3⟩:=tf h.2 j (by simpa using hj);exact⟨s',aJ _ h1,by simpa using h2,by simpa using h3⟩
theorem tj:∀ {s:pE} {ds:List D},iD s ds=true->∀ j,j < ds.length->cZ s (ds.getD j .fg)=true
 | s,[],_,j,hj=>absurd hj (xn _)
 | s,d :: ds,h,0,_=>by
  have h:(cZ s d&&iD s ds)=true:=h;rw [aK] at h; simpa using h.1
 | s,d :: ds,h,j+1,hj=>by
  have h:(cZ s d&&iD s ds)=true:=h;rw [aK] at h; simpa using tj h.2 j (by simpa using hj)
theorem EF{A:dg}{s:aA}{xs ys:List D}{vs ws:Array Value}{as bs:List Addr}(r1:iT s.heap vs.toList (oZ xs) as)(r2:iT s.heap ws.toList (oZ ys) bs)(n1:sX xs=true)(n2:sX ys=true)
  (hu:A.units+cF (oZ xs) < cLine) (j:Nat) (h1:j < vs.size) (h2:j < ws.size):EqAt A s vs[j] ws[j] (jj (xs.getD j .fg) (ys.getD j .fg)):=by
 obtain⟨Y1,q1⟩:=lr r1 j (by simpa using h1);obtain⟨Y0,q2⟩:=lr r2 j (by simpa using h2);have m1:=qW n1 j;have m2:=qW n2 j;have dp:=mI xs j;have:=eqAt_reads (pd (xs.getD j .fg)) (pd (ys.getD j .fg)) A s _ _ _ _ q1 q2 (lX _ m1) (lX _ m2) (by lia);rw [xU _ _ m1 m2] at this;simpa using this
theorem A1:∀ (n:Nat) (sh:pE) (a b:D) (A:dg) (s:aA) (u v:Value) (as bs:List Addr),(pd a).depth<=n->cZ sh a=true->cZ sh b=true->nr a=true->nr b=true->Reads s.heap u (pd a) as->Reads s.heap v (pd b) bs->A.units+n < cLine->BL A s u v (qJ a b):=by
 intro n;induction n using Nat.strongRecOn with
 | _ n ih =>
 intro sh a b A s u v as bs hn h1 h2 n1 n2 r1 r2 hu;cases sh with
 | int =>
  first | obtain⟨_,rfl⟩:=dS h1 | obtain⟨_,rfl⟩:=dP h1 | obtain⟨_,rfl⟩:=dQ h1
  first | obtain⟨_,rfl⟩:=dS h2 | obtain⟨_,rfl⟩:=dP h2 | obtain⟨_,rfl⟩:=dQ h2
  cases r1; cases r2;intro prog w E Q hq;exact HT.Aw A s _ _ _ _ prog w E Q hq
 | tup l =>
  first | obtain⟨_,rfl⟩:=dS h1 | obtain⟨_,rfl⟩:=dP h1 | obtain⟨_,rfl⟩:=dQ h1
  first | obtain⟨_,rfl⟩:=dS h2 | obtain⟨_,rfl⟩:=dP h2 | obtain⟨_,rfl⟩:=dQ h2
  rename_i xs ys;have n1:sX xs=true:=n1;have n2:sX ys=true:=n2;cases r1 with
  | tuple k1 k2 k3 k4 =>
   cases r2 with
   | tuple m1 m2 m3 m4 =>
    rename_i p o vs c p' o' ws c';have hd:(pd (.tup xs)).depth=cF (oZ xs)+1:=rfl;obtain⟨n',rfl⟩:∃ n',n=n'+1:=⟨n - 1,by lia⟩;have z1:=readsAll_len k4;have z2:=readsAll_len m4;have e1:vs.size=xs.length:=by simpa using z1
    have e2:ws.size=ys.length:=by simpa using z2
    have base:=JJ (A:=A) (s:=s) (e:=fun j=>jj (xs.getD j .fg) (ys.getD j .fg)) (lt:=fun j=>qJ (xs.getD j .fg) (ys.getD j .fg)) ⟨_,k1,k2,_,k3⟩ ⟨_,m1,m2,_,m3⟩ (by lia) (fun j j1 j2=>by
     refine⟨EF k4 m4 n1 n2 (by show A.units+1+_ < _; lia) j j1 j2,?_⟩;obtain⟨Y1,q1⟩:=lr k4 j (by simpa using j1);obtain⟨Y0,q2⟩:=lr m4 j (by simpa using j2);obtain⟨sj,hsj,g1,g2⟩:=tf (l:=l) (ds:=xs) h1 j (by lia);obtain⟨sj',aa3,g1',YM⟩:=tf (l:=l) (ds:=ys) h2 j (by lia);rw [g2] at YM; cases YM;have dp:=mI xs j;have:=ih n' (by lia) sj (xs.getD j .fg) (ys.getD j .fg) A.in1 s _ _ _ _ (by lia) g1 g1' (qW n1 j) (qW n2 j) q1 q2 (by show A.units+1+n' < cLine; lia);simpa using this)
    have fin:=qy xs ys (min xs.length ys.length) 0 (cp _) rfl;rw [e1,e2,fin] at base;exact base
 | lst l =>
  first | obtain⟨_,rfl⟩:=dS h1 | obtain⟨_,rfl⟩:=dP h1 | obtain⟨_,rfl⟩:=dQ h1
  first | obtain⟨_,rfl⟩:=dS h2 | obtain⟨_,rfl⟩:=dP h2 | obtain⟨_,rfl⟩:=dQ h2
  rename_i xs ys;have n1:sX xs=true:=n1;have n2:sX ys=true:=n2;cases r1 with
  | list k1 k2 k3 k4 =>
   cases r2 with
   | list m1 m2 m3 m4 =>
    rename_i p o vs c p' Y1 o' ws c' Y0;have hd:(pd (.dN xs)).depth=cF (oZ xs)+1:=rfl;obtain⟨n',rfl⟩:∃ n',n=n'+1:=⟨n - 1,by lia⟩;have z1:=readsAll_len k4;have z2:=readsAll_len m4;have e1:vs.size=xs.length:=by simpa using z1
    have e2:ws.size=ys.length:=by simpa using z2
    have base:=M6 (A:=A) (s:=s) (e:=fun j=>jj (xs.getD j .fg) (ys.getD j .fg)) (lt:=fun j=>qJ (xs.getD j .fg) (ys.getD j .fg)) ⟨_,k1,k2,_,k3⟩ ⟨_,m1,m2,_,m3⟩ (by lia) (fun j j1 j2=>by
     refine⟨EF k4 m4 n1 n2 (by show A.units+1+_ < _; lia) j j1 j2,?_⟩;obtain⟨Y1,q1⟩:=lr k4 j (by simpa using j1);obtain⟨Y0,q2⟩:=lr m4 j (by simpa using j2);have dp:=mI xs j;have:=ih n' (by lia) l (xs.getD j .fg) (ys.getD j .fg) A.in1 s _ _ _ _ (by lia) (tj (s:=l) (ds:=xs) h1 j (by lia)) (tj (s:=l) (ds:=ys) h2 j (by lia)) (qW n1 j) (qW n2 j) q1 q2 (by show A.units+1+n' < cLine; lia);simpa using this)
    have fin:=qy xs ys (min xs.length ys.length) 0 (cp _) rfl;rw [e1,e2,fin] at base;exact base
end K2
end
section
namespace K2
open PySem PySem.Spec PyProof.Rows L2 PySem.W
section
variable {prog:bE} {w:World} {A:dg} {E:Value->aA->Prop} {s:aA}
theorem O0 {at':Addr} {bQ:List Value} {n:Nat} {P:PySem.Fin->aA->Prop} (NB:s.heap.get? at'=some (zQ "list" bQ.toArray n)) (EA:bQ.length < 2)
  (done:P (.done (.ret .none)) { s with heap:=sortedHeap s.heap at' bQ bQ.toArray }):wpAny (model prog w) A (Builtin.«list.sort» ⟨[.ref at'],[]⟩) P E s:=by
 rw [list_sort_plain];have lt':at' < s.heap.objs.size:=aP NB;refine ah (listItems_at NB rfl (ah (listUpdate_at NB rfl ?_)));obtain⟨c,hc⟩:∃ c,(s.heap.update at' (jP fun _=>#[])).get? at'=some (zQ "list" #[] c):=⟨_,get?_update_seq NB (fun _=>#[])⟩;refine ah (seqEpoch_at hc rfl (ah (R8 (ah (wpAny_newList (cG ?_))))));have h6:(((s.heap.update at' (jP fun _=>#[])).push (zQ "tuple" bQ.toArray 0)).push (zQ "list" #[] 0)).get? at'=some (zQ "list" #[] c):=by
  rw [Heap.get?_push_ne _ _ _ (by rw [size_push',Fe]; exact bu (uk lt')),Heap.get?_push_ne _ _ _ (by rw [Fe]; exact bu lt')];exact hc
 show wpAny (model prog w) A _ P E { s with heap:=((s.heap.update at' (jP fun _=>#[])).push (zQ "tuple" bQ.toArray 0)).push (zQ "list" #[] 0) };dsimp only;have sz2:bQ.toArray.size < 2:=by simpa using EA
 rw [if_pos sz2,if_pos sz2];refine ah (az ?_);rw [StateT.run_pure];refine ah (az ?_);dsimp only;have es:(bQ.toArray.zip bQ.toArray).map (·.2)=bQ.toArray:=by
  apply Array.toList_inj.mp;simp [List.map_snd_zip]
 refine ah (seqEpoch_at h6 rfl (ah (listUpdate_at h6 rfl ?_ (hsz2:=by rw [show (arrOf (SortSt.mk' general' (bQ.toArray.zip bQ.toArray) #[] 7 none)).map (·.2)=bQ.toArray from es,cV]; simp; lia))));simp only [bne_self_eq_false,ay,if_false];refine az ?_;rw [show (arrOf (SortSt.mk' general' (bQ.toArray.zip bQ.toArray) #[] 7 none)).map (·.2)=bQ.toArray from es];exact done
theorem Jd{l:Addr}{bQ:List Value}{Q:Value->aA->Prop}(hl:s.heap.IsList l bQ.toArray)(EA:bQ.length < 2)
  (done:Q (.ref (s.heap.objs.size+1)) { s with heap:=sortedAll s.heap bQ bQ.toArray }):wpAny (model prog w) A (call (.builtin "sorted") [.ref l]) Q E s:=by
 refine IS kind_sorted plain_sorted entry_sorted (args_sorted1 _) ?_;unfold Builtin.«sorted»;refine ah (m:=checkCount "sorted" 1 1 _) (az (ah (collect_list hl (ah (wpAny_newList ?_)))));have e1:((s.heap.push (zQ "list" #[] 0)).update s.heap.objs.size (jP (·++bQ.toArray))).objs.size=s.heap.objs.size+1:=by rw [Fe,size_push']
 have e2:(((s.heap.push (zQ "list" #[] 0)).update s.heap.objs.size (jP (·++bQ.toArray))).push (zQ "list" bQ.toArray 0)).get? (s.heap.objs.size+1)=some (zQ "list" bQ.toArray 0):=by
  rw [<-e1]; exact bc _ rfl
 show wpAny _ _ _ _ _ { s with heap:=((s.heap.push (zQ "list" #[] 0)).update s.heap.objs.size (jP (·++bQ.toArray))).push (zQ "list" bQ.toArray 0) };rw [e1];refine ah (cG (cQ slot_list_sort ⟨_,e2,rfl⟩ entry_list_sort (O0 e2 EA ⟨_,rfl,?_⟩) (args_list_sort _)));exact az ⟨_,rfl,done⟩
end
section
open PySem.SeqAt
def RA(A:dg)(s:aA)(y x:Value)(b:Bool):Prop :=
 ∀ (prog:bE) (w:World) (E:Value->aA->Prop) (Q:Bool->aA->Prop),Q b s->wpAny (model prog w) A (oneLt' true y x) Q E s
theorem Js{A:dg}{s:aA}{l b:Addr}{xs ys:Array Value}{e lt:Nat->Bool}(hl:s.heap.IsList l xs)(hb:s.heap.IsList b ys)(hu:A.units < cLine)
  (he:∀ j (h1:j < xs.size) (h2:j < ys.size),EqAt A.in1 s xs[j] ys[j] (e j)/\BL A.in1 s xs[j] ys[j] (lt j)):RA A s (.ref l) (.ref b) (uo e lt xs.size ys.size (min xs.size ys.size) 0):=by
 intro prog w E Q hq;obtain⟨⟨cls,dd,data,sl⟩,ho,hc,n,hd⟩:=id hl;obtain⟨⟨Rk,Fo,data2,La⟩,C3,BY,n2,hd2⟩:=id hb;simp only at hc hd BY hd2;subst hc hd BY hd2;rw [oneLt'_eq];simp only [if_true];refine ah (wpAny_cRoomFor hu (ah (KC (T:="list") ⟨_,ho,rfl⟩ vp ?_)));exact IG vp ⟨_,ho,rfl⟩ Mq (KN _ _) (CW l b xs ys n n2 dd Fo sl La e lt) ⟨ho,C3,he,pL hq⟩
theorem Gn{A:dg}{s:aA}{l b:Addr}{xs ys:Array Value}{e lt:Nat->Bool}(hl:s.heap.IsTuple l xs)(hb:s.heap.IsTuple b ys)(hu:A.units < cLine)
  (he:∀ j (h1:j < xs.size) (h2:j < ys.size),EqAt A.in1 s xs[j] ys[j] (e j)/\BL A.in1 s xs[j] ys[j] (lt j)):RA A s (.ref l) (.ref b) (uo e lt xs.size ys.size (min xs.size ys.size) 0):=by
 intro prog w E Q hq;obtain⟨⟨cls,dd,data,sl⟩,ho,hc,n,hd⟩:=id hl;obtain⟨⟨Rk,Fo,data2,La⟩,C3,BY,n2,hd2⟩:=id hb;simp only at hc hd BY hd2;subst hc hd BY hd2;rw [oneLt'_eq];simp only [if_true];refine ah (wpAny_cRoomFor hu (ah (KC (T:="tuple") ⟨_,ho,rfl⟩ nI ?_)));exact IG nI ⟨_,ho,rfl⟩ ui (sA _ _) (z0 l b xs ys n n2 dd Fo sl La e lt) ⟨ho,C3,he,pL hq⟩
theorem GW{n:Nat}{A:dg}{s:aA}{xs ys:List D}{vs ws:Array Value}{as bs:List Addr}(r1:iT s.heap vs.toList (oZ xs) as)(r2:iT s.heap ws.toList (oZ ys) bs)(n1:sX xs=true)(n2:sX ys=true)(hd:cF (oZ xs)<=n)
  (hu:A.units+n < cLine) (hs:∀ j,j < xs.length->j < ys.length->∃ sh,cZ sh (xs.getD j .fg)=true/\cZ sh (ys.getD j .fg)=true) (j:Nat) (h1:j < vs.size) (h2:j < ws.size) :
  EqAt A s vs[j] ws[j] (jj (xs.getD j .fg) (ys.getD j .fg))/\BL A s vs[j] ws[j] (qJ (xs.getD j .fg) (ys.getD j .fg)):=by
 have z1:=readsAll_len r1;have z2:=readsAll_len r2;have e1:vs.size=xs.length:=by simpa using z1
 have e2:ws.size=ys.length:=by simpa using z2
 refine⟨EF r1 r2 n1 n2 (by lia) j h1 h2,?_⟩;obtain⟨Y1,q1⟩:=lr r1 j (by simpa using h1);obtain⟨Y0,q2⟩:=lr r2 j (by simpa using h2);obtain⟨sh,g1,g2⟩:=hs j (by lia) (by lia);have dp:=mI xs j;have:=A1 n sh (xs.getD j .fg) (ys.getD j .fg) A s _ _ _ _ (by lia) g1 g2 (qW n1 j) (qW n2 j) q1 q2 hu;simpa using this
theorem yE{n:Nat}{sh:pE}{a b:D}{A:dg}{s:aA}{u v:Value}{as bs:List Addr}(hn:(pd a).depth<=n)(h1:cZ sh a=true)(h2:cZ sh b=true)(n1:nr a=true)(n2:nr b=true)(r1:Reads s.heap u (pd a) as)(r2:Reads s.heap v (pd b) bs)
  (hu:A.units+n < cLine):RA A s u v (qJ a b):=by
 cases sh with
 | int =>
  first | obtain⟨_,rfl⟩:=dS h1 | obtain⟨_,rfl⟩:=dP h1 | obtain⟨_,rfl⟩:=dQ h1
  first | obtain⟨_,rfl⟩:=dS h2 | obtain⟨_,rfl⟩:=dP h2 | obtain⟨_,rfl⟩:=dQ h2
  cases r1; cases r2;intro prog w E Q hq;exact oneLt_int hq
 | tup l =>
  first | obtain⟨_,rfl⟩:=dS h1 | obtain⟨_,rfl⟩:=dP h1 | obtain⟨_,rfl⟩:=dQ h1
  first | obtain⟨_,rfl⟩:=dS h2 | obtain⟨_,rfl⟩:=dP h2 | obtain⟨_,rfl⟩:=dQ h2
  rename_i xs ys;have n1:sX xs=true:=n1;have n2:sX ys=true:=n2;cases r1 with
  | tuple k1 k2 k3 k4 =>
   cases r2 with
   | tuple m1 m2 m3 m4 =>
    rename_i p o vs c p' o' ws c';have hd:(pd (.tup xs)).depth=cF (oZ xs)+1:=rfl;obtain⟨n',rfl⟩:∃ n',n=n'+1:=⟨n - 1,by lia⟩;have z1:=readsAll_len k4;have z2:=readsAll_len m4;have e1:vs.size=xs.length:=by simpa using z1
    have e2:ws.size=ys.length:=by simpa using z2
    have base:=Gn (A:=A) (s:=s) ⟨_,k1,k2,_,k3⟩ ⟨_,m1,m2,_,m3⟩ (by lia) (GW (A:=A.in1) (n:=n') k4 m4 n1 n2 (by lia) (by show A.units+1+n' < cLine; lia) fun j j1 j2=>by
     obtain⟨sj,hsj,g1,g2⟩:=tf (l:=l) (ds:=xs) h1 j j1;obtain⟨sj',aa3,g1',YM⟩:=tf (l:=l) (ds:=ys) h2 j j2;rw [g2] at YM; cases YM;exact⟨sj,g1,g1'⟩)
    have fin:=qy xs ys (min xs.length ys.length) 0 (cp _) rfl;rw [e1,e2,fin] at base;exact base
 | lst l =>
  first | obtain⟨_,rfl⟩:=dS h1 | obtain⟨_,rfl⟩:=dP h1 | obtain⟨_,rfl⟩:=dQ h1
  first | obtain⟨_,rfl⟩:=dS h2 | obtain⟨_,rfl⟩:=dP h2 | obtain⟨_,rfl⟩:=dQ h2
  rename_i xs ys;have n1:sX xs=true:=n1;have n2:sX ys=true:=n2;cases r1 with
  | list k1 k2 k3 k4 =>
   cases r2 with
   | list m1 m2 m3 m4 =>
    rename_i p o vs c p' Y1 o' ws c' Y0;have hd:(pd (.dN xs)).depth=cF (oZ xs)+1:=rfl;obtain⟨n',rfl⟩:∃ n',n=n'+1:=⟨n - 1,by lia⟩;have z1:=readsAll_len k4;have z2:=readsAll_len m4;have e1:vs.size=xs.length:=by simpa using z1
    have e2:ws.size=ys.length:=by simpa using z2
    have base:=Js (A:=A) (s:=s) ⟨_,k1,k2,_,k3⟩ ⟨_,m1,m2,_,m3⟩ (by lia) (GW (A:=A.in1) (n:=n') k4 m4 n1 n2 (by lia) (by show A.units+1+n' < cLine; lia) fun j j1 j2=>⟨l,tj (s:=l) (ds:=xs) h1 j j1,tj (s:=l) (ds:=ys) h2 j j2⟩);have fin:=qy xs ys (min xs.length ys.length) 0 (cp _) rfl;rw [e1,e2,fin] at base;exact base
theorem Ej{prog:bE}{w:World}{A:dg}{s:aA}{b fin:Bool}{Q:Bool->aA->Prop}{n:Nat}(hu:A.units+n < cLine):∀ (l:List pE) (xs ys:List D) (vs ws:List Value) (as bs:List Addr) (i:Nat),fQ l xs=true->fQ l ys=true->sX xs=true->sX ys=true ->
  iT s.heap vs (oZ xs) as->iT s.heap ws (oZ ys) bs->cF (oZ xs)<=n->fin=false->Q (nR xs ys) s->KatLex prog w A b fin Q (vs.zip ws) i s:=by
 intro l xs;induction xs generalizing l with
 | nil =>
  intro ys vs ws as bs i h1 h2 n1 n2 r1 r2 hd hf hq;cases r1;cases l with
  | nil =>
   cases ys with
   | nil=>cases r2; subst hf; exact hq
   | cons _ _=>cases h2
  | cons _ _=>cases h1
 | cons x xs ih =>
  intro ys vs ws as bs i h1 h2 n1 n2 r1 r2 hd hf hq;cases l with
  | nil=>cases h1
  | cons sh l =>
  cases ys with
  | nil=>cases h2
  | cons y ys =>
  cases r1 with
  | @cons v vs _ _ _ _ a1 a2 =>
  cases r2 with
  | @cons u ws _ _ _ _ b1 b2 =>
  have h1:(cZ sh x&&fQ l xs)=true:=h1;have h2:(cZ sh y&&fQ l ys)=true:=h2;have n1:(nr x&&sX xs)=true:=n1;have n2:(nr y&&sX ys)=true:=n2;rw [aK] at h1 h2 n1 n2;have YC:(pd x).depth<=n/\cF (oZ xs)<=n:=by
   have hd:cF (pd x :: oZ xs)<=n:=hd;simp only [cF] at hd;lia
  show KatLex prog w A b fin Q ((v,u) :: vs.zip ws) i s;have eq:=eqAt_reads (pd x) (pd y) A s _ _ _ _ a1 b1 (lX _ n1.1) (lX _ n2.1) (by lia);rw [xU _ _ n1.1 n2.1] at eq;refine kat_cons (eq prog w _ _ ?_);rw [oI] at hq;cases q:jj x y with
  | true =>
   rw [q,if_pos rfl] at hq;exact kat_yes (ih l ys vs ws _ _ (i+1) h1.2 h2.2 n1.2 n2.2 a2 b2 YC.2 hf hq)
  | false =>
   rw [q,if_neg (by simp)] at hq;refine kat_no ?_;cases c:(b&&i == 0) with
   | true=>exact yE YC.1 h1.1 h2.1 n1.1 n2.1 a1 b1 hu prog w _ Q hq
   | false=>exact kat_one v u (A1 n sh x y A s _ _ _ _ YC.1 h1.1 h2.1 n1.1 n2.1 a1 b1 hu prog w _ _ hq)
end
def mL{α:Type}(n:Nat)(P:α->Prop):KasT α->Prop
 | .ret a=>P a
 | .ask i j k=>i < n/\j < n/\∀ b,mL n P (k b)
theorem mL.bind{α β:Type}{n:Nat}{P:α->Prop}{P':β->Prop}{f:α->KasT β}:∀ {t:KasT α},mL n P t->(∀ a,P a->mL n P' (f a))->mL n P' (t.bind f)
 | .ret a,q,h=>h a q
 | .ask i j k,⟨q1,q2,q3⟩,h=>⟨q1,q2,fun b=>mL.bind (q3 b) h⟩
theorem GU{α:Type}{n:Nat}{lt:Nat->Nat->Bool}{cmp:Nat->Nat->(Bool->aA->Prop)->aA->Prop}{s:aA}{Q:α->aA->Prop}(hc:∀ i j,i < n->j < n->∀ C:Bool->aA->Prop,C (lt i j) s->cmp i j C s) :
  ∀ (t:KasT α),mL n (fun _=>True) t->Q (i9 lt t) s->t.kasWp cmp Q s
 | .ret a,_,q=>q
 | .ask i j k,⟨h1,h2,h3⟩,q=>hc i j h1 h2 _ (GU hc (k (lt i j)) (h3 _) q)
def Bd(n:Nat)(p:Array Nat):Prop:=0 < n/\∀ x∈p,x < n
theorem Bd.at{n:Nat}{p:Array Nat}(h:Bd n p)(k:Nat):p.getD k 0 < n:=by
 by_cases hk:k < p.size
 ·have:p.getD k 0=p[k]:=by simp [KU,hk]
  rw [this]; exact h.2 _ (Array.getElem_mem hk)
 ·have:p.getD k 0=0:=by simp [KU,hk]
  rw [this]; exact h.1
theorem Bd.perm{n:Nat}{p q:Array Nat}(h:Bd n p)(hp:q.Perm p):Bd n q:=⟨h.1,fun x hx=>h.2 x (hp.mem_iff.mp hx)⟩
theorem E1{n:Nat}{p:Array Nat}(h:Bd n p):∀ (f k:Nat),mL n (fun _=>True) (sk p f k)
 | 0,k=>trivial
 | f+1,k=>⟨h.at _,h.at _,fun b=>by
  show mL n _ (if b=true then xp k else sk p f (k+1));split
  ·trivial
  ·exact E1 h f (k+1)⟩
theorem wZ{n:Nat}:∀ (f:Nat) (p:Array Nat) (k q:Nat),Bd n p->mL n (fun r=>Bd n r.1) (mP f p k q)
 | 0,p,k,q,h=>h
 | f+1,p,k,q,h=>⟨h.at _,h.at _,fun b=>by
  show mL n _ (if b=true then (if q > 0 then mP f (iw p (k - (q+1)) k) (k+1) 0 else mP f p (k+1) 0) else .ask (p.getD (k - 1) 0) (p.getD k 0) fun d=>if d=true then .ret (p,k,q) else mP f p (k+1) (q+1));split
  ·split
   ·exact wZ f _ _ _ (h.perm (lq _ _ _))
   ·exact wZ f _ _ _ h
  ·refine⟨h.at _,h.at _,fun d=>?_⟩;show mL n _ (if d=true then xp (p,k,q) else mP f p (k+1) (q+1));split
   ·exact h
   ·exact wZ f _ _ _ h⟩
theorem HV{n:Nat}{p:Array Nat}(h:Bd n p)(k m:Nat):mL n (fun r=>Bd n r.2) (Ow k m p) :=
 mL.bind (E1 (h.perm (lq _ _ _)) _ _) fun _ _=>h.perm (lq _ _ _)
theorem wY{n:Nat}{p:Array Nat}(h:Bd n p)(k m:Nat):mL n (fun r=>Bd n r.2) (zS k m p) :=
 mL.bind (wZ _ _ _ _ h) fun r hr=>by
  split
  ·exact HV (hr.perm (lq _ _ _)) _ _
  ·exact HV hr _ _
theorem NR{n:Nat}{p:Array Nat}(h:Bd n p)(m:Nat):mL n (fun r=>Bd n r.2) (kas_count m p) :=
 mL.bind (E1 h _ _) fun k _=>by
  split
  ·exact h
  ·split
   ·refine⟨h.at _,h.at _,fun b=>?_⟩;show mL n _ (if b=true then xp (k,p) else zS k m (iw p 0 k));split
    ·exact h
    ·exact wY (h.perm (lq _ _ _)) _ _
   ·exact wY h _ _
theorem yc{n:Nat}{p:Array Nat}(h:Bd n p)(k:Nat):∀ (f l r:Nat),mL n (fun _=>True) (kZ p k f l r)
 | 0,l,r=>trivial
 | f+1,l,r=>by
  show mL n _ (if l>=r then xp l else .ask (p.getD k 0) (p.getD ((l+r) / 2) 0) fun c=>if c=true then kZ p k f l ((l+r) / 2) else kZ p k f ((l+r) / 2+1) r);split
  ·trivial
  ·refine⟨h.at _,h.at _,fun b=>?_⟩;show mL n _ (if b=true then kZ p k f l ((l+r) / 2) else kZ p k f ((l+r) / 2+1) r);split
   ·exact yc h k f _ _
   ·exact yc h k f _ _
theorem Md{n:Nat}:∀ (f:Nat) (p:Array Nat) (k:Nat),Bd n p->mL n (fun _=>True) (kas_bin f p k)
 | 0,p,k,h=>trivial
 | f+1,p,k,h=>mL.bind (yc h k _ _ _) fun l _=>Md f _ _ (h.perm (bubble_perm _ _ _))
theorem Ry{n:Nat}(h:0 < n):mL n (fun _=>True) (kas_sort n) :=
 mL.bind (NR ⟨h,fun x hx=>by simpa using hx⟩ n) fun r hr=>by
  split
  ·exact Md _ _ _ hr
  ·trivial
mutual
theorem yq{h h':Heap}(hk:∀ b o vs n,o.data=.seq vs n->h.get? b=some o->h'.get? b=some o):∀ (d:D) {v:Value} {as:List Addr},nr d=true->Reads h v (pd d) as->Reads h' v (pd d) as
 | .fg,_,_,_,r=>by cases r; exact .none
 | .bl b,_,_,_,r=>by cases r; exact .bool b
 | .int i,_,_,_,r=>by cases r; exact .int i _
 | .str x,_,_,_,r=>by cases r; exact .str x _
 | .tup ds,_,_,n,r=>by
  cases r with
  | tuple h1 h2 h3 h4=>exact .tuple (hk _ _ _ _ h3 h1) h2 h3 (oD hk ds n h4)
 | .dN ds,_,_,n,r=>by
  cases r with
  | list h1 h2 h3 h4=>exact .list (hk _ _ _ _ h3 h1) h2 h3 (oD hk ds n h4)
 | .iL _,_,_,n,_=>by cases n
 | .ref _,_,_,n,_=>by cases n
 | .exc _,_,_,n,_=>by cases n
theorem oD{h h':Heap}(hk:∀ b o vs n,o.data=.seq vs n->h.get? b=some o->h'.get? b=some o):∀ (ds:List D) {vs:List Value} {as:List Addr},sX ds=true->iT h vs (oZ ds) as->iT h' vs (oZ ds) as
 | [],_,_,_,r=>by cases r; exact .nil
 | d :: ds,_,_,n,r=>by
  have n:(nr d&&sX ds)=true:=n;rw [aK] at n;cases r with
  | cons r1 r2=>exact .cons (yq hk d n.1 r1) (oD hk ds n.2 r2)
end
mutual
theorem Jf(G:Gp):∀ (sh:pE) (d:D) (n:Nat),cZ sh d=true->UW sh<=n->Sn G n d d
 | .int,.int i,n,_,_=>.int i
 | .tup l,.tup ds,n,h,hn=>by
  have hn:QZ l+1<=n:=hn;obtain⟨m,rfl⟩:∃ m,n=m+1:=⟨n - 1,by lia⟩;exact K7 G l ds m h (by lia)
 | .lst s,.dN ds,n,h,hn=>by
  have hn:UW s+1<=n:=hn;obtain⟨m,rfl⟩:∃ m,n=m+1:=⟨n - 1,by lia⟩;exact K8 G s ds m h (by lia)
theorem K7(G:Gp):∀ (l:List pE) (ds:List D) (m:Nat),fQ l ds=true->QZ l<=m->Sn G (m+1) (.tup ds) (.tup ds)
 | [],[],m,_,_=>.I0
 | s :: l,d :: ds,m,h,hm=>by
  have h:(cZ s d&&fQ l ds)=true:=h;have hm:max (UW s) (QZ l)<=m:=hm;rw [aK] at h;exact .sH (Jf G s d m h.1 (by lia)) (K7 G l ds m h.2 (by lia))
theorem K8(G:Gp):∀ (s:pE) (ds:List D) (m:Nat),iD s ds=true->UW s<=m->Sn G (m+1) (.dN ds) (.dN ds)
 | s,[],m,_,_=>.MM
 | s,d :: ds,m,h,hm=>by
  have h:(cZ s d&&iD s ds)=true:=h;rw [aK] at h;exact .CN (Jf G s d m h.1 hm) (K8 G s ds m h.2 hm)
end
theorem getD_at{α:Type}(xs:List α)(d:α){i:Nat}(h:i < xs.length):xs.getD i d=xs[i]:=by
 rw [cT,aC h]; rfl
theorem AX{α:Type}(xs:List α)(d:α):(i0 xs.length).map (fun i=>xs.getD i d)=xs:=by
 refine List.ext_getElem (by simp) fun i h1 h2=>?_;rw [o9,rX];exact getD_at _ _ h2
theorem FI{h:Heap}{s1:pE}{l:List pE}:∀ (zs:List D) (vs:List Value),(∀ z∈zs,cZ (.tup (s1 :: l)) z=true)->(∀ i,i < vs.length->∃ as,Reads h (vs.getD i .none) (pd (zs.getD i .fg)) as)->vs.length=zs.length ->
  ∃ fs,KatTups h vs fs/\fs.length=vs.length/\∀ f∈fs,∃ d as,cZ s1 d=true/\Reads h f (pd d) as:=by
 intro zs;induction zs with
 | nil =>
  intro vs _ _ h;have:vs=[]:=List.length_eq_zero_iff.mp h;subst this;exact⟨[],trivial,rfl,fun _ h=>by cases h⟩
 | cons z zs ih =>
 intro vs hs hr hl;cases vs with
 | nil=>cases hl
 | cons v vs =>
  obtain⟨fs,h1,h2,h3⟩:=ih vs (fun z hz=>hs z (aJ _ hz)) (fun i hi=>by
   obtain⟨as,r⟩:=hr (i+1) (by simpa using hi);exact⟨as,by simpa using r⟩) (by simpa using hl)
  obtain⟨as,r⟩:=hr 0 (by simp);have hz:=hs z (by simp);simp only [List.getD_cons_zero] at r;cases z <;> first | (cases hz; done) | skip
  rename_i ds;cases ds with
  | nil=>cases hz
  | cons d ds =>
   have hz:(cZ s1 d&&fQ l ds)=true:=hz;rw [aK] at hz;cases r with
   | tuple k1 k2 k3 k4 =>
    rename_i p o ws c;have k5:iT h ws.toList (pd d :: oZ ds) as:=k4;cases q:ws.toList with
    | nil=>rw [q] at k5; cases k5
    | cons f rest =>
     rw [q] at k5;cases k5 with
     | cons r1 r2 =>
      have hf:ws[0]?=some f:=by
       have:ws.toList[0]?=some f:=by rw [q]; rfl
       simpa using this
      refine⟨f :: fs,.cons k1 k2 k3 hf h1,by simp [h2],fun g hg=>?_⟩;rcases List.mem_cons.mp hg with rfl | hg
      ·exact⟨d,_,hz.1,r1⟩
      ·exact h3 g hg
def OI:pE->Value
 | .int=>.type "int"
 | .tup _=>.type "tuple"
 | .lst _=>.type "list"
theorem CV{M:Model}{h:Heap}{sh:pE}{d:D}{v:Value}{as:List Addr}(hs:cZ sh d=true)(r:Reads h v (pd d) as):Looks M h (typeOf v) (OI sh):=by
 cases sh with
 | int =>
  cases d <;> first | (cases hs; done) | skip
  cases r;exact .now
 | tup l =>
  cases d <;> first | (cases hs; done) | skip
  cases r with
  | tuple k1 k2 k3 k4 =>
   rename_i p o ws c;have:Looks M h (typeOf (.ref p)) o.cls:=(Looks.ld k1).andThen .now;rw [k2] at this; exact this
 | lst l =>
  cases d <;> first | (cases hs; done) | skip
  cases r with
  | list k1 k2 k3 k4 =>
   rename_i p o ws c as;have:Looks M h (typeOf (.ref p)) o.cls:=(Looks.ld k1).andThen .now;rw [k2] at this; exact this
theorem Nh{prog:bE}{w:World}{A:dg}{s:aA}{E:Value->aA->Prop}{Q:Bool->aA->Prop}{n:Nat}{b:Bool}{l:List pE}{a c:D}{u v:Value}{as bs:List Addr}(hn:(pd a).depth<=n+1)(h1:cZ (.tup l) a=true)(h2:cZ (.tup l) c=true)(n1:nr a=true)(n2:nr c=true)
  (r1:Reads s.heap u (pd a) as) (r2:Reads s.heap v (pd c) bs) (hu:A.units+n < cLine) (hq:Q (qJ a c) s):wpAny (model prog w) A (keyLt' (tuples' b) u v) Q E s:=by
 first | obtain⟨_,rfl⟩:=dS h1 | obtain⟨_,rfl⟩:=dP h1 | obtain⟨_,rfl⟩:=dQ h1
 first | obtain⟨_,rfl⟩:=dS h2 | obtain⟨_,rfl⟩:=dP h2 | obtain⟨_,rfl⟩:=dQ h2
 rename_i xs ys;cases r1 with
 | tuple k1 k2 k3 k4 =>
  cases r2 with
  | tuple m1 m2 m3 m4 =>
   rename_i p o vs c p' o' ws c';have z1:=readsAll_len k4;have z2:=readsAll_len m4;have e1:vs.size=xs.length:=by simpa using z1
   have e2:ws.size=ys.length:=by simpa using z2
   have el:∀ (l:List pE) (xs ys:List D),fQ l xs=true->fQ l ys=true->xs.length=ys.length:=by
    intro l;induction l with
    | nil =>
     intro xs ys h1 h2;cases xs with
     | nil=>cases ys with
      | nil=>rfl
      | cons _ _=>cases h2
     | cons _ _=>cases h1
    | cons s l ih =>
     intro xs ys h1 h2;cases xs with
     | nil=>cases h1
     | cons x xs =>
      cases ys with
      | nil=>cases h2
      | cons y ys =>
       have h1:(cZ s x&&fQ l xs)=true:=h1;have h2:(cZ s y&&fQ l ys)=true:=h2;rw [aK] at h1 h2;rw [ai,ai,ih xs ys h1.2 h2.2]
   have hd:(pd (.tup xs)).depth=cF (oZ xs)+1:=rfl;refine kat_lt k1 k3 m1 m3 (Ej (n:=n) hu l xs ys _ _ _ _ 0 h1 h2 n1 n2 k4 m4 (by lia) (decide_eq_false (by rw [e1,e2,el l xs ys h1 h2]; lia)) hq)
section
variable {X:Cx}
theorem CU{x:D}{G:Gp}{zs:List D}(ty:DO x G)(hi:itemsOf x G=some zs):mE x G=some zs:=by
 cases x <;> first | exact ty.elim | exact hi
theorem lz (hc:X.calm=true) (hu:X.A.units+64 < cLine):qg X (.builtin "sorted") pC:=by
 intro pins s σ H G xs ds us Q I ab rx rd q;unfold pC at q;split at q
 ·rename_i x;obtain⟨sh,zs,ty,hi,xS,cu,h64,q⟩:=q;obtain⟨w1,rfl,ze⟩:=rd.one;obtain⟨u,rfl,ru⟩:=rx.one;obtain⟨l,vs,bQ,rfl,rv,rs,hl,_⟩:=kN I ab ru ze (CU ty hi);have BX:=rv.length;have rh:=rs.length;have hsz:a9=16777216:=cV;have hz:∀ z∈zs,cZ sh z=true:=fun z h=>List.all_eq_true.mp xS z h;by_cases EA:bQ.length < 2
  ·refine Jd hl EA ?_;obtain⟨e,he⟩:=sortedAll_at s.heap bQ bQ.toArray;have hp:H (s.heap.objs.size+1)=none:=I.cu.fresh (zX _);have es:sI zs=zs:=vG sh hz (.refl _) (by
    match zs,rh,EA with
    | [],_,_=>exact .nil
    | [z],_,_=>exact List.pairwise_singleton _ _
    | _ :: _ :: _,h,f=>exact absurd f (by rw [<-BX,h]; simp))
   rw [es] at q;refine⟨.ref (s.heap.objs.size+1),upd H (s.heap.objs.size+1) (.lst vs),.ref _,_,I.laid (t':=s.toks) (fun b o e=>sortedAll_old e) (zX _) ?_,.Jy ab hp rs,rfl,.ref _,q _ (ab.free hp)⟩;exact⟨by lia,bQ,e,rv,he⟩
  ·obtain⟨m,F0⟩:=I.fr;have nz:0 < zs.length:=by lia
   have nL:∀ b o vs n,o.data=.seq vs n->s.heap.get? b=some o->b≠X.env.locals:=fun b o vs n e1 e2 z=>by
    obtain⟨o',es,ep,Fm,yM,_⟩:=F0.ns;rw [z,Fm] at e2; cases e2; rw [yM] at e1; cases e1
   unfold PL at cu;rw [aK] at cu;have hdp:UW sh<=7:=of_decide_eq_true cu.1;have sn:∀ z∈zs,Sn G 7 z z:=fun z h=>Jf G sh z 7 (hz z h) hdp;refine kat_sorted F0 Gy hl (by lia) (by lia) fun Dd e1 h' F N A9=>?_;obtain⟨kk,ns⟩:=xM I F0 F fun p hp=>N p (aJ _ hp);have DV:∀ i,i < bQ.length->∃ as,Reads h' (bQ.getD i .none) (pd (zs.getD i .fg)) as:=fun i hi=>by
    have i1:i < zs.length:=by lia
    have i2:i < vs.length:=by lia
    have g1:zs.getD i .fg=zs[i]:=getD_at _ _ i1;have g2:bQ.getD i .none=bQ[i]:=getD_at _ _ hi;obtain⟨v,hv,rdv⟩:=rs.get (aC i1);obtain⟨u,Fi,ruv⟩:=rv.get hv;rw [aC hi] at Fi;cases Fi;obtain⟨as,r⟩:=(lS I ab (sn _ (gI i1))).1 v _ rdv ruv;rw [g1,g2];exact⟨as,yq (fun b o vs n e1 e2=>kk b o (nL b o vs n e1 e2) e2) _ (sn _ (gI i1)).nr r⟩
   have BV:∀ i,i < zs.length->cZ sh (zs.getD i .fg)=true:=fun i hi=>by rw [getD_at _ _ hi]; exact hz _ (gI hi)
   have Zt:∀ i,i < zs.length->nr (zs.getD i .fg)=true:=fun i hi=>by rw [getD_at _ _ hi]; exact(sn _ (gI hi)).nr
   have dpz:∀ i,i < zs.length->(pd (zs.getD i .fg)).depth<=7:=fun i hi=>by rw [getD_at _ _ hi]; exact EI (sn _ (gI hi))
   let zz:Nat->D:=fun i=>if i < zs.length then zs.getD i .fg else zs.getD 0 .fg
   have Xe:∀ i,cZ sh (zz i)=true:=fun i=>by
    show cZ sh (if i < zs.length then zs.getD i .fg else zs.getD 0 .fg)=true;split
    ·exact BV i (by assumption)
    ·exact BV 0 nz
   let lt:Nat->Nat->Bool:=fun i j=>qJ (zz i) (zz j)
   have swo:NU lt:=⟨fun i j h=>CT sh (Xe i) (Xe j) h,fun i j k h1 h2=>A0 sh (Xe i) (Xe j) (Xe k) h1 h2⟩;have lte:∀ i j,i < zs.length->j < zs.length->lt i j=qJ (zs.getD i .fg) (zs.getD j .fg):=fun i j hi hj=>by
    show qJ (if i < zs.length then _ else _) (if j < zs.length then _ else _)=_;rw [if_pos hi,if_pos hj]
   obtain⟨p,ep,He,psz,hup⟩:=O5 swo (n:=bQ.length) (by lia);have hA2:X.A.in1.in1.units=X.A.units+2:=rfl;have ask:∀ κ:SortKind,(∀ i j,i < bQ.length->j < bQ.length->∀ C:Bool->aA->Prop,C (qJ (zs.getD i .fg) (zs.getD j .fg)) { s with heap:=h' }->kas_ask X.prog X.w X.A.in1.in1 κ bQ i j C { s with heap:=h' }) ->
     (kas_sort bQ.length).kasWp (kas_ask X.prog X.w X.A.in1.in1 κ bQ) (fun p Xq=>KasFin X.base X.env.locals m Dd e1 (p.toList.map fun i=>bQ.getD i gQ) (fun s3=>rP X pins σ H G Q (.ref Dd) s3) Xq) { s with heap:=h' }:=by
    intro κ hk;refine GU (lt:=lt) (n:=bQ.length) (fun i j i1 i2 C hC=>hk i j i1 i2 C (by rw [<-lte i j (by lia) (by lia)]; exact hC)) _ (Ry (by lia)) ?_;rw [ep];refine KasFin.intro (g:=fun o=>(Dd,o) :: ug X.base s.heap X.env.locals) F N (.head (fun q hq z=>absurd (A9 q hq) (by rw [z]; exact jk _))) fun h2 c F2 N2=>?_;obtain⟨k2,ns2⟩:=xM I F0 F2 fun p hp=>N2 p (aJ _ hp);have hD:s.heap.get? Dd=none:=by
     have nD:=N _ cA;cases qd:s.heap.get? Dd with
     | none=>rfl
     | some o=>exact absurd (A9 _ (yH nD.2.1 nD.2.2 qd)) (jk _)
    have hp:H Dd=none:=LV I.cu hD;have rvp:Vals (p.toList.map fun i=>vs.getD i .fg) (p.toList.map fun i=>bQ.getD i gQ):=by
     have:∀ (ps:List Nat),(∀ i∈ps,i < bQ.length)->Vals (ps.map fun i=>vs.getD i .fg) (ps.map fun i=>bQ.getD i gQ):=by
      intro ps;induction ps with
      | nil=>intro _; exact .nil
      | cons i ps ih =>
       intro hh;have hi:=hh i (by simp);refine .cons ?_ (ih fun j hj=>hh j (aJ _ hj));have i2:i < vs.length:=by lia
       obtain⟨u,Fi,ruv⟩:=rv.get (aC i2);rw [aC hi] at Fi;cases Fi;show RelV (vs.getD i .fg) (bQ.getD i .none);rw [getD_at _ _ i2,getD_at _ _ hi]; exact ruv
     exact this _ fun i hi=>by simpa using He.mem_iff.mp hi
    have rsp:bq X.K H (p.toList.map fun i=>vs.getD i .fg) (p.toList.map fun i=>zs.getD i .fg):=by
     have:∀ (ps:List Nat),(∀ i∈ps,i < bQ.length)->bq X.K H (ps.map fun i=>vs.getD i .fg) (ps.map fun i=>zs.getD i .fg):=by
      intro ps;induction ps with
      | nil=>intro _; exact .nil
      | cons i ps ih =>
       intro hh;have hi:=hh i (by simp);refine .cons ?_ (ih fun j hj=>hh j (aJ _ hj));have i2:i < vs.length:=by lia
       have i1:i < zs.length:=by lia
       obtain⟨v,hv,r⟩:=rs.get (aC i1);rw [aC i2] at hv;cases hv;show b7 X.K H (vs.getD i .fg) (zs.getD i .fg);rw [getD_at _ _ i2,getD_at _ _ i1]; exact r
     exact this _ fun i hi=>by simpa using He.mem_iff.mp hi
    have es:sI zs=p.toList.map fun i=>zs.getD i .fg:=by
     refine vG sh hz ?_ ?_
     ·have h1:(p.toList.map fun i=>zs.getD i .fg).Perm ((i0 zs.length).map fun i=>zs.getD i .fg):=by
       have:bQ.length=zs.length:=by lia
       rw [<-this];exact He.map _
      rw [AX] at h1;exact h1
     ·rw [kQ,List.pairwise_iff_getElem];intro i j hi hj Nx;have g1:gA p i=p.toList[i]:=by
       have:i < p.size:=by simpa using hi
       simp [gA,KU,this]
      have g2:gA p j=p.toList[j]:=by
       have:j < p.size:=by simpa using hj
       simp [gA,KU,this]
      have bi:p.toList[i] < bQ.length:=by simpa using He.mem_iff.mp (gI hi)
      have bj:p.toList[j] < bQ.length:=by simpa using He.mem_iff.mp (gI hj)
      have:=hup i j (by lia) (by have:j < p.toList.length:=hj; rw [ff,psz] at this; exact this);rw [g1,g2,lte _ _ (by lia) (by lia)] at this;exact this
    rw [es] at q;have ln:(p.toList.map fun i=>vs.getD i .fg).length<=a9:=by rw [ao,ff,psz]; lia
    refine⟨.ref Dd,upd H Dd (.lst (p.toList.map fun i=>vs.getD i .fg)),.ref _,_,Inv.UD (t':=s.toks) I k2 ns2 hD ?_,.Jy ab hp rsp,rfl,.ref _,q _ (ab.free hp)⟩;exact⟨ln,_,c,rvp,(N2 _ cA).1⟩
   have gen:∀ i j,i < bQ.length->j < bQ.length->∀ C:Bool->aA->Prop,C (qJ (zs.getD i .fg) (zs.getD j .fg)) { s with heap:=h' }->wpAny (model X.prog X.w) X.A.in1.in1 (keyLt' oneType' (bQ.getD i gQ) (bQ.getD j gQ)) C (fun _ _=>False) { s with heap:=h' }:=by
    intro i j hi hj C hC;obtain⟨as,r1⟩:=DV i hi;obtain⟨bs,r2⟩:=DV j hj;rw [keyLt'_oneType];exact yE (s:={ s with heap:=h' }) (n:=7) (dpz i (by lia)) (BV i (by lia)) (BV j (by lia)) (Zt i (by lia)) (Zt j (by lia)) r1 r2 (by rw [hA2]; lia) X.prog X.w _ C hC
   have lk:∀ v∈bQ,Looks (model X.prog X.w) h' (typeOf v) (OI sh):=fun v hv=>by
    obtain⟨i,hi,rfl⟩:=List.getElem_of_mem hv;obtain⟨as,r⟩:=DV i hi;rw [getD_at _ _ hi] at r;exact CV (BV i (by lia)) r
   cases sh with
   | int=>exact kas_kind (s:={ s with heap:=h' }) (T:=.type "int") (by lia) lk rfl rfl (ask oneType' gen)
   | lst ss=>exact kas_kind (s:={ s with heap:=h' }) (T:=.type "list") (by lia) lk rfl rfl (ask oneType' gen)
   | tup ss =>
    cases ss with
    | nil=>exact absurd cu.2 (by simp)
    | cons s1 ss =>
     obtain⟨fs,t1,t2,t3⟩:=FI (h:=h') zs bQ hz DV (by lia);refine kat_kind (s:={ s with heap:=h' }) (T:=OI s1) t1 (by lia) (fun f hf=>?_) (by cases s1 <;> rfl) (ask _ fun i j hi hj C hC=>?_)
     ·obtain⟨d,as,h1,h2⟩:=t3 f hf;exact CV h1 h2
     ·obtain⟨as,r1⟩:=DV i hi;obtain⟨bs,r2⟩:=DV j hj;exact Nh (s:={ s with heap:=h' }) (n:=7) (by have:=dpz i (by lia); lia) (BV i (by lia)) (BV j (by lia)) (Zt i (by lia)) (Zt j (by lia)) r1 r2 (by rw [hA2]; lia) hC
 ·exact q.elim
end
end K2
end
section
namespace L2
open PySem PySem.Spec PyProof.Rows
section
variable {prog:bE} {w:World} {A:dg} {E:Value->aA->Prop} {s:aA}
theorem JO{d:Addr}{od:Obj}{es:Array fL}{c:Nat}{Q:Value->aA->Prop}(ns:(d == cS)=false)(Fj:s.heap.get? d=some od)(ex:od.ExactDict)(dd:od.data=.dict es c)
  (hQ:Q (.ref s.heap.objs.size) { s with heap:=s.heap.push { cls:=.type "dict_keyiterator",data:=.fields #[.ref d,.int 0 0,.int es.size 0,.int c 0] } }):wpAny (model prog w) A (Fu (.ref d)) Q E s:=by
 have ty:s.TypeIs (.ref d) "dict":=⟨od,Fj,ex.1⟩;refine pM ty F.slot_dict_iter (cQ F.slot_dict_iter ty F.entry_dict_iter ?_ (F.args_dict_iter_1 _));unfold Builtin.«dict.__iter__» Builtin.Dict.dictSlotNone;refine ah (ah (qj ty (show wpAny _ _ (pure (fK d)) _ _ s from az ?_)));show wpAny _ _ (mi d >>= _) _ _ s;unfold mi;rw [if_neg (fun z=>by rw [ns] at z; cases z)];refine ah (az (ah (gm Fj dd (ah (ow Fj dd ?_)))));refine ah (dj (az ⟨_,rfl,"dict_keyiterator",_,⟨_,bc _ rfl,rfl⟩,F.slot_dict_keyiterator_next.lookup,?_⟩));simpa [vo] using hQ
theorem Ng{it d:Addr}{od:Obj}{es:Array fL}{i c:Nat}{Q:Option Value->aA->Prop}(ki:s.heap.IsKeyIter it d i es.size c)(Fj:s.heap.get? d=some od)(dd:od.data=.dict es c)(hi:i < es.size)
  (hQ:∀ h',h'.IsKeyIter it d (i+1) es.size c->fI it s.heap h'->Q (some es[i].key) { s with heap:=h' }):wpAny (model prog w) A (nC (.ref it)) Q E s:=by
 obtain⟨o,ho,hc,hf⟩:=id ki;unfold nC;refine ah (rQ (eP (name:=kD "__next__") ki.typeIs kj (cQ kj ki.typeIs IP ?_ (Io _))));refine ah (az (ah (ah ?_)))
 first | refine ah (j3 ki.typeIs (az ?_)) | refine ah (nB ki.typeIs (az ?_))
 refine ah (qh ho hf ?_);have VI:fN "dict_keyiterator" = false:=by decide
 rw [VI];show wpAny _ _ (if (fK d == gQ)=true then _ else _) _ _ s;rw [if_neg (fun z=>by cases z)];refine ah (az (ah (gm Fj dd ?_)));rw [if_neg (by simp)];refine ah (az (ah (ow Fj dd ?_)));rw [if_neg (by simp)];refine az ?_;dsimp only;rw [if_neg (show ¬ ((i:Int) < 0) from Int.not_lt.mpr (se i)),eF,IV hi];dsimp only;refine ah ?_
 first | refine ah (j3 ki.typeIs (az ?_)) | refine ah (nB ki.typeIs (az ?_))
 refine ah (wpAny_isOneOf_keyiter ki.typeIs ?_);show wpAny _ _ (setField (.ref it) 1 (vo ((i:Int)+1)) >>= _) _ _ s;refine ah (R7 ho hf (by simp) ?_);have ki2:(s.heap.update it (Obj.mapFields (·.setIfInBounds 1 (vo ((i:Int)+1))))).IsKeyIter it d (i+1) es.size c :=
  ⟨_,kg _ ho (Obj.isFreed_of_fields (Obj.data_mapFields hf _)),(Obj.cls_mapFields ..).trans hc,by rw [Obj.data_mapFields hf]; simp [vo]⟩
 refine ah (cG (ah (wpAny_isOneOf_keyiter (s:={ s with heap:=s.heap.update it (Obj.mapFields (·.setIfInBounds 1 (vo ((i:Int)+1)))) }) ki2.typeIs ?_)));show wpAny _ _ (pure es[i].key) _ _ _;exact az (az ⟨_,rfl,az (hQ _ ki2 (kh ..))⟩)
theorem Qb{it d:Addr}{od:Obj}{es:Array fL}{i c:Nat}{Q:Option Value->aA->Prop}(calm:A.handled=none)(ki:s.heap.IsKeyIter it d i es.size c)(Fj:s.heap.get? d=some od)(dd:od.data=.dict es c)(hi:es.size<=i)
  (hQ:∀ h',Heap.ExtBut it s.heap h'->Q none { s with heap:=h' }):wpAny (model prog w) A (nC (.ref it)) Q E s:=by
 obtain⟨o,ho,hc,hf⟩:=id ki;unfold nC;refine ah (rQ (eP (name:=kD "__next__") ki.typeIs kj (cQ kj ki.typeIs IP ?_ (Io _))));refine ah (az (ah (ah ?_)))
 first | refine ah (j3 ki.typeIs (az ?_)) | refine ah (nB ki.typeIs (az ?_))
 refine ah (qh ho hf ?_);have VI:fN "dict_keyiterator" = false:=by decide
 rw [VI];show wpAny _ _ (if (fK d == gQ)=true then _ else _) _ _ s;rw [if_neg (fun z=>by cases z)];refine ah (az (ah (gm Fj dd ?_)));rw [if_neg (by simp)];refine ah (az (ah (ow Fj dd ?_)));rw [if_neg (by simp)];refine az ?_;dsimp only;rw [if_neg (show ¬ ((i:Int) < 0) from Int.not_lt.mpr (se i)),eF,N9 hi];dsimp only;refine ah ?_
 first | refine ah (j3 ki.typeIs (az ?_)) | refine ah (nB ki.typeIs (az ?_))
 show wpAny _ _ (setField (.ref it) 0 .none >>= _) _ _ s;refine ah (R7 ho hf (by simp) ?_);show wpAny _ _ (newExc (.type "StopIteration") [] >>= _) _ _ _;refine ah ?_;simp only [newExc,newTuple];refine ah (dj (ah (m:=Cy _ _) (wpAny_of_eq (a:=gQ) (by first | rfl | (simp only [Cy]; rfl)) (dj ?_ (by size_fits)))) (by size_fits));simp only [raiseNew];refine ah (wpAny_handled ?_);rw [show A.in1.handled=none from calm];refine ah (az (wpAny_throw ?_));refine ah (mN (T:="StopIteration") (b:=true) ⟨_,bc _ rfl,rfl⟩ R9 (?_));exact az (hQ _ (((kh ..).extBut.push _).push _))
end
def Itk(a:Addr)(o:Obj)(es:Array fL)(ks:List V):It :=
 ⟨fun i H=>(∃ u,H a=some (.jC o u))/\i < es.size,fun i H v H'=>H'=H/\ks[i]?=some v,fun i H=>(∃ u,H a=some (.jC o u))/\es.size<=i⟩
theorem Mw{P:bE}{w:World}{K:ar}{tg:Expr}(a it:Addr)(o:Obj)(es:Array fL)(c:Nat)(ks:List V)(dd:o.data=.dict es c)(hk:∀ i (h:i < es.size),∃ v,ks[i]?=some v/\RelV v es[i].key) :
  Turn P w K tg (Itk a o es ks) [it] it (fun i h=>h.IsKeyIter it a i es.size c) where
 mem:=by simp
 obj:=fun i h st b hb=>by
  have e:b=it:=by simpa using hb
  subst e;obtain⟨o',q,_,d⟩:=st;exact⟨o',q,fun v z=>by rw [d] at z; cases z⟩
 keep:=(by rintro i h h' ⟨o',q,r⟩ k; exact⟨o',k it (by simp) o' q,r⟩)
 item:=by
  intro X hP hw hK hc i pins s σ H E I hf st hg;subst hP hw hK;obtain⟨⟨u,hu⟩,hi⟩:=hg;obtain⟨f0,f1,f2,f3,f4,f5⟩:=hf it (by simp);obtain⟨v,hv,rv⟩:=hk i hi;refine Ng st (I.cu a _ hu).1 dd hi fun h' Ab sb=>?_;have I1:Inv X pins σ H { s with heap:=h' }:=I.turned (t':=s.toks) (fun b o hb e=>(sb.2 b hb).trans e) f0 f1 f3 f4 f5;obtain⟨o',e,cl,d'⟩:=id Ab;exact⟨_,rfl,LR (s:={ s with heap:=h' }) e cl d' (by decide) ⟨v,H,I1,rv,⟨rfl,hv⟩,Ab,fun b hb=>(hf b hb).1⟩⟩
 done:=by
  intro X hP hw hK hc i pins s σ H E I hf st hg;subst hP hw hK;obtain⟨⟨u,hu⟩,hi⟩:=hg;obtain⟨f0,f1,f2,f3,f4,f5⟩:=hf it (by simp);exact Qb (I.ok.hd hc) st (I.cu a _ hu).1 dd hi fun h' eb=>⟨rfl,I.turned (t':=s.toks) (fun b o hb e=>eb b o hb e) f0 f1 f3 f4 f5⟩
 self:=fun A i s Q E st h=>by
  refine pM st.typeIs KQ (cQ KQ st.typeIs F.entry_dict_keyiterator_iter ?_ (F.args_dict_keyiterator_iter_1 _));show wpAny _ _ (ret (.ref it)) _ _ s;exact az ⟨_,rfl,"dict_keyiterator",_,st.typeIs,F.slot_dict_keyiterator_next.lookup,h⟩
end L2
namespace K2
open PySem PySem.Spec PyProof.Rows L2
section
variable {X:Cx} {tg a:Expr} {ta:gK} {pos p:Pos}
theorem xF{α β:Type}{F:α->β->Prop}:∀ {l:List α} {m:List β},lE F l m->∀ i (h1:i < l.length) (h2:i < m.length),F l[i] m[i]:=by
 intro l m h;induction h with
 | nil=>intro i h1; exact absurd h1 (xn i)
 | cons h t ih =>
  intro i h1 h2;cases i with
  | zero=>exact h
  | succ i=>exact ih i (RO h1) (RO h2)
theorem Qi{P:bE}{w:World}{k:Key}{u:Value}(h:(cK P w).is k u=true):RelV (kV k) u:=by
 rcases fB h with ⟨i,t,rfl,rfl⟩ | ⟨x,t,rfl,rfl⟩
 ·exact⟨t,rfl⟩
 ·exact⟨t,rfl⟩
theorem mW.keys{K:ar}{H:Hp}:∀ {kv:List (Key×V)} {kvs:List (D×D)},mW K H kv kvs->kvs.map (·.1)=kv.map fun p=>eV p.1:=fun h =>
 mW.ind (motive:=fun kv kvs _=>kvs.map (·.1)=kv.map fun p=>eV p.1) rfl (fun _ _ ih=>congrArg (_ :: ·) ih) h
theorem oh.keys{K:ar}{H:Hp}:∀ {kv:List (List Key×V)} {kvs:List (D×D)},oh K H kv kvs->kvs.map (·.1)=kv.map fun p=>D.tup (p.1.map eV):=fun h =>
 oh.ind (motive:=fun kv kvs _=>kvs.map (·.1)=kv.map fun p=>D.tup (p.1.map eV)) rfl (fun _ _ ih=>congrArg (_ :: ·) ih) h
theorem FV{K:ar}{H:Hp}(k:Key):b7 K H (kV k) (eV k):=by
 cases k with
 | inl i=>exact .int i
 | inr x=>exact .str x
theorem xA{K:ar}{H:Hp}:∀ (ks:List Key),bq K H (ks.map kV) (ks.map eV)
 | []=>.nil
 | k :: ks=>.cons (FV k) (xA ks)
theorem AH(ha:gH X a ta):NV X tg a (uJ ta):=by
 intro E pins s σ H τ G R hE I h;refine kG ha hE I h fun x H1 d G1 v s1 I1 m1 r1 jS q1=>?_;unfold zJ at q1;have go:∀ (l:Addr) (o:Obj) (u:HO) (kvs:List (D×D)) (es:Array fL) (c:Nat) (ks:List V),(l == cS)=false->H1 l=some (.jC o u)->o.ExactDict->o.data=.dict es c->(∀ i (h:i < es.size),∃ v,ks[i]?=some v/\RelV v es[i].key)->ks.length=es.size ->
   bq X.K H1 ks (kvs.map (·.1))->R (kvs.map (·.1)) (fun _=>True) G1->wpAny (model X.prog X.w) X.A (Fu (.ref l)) (Kv X pins σ tg H G R) X.xe s1:=by
  intro l o u kvs es c ks ns hl ex dd hk hlen rs q;refine JO ns (I1.inv.cu l _ hl).1 ex dd ?_;refine⟨s1.heap.objs.size,[s1.heap.objs.size],_,_,H1,G1,kvs.map (·.1),_,rfl,I1.inv.kept (t':=s1.toks) fun b o e=>aF _ e,m1,Mw l _ o es c ks dd hk,⟨_,bc _ rfl,rfl,rfl⟩,fun b hb=>?_,fun i H2 G2 k ab _=>?_,q⟩
  ·have e:b=s1.heap.objs.size:=by simpa using hb
   subst e;exact I1.inv.Cd (aH _) (I1.inv.cu.fresh (aH _))
  ·have rh:=k.jC _ _ _ hl;have Ff:=rs.mono k;refine⟨fun d hd=>?_,fun hle=>⟨⟨u,rh⟩,by rw [<-hlen,rs.length]; exact hle⟩⟩;obtain⟨v,hv,r⟩:=Ff.get hd;have hi:i < es.size:=by rw [<-hlen]; exact(List.getElem?_eq_some_iff.mp hv).1
   refine⟨⟨⟨u,rh⟩,hi⟩,?_⟩;rintro x H3 ⟨e,y⟩;subst e;rw [hv] at y;cases y;exact⟨r,.refl ab⟩
 cases jS with
 | qo hq rs =>
  rename_i l o kv kvs;cases r1;obtain⟨z,ns,vs,rel,ob,es,ep,ho,ex,dd,hko,hp,nd⟩:=(I1.inv.cu l _ hq).2;have eo:ob=o:=by have:=(I1.inv.cu l _ hq).1; rw [ho] at this; exact ba this
  subst eo;have l1:es.size=vs.length:=by simpa using hp.length
  have l2:kv.length=vs.length:=jd rel;refine go l ob _ kvs es ep (kv.map fun p=>kV p.1) ns hq ex dd (fun i hi=>?_) (by rw [ao]; lia) ?_ q1
  ·have i2:i < vs.length:=by lia
   have i3:i < kv.length:=by lia
   have g1:=(hp.get? (e:=es[i]) (k:=vs[i].1) (v:=vs[i].2) (by rw [aC (by simpa using hi)]; simp) (by rw [aC i2])).1;refine⟨kV kv[i].1,by simp [i3],?_⟩;have ek:kv[i].1=vs[i].1:=(xF rel i i3 i2).1;rw [ek];exact Qi g1
  ·rw [rs.keys];have:∀ (l:List (Key×V)),bq X.K H1 (l.map fun p=>kV p.1) (l.map fun p=>eV p.1):=by
    intro l;induction l with
    | nil=>exact .nil
    | cons p l ih=>exact .cons (FV p.1) ih
   exact this kv
 | qm hq rs =>
  rename_i l o kv kvs;cases r1;obtain⟨z,ns,xs,rel,ob,es,ep,ho,ex,dd,hl,nd⟩:=(I1.inv.cu l _ hq).2;have eo:ob=o:=by have:=(I1.inv.cu l _ hq).1; rw [ho] at this; exact ba this
  subst eo;have l1:=congrArg cM hl;rw [ao,ff] at l1;refine go l ob _ kvs es ep (xs.map fun q=>V.ref q.2.1) ns hq ex dd (fun i hi=>?_) (by rw [ao]; lia) ?_ q1
  ·have i2:i < xs.length:=by lia
   refine⟨.ref xs[i].2.1,by simp [i2],?_⟩;have:es[i]=entryOfKey (iS (cK X.prog X.w)) xs[i]:=by
    have:=congrArg (fun l=>l[i]?) hl;simp only [bx,aC i2] at this;simpa [hi] using this
   rw [this];rfl
  ·rw [rs.keys];have:∀ (kv:List (List Key×V)) (xs:List (List Key×Addr×Value)),lE (fun (p:List Key×V) (q:List Key×Addr×Value)=>p.1=q.1/\H1 q.2.1=some (.tup (p.1.map kV))/\RelV p.2 q.2.2) kv xs->bq X.K H1 (xs.map fun q=>V.ref q.2.1) (kv.map fun p=>D.tup (p.1.map eV)):=by
    intro kv xs r;induction r with
    | nil=>exact .nil
    | cons h _ ih=>exact .cons (.tup h.2.1 (xA _)) ih
   exact this kv xs rel
 | _=>exact q1.elim
end
end K2
end
section
namespace L2
open PySem PySem.Spec PyProof.Rows
section
variable {X:Cx}
def RL(i j:Int):Prop:=i.natAbs < 2 ^ 4000/\j.natAbs < 2 ^ 4000
theorem RL.ok{i j:Int}(h:RL i j):IntMulOk i j:=by
 have h1:=intBits_le h.1;have h2:=intBits_le h.2;unfold IntMulOk;intro z;rw [aK] at z;have z2:((IT i+IT j:Nat):Int) > (bitsLine:Int):=of_decide_eq_true z.2;have hb:8000<=bitsLine:=by decide
 lia
theorem S1:Mg X (jT .Mult) (rI RL fun i j=>.int (i * j)):=Zo fun _ _ _ _ _ _ _ hc q=>mul_int q hc.ok
end
end L2
namespace K2
open PySem PySem.Spec PyProof.Rows L2
section
variable {X:Cx}
theorem Gk:qF X (jT .Mult) Ld:=by
 intro pins s σ H G x y dx dy v u Q I ab rx ry dX dY q;cases dX with
 | int i =>
  cases dY with
  | int j=>exact iB (S1 pins s σ H _ _ v u (Cu X.K H G Q) I rx ry ⟨i,j,rfl,rfl,q.1,_,_,.refl ab,.int _,q.2⟩) fun _ _ z=>.of z
  | _=>exact bJ q
 | _=>exact bJ q
theorem xW{pins:List (Addr×Obj)}{σ:L2.St}{H:Hp}{s:aA}{G:Gp}{x:V}{d:D}{kvs:List (D×D)}(I:Inv X pins σ H s)(ab:mM X.K H G)(rd:b7 X.K H x d)(hd:wL d G=some kvs)(h1:we kvs=true) :
  ∃ a kv vs,x=.ref a/\mW X.K H kv kvs/\kv.length<=a9/\(a == cS)=false/\KV kv vs/\s.heap.DictOf (cK X.prog X.w) a vs:=by
 have empty:∀ (a:Addr) (kv:List (List Key×V)),fu X.prog X.w H s.heap a (.dT kv)->oh X.K H kv kvs ->
   ∃ a' kv vs,V.ref a=.ref a'/\mW X.K H kv kvs/\kv.length<=a9/\(a' == cS)=false/\KV kv vs/\s.heap.DictOf (cK X.prog X.w) a' vs:=by
  intro a kv ok rs;cases rs with
  | nil =>
   obtain⟨z,hm,xs,rel,o,es,ep,ho,hx,yM,hl,nd⟩:=ok;have hv:xs=[]:=by cases rel; rfl
   subst hv;have he:es=#[]:=by simpa using hl
   subst he;exact⟨a,[],[],rfl,.nil,cp _,hm,.nil,o,#[],ep,ho,hx,yM,(fun _ h=>by simp at h),.nil,cq⟩
  | cons _ _=>simp [we,dE] at h1
 cases rd with
 | qo hq rs =>
  cases (show some _=some kvs from hd);obtain⟨z,hm,vs,rel,dd⟩:=tx I.cu (.inr ⟨_,hq⟩);exact⟨_,_,vs,rfl,rs,z,hm,rel,dd⟩
 | qm hq rs =>
  cases (show some _=some kvs from hd);exact empty _ _ (I.cu _ _ hq).2 rs
 | ref a =>
  unfold wL at hd;dsimp only at hd;split at hd
  ·rename_i kv' hg;cases hd;rcases ab a _ hg with ⟨kv,hv,rs⟩ | ⟨kv,hv,rs⟩
   ·obtain⟨z,hm,vs,rel,dd⟩:=Dj I.cu hv;exact⟨a,kv,vs,rfl,rs,z,hm,rel,dd⟩
   ·exact empty a _ (I.cu _ _ hv) rs
  ·cases hd
 | _=>cases hd
theorem Bw:qg X (.type "dict") HQ:=by
 intro pins s σ H G xs ds us Q I ab rx rd q;unfold HQ at q;split at q
 ·rename_i x;obtain⟨kvs,hd,h1,hl,q⟩:=q;obtain⟨v,rfl,r⟩:=rd.one;obtain⟨a,kv,vs,rfl,rs,z,hm,rel,dd⟩:=xW I ab r hd h1;obtain⟨u,rfl,ru⟩:=rx.one;cases ru;refine kt_call_dict hm dd (by rw [<-rel.length]; exact z) fun h' Dl hs=>?_;have hp:H s.heap.objs.size=none:=I.cu.fresh (aH _);refine⟨.ref _,upd H s.heap.objs.size (.dK kv),.ref _,_,I.laid (a:=s.heap.objs.size) (o:=.dK kv) (t':=s.toks) (fun b q hq=>?_) (aH _) (Bn z (beq_eq_false_iff_ne.mpr (dG (bu I.big))) rel Dl),.new ab hp (.dk bN (rs.mono (.new hp))),rfl,.ref _,q _ (ab.free hp)⟩;exact(hs.2 b (bu (aP hq))).trans (aF _ hq)
 ·exact q.elim
theorem LC:Kx X "dict.get" M5:=by
 intro pins s σ H G x d xs ds v us Q I ab rx rd Oe DV q;unfold M5 at q;split at q
 ·rename_i k d';obtain⟨kvs,hd,h1,hk,q⟩:=q;obtain⟨w,w2,rfl,ze,MJ⟩:=DV.two;obtain⟨u1,u2,rfl,FR,Jj⟩:=vals2 Oe;obtain⟨a,kv,vs,rfl,rs,z,hm,rel,dd⟩:=xW I ab rd hd h1;cases rx;obtain⟨kk,rfl⟩:=wg hk;have ey:=vL ze;subst ey;refine nE dh dd.typeIs mQ (lN _ _ _) (meets_dict_get_default (cK X.prog X.w) a (yJ FR) hm u2) ⟨_,dd.mapOf,?_⟩;have ro:=(rel.val kk).getD Jj;rcases rs.look kk with ⟨v',d2,e1,e2,r⟩ | ⟨e1,e2⟩
  ·rw [e1] at ro;rw [e2] at q;exact⟨v',H,d2,G,I.tok _,.refl ab,ro,r,q⟩
  ·rw [e1] at ro;rw [e2] at q;exact⟨w2,H,d',G,I.tok _,.refl ab,ro,MJ,q⟩
 ·exact q.elim
end
end K2
end
section
namespace L2
open PySem PySem.Spec PyProof.Rows
def Iti(a:Addr)(o:Obj)(kv:List (Key×V)):It :=
 ⟨fun i H=>(∃ u,H a=some (.jC o u))/\i < kv.length,fun i H v H'=>∃ T p,v=.ref T/\H T=none/\H'=upd H T (.tup [kV p.1,p.2])/\kv[i]?=some p,fun i H=>(∃ u,H a=some (.jC o u))/\kv.length<=i⟩
theorem AM{α β:Type}{F:α->β->Prop}:∀ {l:List α} {m:List β},lE F l m->∀ i (h1:i < l.length) (h2:i < m.length),F l[i] m[i]
 | _,_,.cons h _,0,_,_=>h
 | _,_,.cons _ t,i+1,h1,h2=>AM t i (by simpa using h1) (by simpa using h2)
theorem Nk{P:bE}{w:World}{k:Key}{u:Value}(h:(cK P w).is k u=true):RelV (kV k) u:=by
 rcases fB h with ⟨i,t,rfl,rfl⟩ | ⟨x,t,rfl,rfl⟩
 ·exact⟨t,rfl⟩
 ·exact⟨t,rfl⟩
theorem nG:entryFor table "dict_itemiterator.__iter__" = some Builtin.«dict_keyiterator.__iter__» :=
 entryFor_alias (id':="dict_keyiterator.__iter__") (by rw [fastTable_eq_tree]; kernel_rfl) (by decide +kernel) (by decide +kernel) (by rw [fastTable_eq_tree]; kernel_rfl)
theorem IZ{P:bE}{w:World}{K:ar}{elts:List Expr}{kk:Nat}{pos:Pos}(a it:Addr)(o:Obj)(kv:List (Key×V))(vs:List (Key×Value))(ep:Nat)(rel:KV kv vs)(hD:∀ h:Heap,h.get? a=some o->h.DictAt (cK P w) a vs ep) :
  Turn P w K (.Tuple elts kk pos) (Iti a o kv) [it] it (fun i h=>∃ ok ov,pU h it a i vs.length ep ok ov) where
 mem:=by simp
 obj:=fun i h ⟨ok,ov,st⟩ b hb=>by
  have e:b=it:=by simpa using hb
  subst e;exact⟨_,st,fun v z=>by cases z⟩
 keep:=fun i h h' ⟨ok,ov,st⟩ k=>⟨ok,ov,k it (by simp) _ st⟩
 item:=by
  intro X hP hw hK hc i pins s σ H E I hf st hg;obtain⟨ok,ov,st⟩:=st;subst hP hw hK;obtain⟨⟨u,hu⟩,hi⟩:=hg;have hl:=rel.length;have hi2:i < vs.length:=by lia
  have hx:vs[i]?=some (vs[i].1,vs[i].2):=aC hi2;have rp:=AM rel i hi hi2;have Wq:H s.heap.objs.size=none:=I.cu.fresh (aH _);have Yu:it≠s.heap.objs.size:=bu (aP st);refine wpAny_pyNext_items_item st (hD _ (I.cu a _ hu).1) hx fun key h' hk ho hT hsz kk=>?_;refine⟨_,rfl,?_⟩;have rk:RelV (kV kv[i].1) key:=by rw [rp.1]; exact Nk hk
  have I1:Inv X pins σ (upd H s.heap.objs.size (.tup [kV kv[i].1,kv[i].2])) { s with heap:=h',toks:=s.toks } :=
   I.zv (fp:=[it]) hf (fun b o hb q=>kk b o (fun z=>hb (by simp [z])) q) (aH _)
    ⟨by show 2<=a9; decide,[key,vs[i].2],.cons rk (.cons rp.2 .nil),⟨_,hT,rfl,_,rfl⟩⟩
  refine Ot (s:={ s with heap:=h' }) ho fun h2 Tt zg=>?_;have f1:∀ b∈[it],o6 X pins (upd H s.heap.objs.size (.tup [kV kv[i].1,kv[i].2])) b:=fun b hb=>(hf b hb).upd (by rw [List.mem_singleton.mp hb]; exact Yu);have I2:Inv X pins σ (upd H s.heap.objs.size (.tup [kV kv[i].1,kv[i].2])) { s with heap:=h2,toks:=s.toks } :=
   Inv.tQ (s:={ s with heap:=h',toks:=s.toks }) (t':=s.toks) (fp:=[it]) I1 f1 fun b o hb q=>(zg.2 b (fun z=>hb (by simp [z]))).trans q
  exact⟨.ref s.heap.objs.size,_,I2,rfl,⟨_,kv[i],rfl,Wq,rfl,aC hi⟩,⟨_,_,Tt⟩,fun b hb=>(f1 b hb).1⟩
 done:=by
  intro X hP hw hK hc i pins s σ H E I hf st hg;obtain⟨ok,ov,st⟩:=st;subst hP hw hK;obtain⟨⟨u,hu⟩,hi⟩:=hg;have hl:=rel.length;obtain⟨f0,f1,f2,f3,f4,f5⟩:=hf it (by simp);exact wpAny_pyNext_items_end (I.ok.hd hc) st (hD _ (I.cu a _ hu).1) (oT (by lia)) fun h' eb=>⟨rfl,I.turned (t':=s.toks) (fun b o hb e=>eb b o hb e) f0 f1 f3 f4 f5⟩
 self:=fun A i s Q E ⟨ok,ov,st⟩ h=>by
  have ty:s.TypeIs (.ref it) "dict_itemiterator":=⟨_,st,rfl⟩;refine pM ty jV (cQ jV ty nG ?_ (FC _));show wpAny _ _ (ret (.ref it)) _ _ s;exact az ⟨_,rfl,"dict_itemiterator",_,ty,F.slot_dict_itemiterator_next.lookup,h⟩
end L2
namespace K2
open PySem PySem.Spec PyProof.Rows L2
section
variable {X:Cx}
theorem Vu{pins:List (Addr×Obj)}{σ:L2.St}{H:Hp}{s:aA}{x:V}{kvs:List (D×D)}(I:Inv X pins σ H s)(rd:b7 X.K H x (.iL kvs))(h1:we kvs=true) :
  ∃ a ob u kv vs ep,x=.ref a/\H a=some (.jC ob u)/\mW X.K H kv kvs/\(a == cS)=false/\KV kv vs/\∀ h:Heap,h.get? a=some ob->h.DictAt (cK X.prog X.w) a vs ep:=by
 cases rd with
 | qo hq rs =>
  rename_i a o kv;obtain⟨z,hm,vs,rel,ob,es,ep,ho,r⟩:=(I.cu a _ hq).2;have eo:ob=o:=by have:=(I.cu a _ hq).1; rw [ho] at this; exact ba this
  subst eo;exact⟨a,ob,_,kv,vs,ep,rfl,hq,rs,hm,rel,fun h e=>⟨ob,es,e,r⟩⟩
 | qm hq rs =>
  rename_i a o kv;cases rs with
  | nil =>
   obtain⟨z,hm,xs,rel,ob,es,ep,ho,hx,yM,hl,nd⟩:=(I.cu a _ hq).2;have eo:ob=o:=by have:=(I.cu a _ hq).1; rw [ho] at this; exact ba this
   subst eo;have hv:xs=[]:=by cases rel; rfl
   subst hv;have he:es=#[]:=by simpa using hl
   subst he;exact⟨a,ob,_,[],[],ep,rfl,hq,.nil,hm,.nil,fun h e=>⟨ob,#[],e,hx,yM,(fun _ h=>by simp at h),.nil,cq⟩⟩
  | cons _ _=>simp [we,dE] at h1
theorem mW.item{K:ar}{H:Hp}:∀ {kv:List (Key×V)} {kvs:List (D×D)} {i:Nat} {q:D×D},mW K H kv kvs->kvs[i]?=some q->∃ p,kv[i]?=some p/\q.1=eV p.1/\b7 K H p.2 q.2
 | _,_,_,_,.nil,e=>by simp at e
 | _,_,0,_,.cons r _,e=>by simp at e; subst e; exact⟨_,rfl,rfl,r⟩
 | _,_,i+1,q,.cons _ t,e=>by
  obtain⟨p,h1,h2⟩:=mW.item (i:=i) (q:=q) t (by simpa using e);exact⟨p,by simpa using h1,h2⟩
variable {elts:List Expr} {kk:Nat} {B6 apos rq:Pos} {o:Expr} {to:gK}
theorem MO{K:ar}{H:Hp}(k:Key):b7 K H (kV k) (eV k):=by
 cases k with
 | inl i=>exact .int i
 | inr x=>exact .str x
theorem lT (ho:gH X o to) (Bb:autoParam (Fv o "items" X.env (eval o X.env)=eval o X.env) Ar._auto_1) (Ba:autoParam ((apos.endLine == rq.line)=true) Ar._auto_1) :
  NV X (.Tuple elts kk B6) (.Call (.Attribute o "items" apos) [] [] rq) (jb to):=by
 intro E pins s σ H τ G R hE I h;refine xj Bb Ba (kG ho hE I h fun x H1 d G1 v s1 I1 m1 r1 jS q1=>?_);cases d with
 | iL kvs =>
  obtain⟨h1,q1⟩:=q1;obtain⟨t1,t2⟩:=oy pins s1 σ H1 G1 x _ v I1.inv I1.ab r1 jS trivial;obtain⟨a,ob,u,kv,vs,ep,rfl,hu,rs,hm,rel,hD⟩:=Vu I1.inv jS h1;cases r1;refine⟨"dict","dict.items",cI,gL,sx,t1,t2,nF rfl (y9 ?_)⟩;have dA:=hD _ (I1.inv.cu a _ hu).1;refine nE gL t1 rT (qN _) (meets_dict_items (cK X.prog X.w) a hm) ⟨⟨vs,dA.dictOf⟩,?_⟩;have I2:Inv X pins σ H1 { s1 with heap:=s1.heap.push { cls:=.type "dict_items",data:=.fields #[.ref a] } }:=I1.inv.kept (t':=s1.toks) fun b o e=>aF _ e;refine wpAny_pyIter_items (s:={ s1 with heap:=s1.heap.push { cls:=.type "dict_items",data:=.fields #[.ref a] } }) (kvs:=vs) (ep:=ep) ⟨_,bc _ rfl,rfl,rfl⟩ (dA.push _) ?_;refine⟨_,[_],_,_,H1,G1,kvs.map (fun p=>.tup [p.1,p.2]),_,rfl,I2.kept (t':=s1.toks) fun b o e=>aF _ e,m1,IZ a _ ob kv vs ep rel hD,⟨.none,.none,bc _ rfl⟩,fun b hb=>?_,fun i H2 G2 k ab _=>?_,q1⟩
  ·have e:=List.mem_singleton.mp hb;subst e;exact I2.Cd (aH _) (I2.cu.fresh (aH _))
  ·have rh:=k.jC _ _ _ hu;have Ff:=rs.mono k;have hlen:kv.length=kvs.length:=rs.length;refine⟨fun d hd=>?_,fun hle=>⟨⟨u,rh⟩,by rw [hlen]; simpa using hle⟩⟩;rw [bx] at hd;cases Nw:kvs[i]? with
   | none=>rw [Nw] at hd; cases hd
   | some q =>
    rw [Nw] at hd;obtain⟨p,hp,ek,rp⟩:=Ff.item Nw;have hi:i < kv.length:=(List.getElem?_eq_some_iff.mp hp).1;refine⟨⟨⟨u,rh⟩,hi⟩,fun x H3 ⟨T,p',ex,hT,e3,hy⟩=>?_⟩;subst ex e3;rw [hp] at hy;cases hy;have ed:D.tup [q.1,q.2]=d:=by simpa using hd
    subst ed;rw [ek];exact⟨.tup bN (.cons (MO _) (.cons (rp.mono (.new hT)) .nil)),.Nz ab hT⟩
 | _=>exact q1.elim
end
end K2
end
section
namespace K2
open PySem PySem.Spec PyProof.Rows L2
section
variable {X:Cx}
theorem tw{K:ar}{H:Hp}:∀ {kv:List (Key×V)} {l:List (Int×Int)},mW K H kv (aT l)->kv=l.map fun p=>((.inl p.1:Key),V.int p.2)
 | _,[],h=>by cases h; rfl
 | _,p :: l,h=>by
  have h:mW K H _ ((D.int p.1,D.int p.2) :: aT l):=h;generalize e:(D.int p.1,D.int p.2) :: aT l=t at h;cases h with
  | nil=>cases e
  | cons r rs =>
   rename_i k v d r' t';injection e with e1 e2
   injection e1 with e3 e4
   subst e2 e4;cases r;rw [tw rs];cases k with
   | inl i=>cases e3; rfl
   | inr x=>cases e3
theorem wd:∀ {l:List (Int×Int)} {vs:List (Key×Value)},KV (l.map fun p=>((.inl p.1:Key),V.int p.2)) vs->∃ ts:List Tok,ts.length=l.length/\vs=(l.zip ts).map fun q=>((.inl q.1.1:Key),eT q.1.2 q.2)
 | [],_,.nil=>⟨[],rfl,rfl⟩
 | p :: l,_,.cons h r=>by
  obtain⟨ts,h1,h2⟩:=wd r;rename_i q vs;obtain⟨k,v⟩:=q;obtain⟨e1,t,e2⟩:=h;cases e1;cases e2;exact⟨t :: ts,by simp [h1],by rw [h2]; rfl⟩
theorem DJ{l:List (Int×Int)}{ts:List Tok}(h:ts.length=l.length)(k:Int):(bH l k=none/\pO ((l.zip ts).map fun q=>((.inl q.1.1:Key),eT q.1.2 q.2)) (.inl k)=none)\/∃ v t,bH l k=some v/\pO ((l.zip ts).map fun q=>((.inl q.1.1:Key),eT q.1.2 q.2)) (.inl k)=some (.int v t):=by
 induction l generalizing ts with
 | nil=>exact .inl ⟨rfl,rfl⟩
 | cons p l ih =>
  cases ts with
  | nil=>cases h
  | cons t ts =>
   have ih:=ih (ts:=ts) (by simpa using h);by_cases e:p.1=k
   ·refine .inr ⟨p.2,t,?_,?_⟩
    ·unfold bH; simp [e]
    ·unfold pO; simp [e]
   ·have e':¬ ((.inl p.1:Key)=.inl k):=fun z=>e (by injection z);have a1:bH (p :: l) k=bH l k:=by unfold bH; simp [e]
    have a2:pO (((p :: l).zip (t :: ts)).map fun q=>((.inl q.1.1:Key),eT q.1.2 q.2)) (.inl k)=pO ((l.zip ts).map fun q=>((.inl q.1.1:Key),eT q.1.2 q.2)) (.inl k):=by
     unfold pO; simp [e']
    rw [a1,a2]; exact ih
theorem xR{A:dg}{s:aA}{m:List (Int×Int)}{us:List Tok}(hm:us.length=m.length):∀ {l:List (Int×Int)} {ts:List Tok},ts.length=l.length ->
  PySem.W.KeqHits A s ((m.zip us).map fun q=>((.inl q.1.1:Key),eT q.1.2 q.2)) ((l.zip ts).map fun q=>((.inl q.1.1:Key),eT q.1.2 q.2)) (l.all fun p=>bH m p.1 == some p.2)
 | [],_,_=>.nil
 | p :: l,[],h=>by cases h
 | p :: l,t :: ts,h=>by
  have ih:=xR (A:=A) (s:=s) hm (l:=l) (ts:=ts) (by simpa using h);rcases DJ hm p.1 with ⟨e1,e2⟩ | ⟨v,t',e1,e2⟩
  ·have:((p :: l).all fun p=>bH m p.1 == some p.2)=false:=by simp [e1]
   rw [this];exact .miss e2
  ·have eq:SeqAt.EqAt A s (eT p.2 t) (eT v t') (decide (p.2=v)):=by
    have:=PySem.W.keq_flat (A:=A) (s:=s) (v:=eT p.2 t) (y:=eT v t') (d:=.int p.2) (e:=.int v) (.int _ _) (.int _ _);have e2:SeqAt.EqAt A s (eT p.2 t) (eT v t') (p.2 == v):=by simpa [BO] using this
    exact e2
   have:((p :: l).all fun p=>bH m p.1 == some p.2)=(decide (p.2=v)&&l.all fun p=>bH m p.1 == some p.2):=by
    rw [uC,e1];congr 1;by_cases z:p.2=v
    ·simp [z]
    ·have:¬ v=p.2:=fun y=>z y.symm;simp [z,this]
   rw [this];exact .hit e2 eq ih
theorem S6(hu:X.A.units+64 < cLine):qF X (eS .Eq) (Vz false):=by
 intro pins s σ H G x y dx dy v u Q I ab rx ry dX dY q;obtain⟨l,m,e1,e2,q⟩:=q;obtain⟨a,kv,vs,rfl,rs,z,hm,rel,dd⟩:=xW I ab dX e1 (kW l);obtain⟨b,kw,ws,rfl,Ff,z2,Wg,O9,Fo⟩:=xW I ab dY e2 (kW m);cases rx;cases ry;rw [tw rs] at rel;rw [tw Ff] at O9;obtain⟨ts,t1,rfl⟩:=wd rel;obtain⟨us,t2,rfl⟩:=wd O9;refine PySem.W.keq_eq hm Wg dd Fo (by lia) (fun _=>xR t2 t1) ?_;refine⟨.bl _,H,.bl _,G,I,.refl ab,rfl,.bl _,?_⟩;have:((((l.zip ts).map fun q=>((.inl q.1.1:Key),eT q.1.2 q.2)).length == ((m.zip us).map fun q=>((.inl q.1.1:Key),eT q.1.2 q.2)).length)&&l.all fun p=>bH m p.1 == some p.2)=zj l m:=by
  unfold zj; simp [t1,t2]
 rw [this]; exact q
theorem S5(hu:X.A.units+64 < cLine):qF X (eS .NotEq) (Vz true):=by
 intro pins s σ H G x y dx dy v u Q I ab rx ry dX dY q;obtain⟨l,m,e1,e2,q⟩:=q;obtain⟨a,kv,vs,rfl,rs,z,hm,rel,dd⟩:=xW I ab dX e1 (kW l);obtain⟨b,kw,ws,rfl,Ff,z2,Wg,O9,Fo⟩:=xW I ab dY e2 (kW m);cases rx;cases ry;rw [tw rs] at rel;rw [tw Ff] at O9;obtain⟨ts,t1,rfl⟩:=wd rel;obtain⟨us,t2,rfl⟩:=wd O9;refine PySem.W.keq_ne hm Wg dd Fo (by lia) (fun _=>xR t2 t1) ?_;refine⟨.bl _,H,.bl _,G,I,.refl ab,rfl,.bl _,?_⟩;have:((((l.zip ts).map fun q=>((.inl q.1.1:Key),eT q.1.2 q.2)).length == ((m.zip us).map fun q=>((.inl q.1.1:Key),eT q.1.2 q.2)).length)&&l.all fun p=>bH m p.1 == some p.2)=zj l m:=by
  unfold zj; simp [t1,t2]
 rw [this]; exact q
theorem Ea(hu:X.A.units+64 < cLine):qF X (eS .Eq) (B8 false):=by
 intro pins s σ H G x y dx dy v u Q I ab rx ry dX dY q;rcases q with q | q
 ·exact lU hu pins s σ H G x y dx dy v u Q I ab rx ry dX dY q
 ·exact S6 hu pins s σ H G x y dx dy v u Q I ab rx ry dX dY q
theorem D9(hu:X.A.units+64 < cLine):qF X (eS .NotEq) (B8 true):=by
 intro pins s σ H G x y dx dy v u Q I ab rx ry dX dY q;rcases q with q | q
 ·exact PH hu pins s σ H G x y dx dy v u Q I ab rx ry dX dY q
 ·exact S5 hu pins s σ H G x y dx dy v u Q I ab rx ry dX dY q
variable {k v:Expr} {tk tv:gK} {pos:Pos}
theorem PB(hk:gH X k tk)(hv:gH X v tv):gH X (.Dict [some k] [v] pos) (Dp tk tv):=by
 intro E pins s σ H τ G Q hE I h;have hn:=I.inv.cu.fresh (aH s.heap.objs.size);have I1:=I.inv.laid (a:=s.heap.objs.size) (o:=.dK []) (h':=s.heap.push { cls:=.type "dict",data:=.dict #[] }) (t':=s.toks) (fun _ _ q=>aF _ q) (aH _) (Hz s.heap I.inv.big);have mh:Mv X.K H G (upd H s.heap.objs.size (.dK [])) G:=.Nz I.ab hn;have I2:I2 X pins σ (upd H s.heap.objs.size (.dK [])) τ G { s with heap:=s.heap.push { cls:=.type "dict",data:=.dict #[] },toks:=s.toks }:=⟨I1,I.st.mono (.new hn),mh.ab⟩;refine wpAny_Dict_walk (knd:=cK X.prog X.w) (by rfl) (by rfl) (by simp) (show 1<=15 by decide) ?_;refine pairTrees_cons_walk (kG hk hE I2 h fun x H1 dx G1 u s1 I3 m1 r1 jS q1=>?_);refine kG hv hE I3 q1 fun y H2 dy G2 w s2 I4 m2 r2 Av q2=>?_;obtain⟨hk1,q2⟩:=q2;refine pairTrees_nil_walk ?_;obtain⟨kk,rfl⟩:=wg hk1;have ex:=vL jS;subst ex;have g0:G s.heap.objs.size=none:=I.ab.free hn;obtain⟨p1,p2⟩:=m1.keep _ _ (bN (H:=H) (a:=s.heap.objs.size) (o:=.dK [])) g0;obtain⟨p3,p4⟩:=m2.keep _ _ p1 p2;obtain⟨rs,c,rk⟩:=Bu (P:=X.prog) (w:=X.w) (kvs:=[(kk,y)]) (ws:=[(u,w)]) (.cons ⟨r1,r2⟩ .nil);obtain⟨z,hd,vs0,r0,dd⟩:=Dj I4.inv.cu p3;cases r0;refine⟨rs,c,dd,fun h' Dl hs=>?_⟩;have he:∃ q,h'.get? s.heap.objs.size=some q:=let ⟨q,_,_,hq,_⟩:=Dl; ⟨q,hq⟩
 have em:JA [] [(kk,y)]=[(kk,y)]:=rfl;have kp:Kp H2 (upd H2 s.heap.objs.size (.dK [(kk,y)])):=.putD p3 (.inl ⟨_,rfl⟩);have I5:=ub (t':=s2.toks+[(u,w)].length) I4.inv (by rw [p3]; exact gT) hs he (Bn (kvs:=JA [] [(kk,y)]) (by rw [em]; exact(show 1<=a9 by decide)) hd (rk.merge .nil) Dl);rw [em] at I5;have Ir:=(mh.trans m1).trans m2;refine⟨.ref s.heap.objs.size,_,.ref s.heap.objs.size,_,I5,?_,rfl,.ref _,q2 _ p4⟩;refine⟨fun a o e n=>?_,fun a n=>?_,fun a g e=>?_⟩
 ·have ha:a≠s.heap.objs.size:=fun z=>by rw [z,hn] at e; cases e
  obtain⟨k1,k2⟩:=Ir.keep a o e n;exact⟨by rw [bz ha]; exact k1,by rw [cw ha]; exact k2⟩
 ·by_cases ha:a=s.heap.objs.size
  ·subst ha; rw [bN]; simp
  ·rw [bz ha]; exact Ir.k9 a n
 ·by_cases ha:a=s.heap.objs.size
  ·subst ha;rw [ax] at e;cases e;exact .dk bN (.cons ((Av.mono kp)) .nil)
  ·rw [cw ha] at e;exact(Ir.ab a g e).mono kp (bz ha)
end
section
variable {X:Cx} {pins:List (Addr×Obj)} {σ:L2.St} {H1 H':Hp} {s1 s':aA} {p:Addr} {u0:HO} {ob:Obj}
theorem Inv.Z4(I1 : Inv X pins σ H1 s1)(I' : Inv X pins σ H' s')(e1 : H1 p = some u0)(hu : Km u0 = true)(e' : H' p = some (.jC ob u0)) : Inv X pins σ (upd H' p u0) s' where
  ok := I'.ok
  os := I'.os
  bare := I'.bare
  base := { keep := I'.base.keep, slot := I'.base.slot, there := I'.base.there
            free := fun b o q n hx => by
              have hb : b ≠ p := fun z => by have := I1.base.free b o q n hx; rw [z, e1] at this; cases this
              rw [bz hb]; exact I'.base.free b o q n hx
            sG := fun b xs q => by
              have hb : b ≠ p := fun z => by have := I1.base.sG b xs q; rw [z, e1] at this; cases this; cases hu
              rw [bz hb]; exact I'.base.sG b xs q
            rZ := fun b o u q => by
              have hb : b ≠ p := fun z => by have := I1.base.rZ b o u q; rw [z, e1] at this; cases this; cases hu
              rw [bz hb]; exact I'.base.rZ b o u q
            uR := fun b ps q => by
              have hb : b ≠ p := fun z => by have e := I1.base.uR b ps q; rw [z, e1] at e; cases e; cases hu
              rw [bz hb]; exact I'.base.uR b ps q
            uX := fun b x q => by
              have hb : b ≠ p := fun z => by have e := I1.base.uX b x q; rw [z, e1] at e; cases e; cases hu
              rw [bz hb]; exact I'.base.uX b x q }
  loc := I'.loc
  cell := I'.cell
  free := by
    have hb : X.env.locals ≠ p := fun z => by have := I'.free; rw [z, e'] at this; cases this
    rw [bz hb]; exact I'.free
  mG := fun x c e => by
    have hb : c ≠ p := fun z => by have := I'.mG x c e; rw [z, e'] at this; cases this
    rw [bz hb]; exact I'.mG x c e
  pin := fun q hq => by
    obtain⟨h1, h2, h3⟩ := I'.pin q hq;have hb : q.1 ≠ p := fun z => by rw [z, e'] at h2; cases h2
    exact⟨h1, by rw [bz hb]; exact h2, h3⟩
  cu := fun a o q => by
    have st : ∀ u, fu X.prog X.w H' s'.heap a u -> fu X.prog X.w (upd H' p u0) s'.heap a u := fun u x =>
      x.k9 (fun b v _ r => r) (fun b r => by
        have hb : b ≠ p := fun z => by rw [z, e'] at r; cases r
        rw [bz hb]; exact r) (fun b xs r => by
        have hb : b ≠ p := fun z => by rw [z, e'] at r; cases r
        rw [bz hb]; exact r)
    by_cases ha : a = p
    · subst ha
      rw [bN] at q;cases q;exact st _ (I'.cu a _ e').2
    · rw [bz ha] at q
      exact st _ (I'.cu a _ q)
  len := I'.len
end
section
variable {X:Cx} {e:Expr} {t:Fp} {pos p:Pos} {x:Str} {k:Nat} {f:Addr} {fd:gy} {ps:List Str} {sp:kC}
theorem mW.plain{K:ar}{H H2:Hp}:∀ {kv:List (Key×V)} {kvs:List (D×D)},mW K H kv kvs->(kvs.all fun p=>dE p.1&&qU p.2)=true->mW K H2 kv kvs
 | _,_,.nil,_=>.nil
 | _,_,.cons (d:=d) r rs,h=>by
  rw [uC,aK,aK] at h;refine .cons ?_ (mW.plain rs h.2);have hp:=h.1.2;cases r with
  | fg=>exact .fg
  | bl b=>exact .bl _
  | int i=>exact .int _
  | _=>exact absurd hp (by simp [qU])
theorem MX(F:uw X.prog X.w X.K X.mg X.base Iy k f fd ps (zd X.K sp))(hr:mJ k X.A)(hg:Gl X x)(hm:X.mg x=some (.ref f))(hk:qM X.K (.ref f)=true)(hb:Binds X.K fd ps [])
  (ha:Cw X [e] t) (Ep:autoParam ((x == ("__debug__" : Str))=false) Ad._auto_1) (he:autoParam (bI [e] X.env=(false,eval e X.env) :: bI [] X.env) Ar._auto_1) (Cc:autoParam ((rE pos (bI [] X.env)).any (·.1)=false) Ar._auto_1) :
  gH X (.Call (.Name x p) [e] [] pos) (Kk sp t):=by
 intro E pins s σ H τ G Q hE I h;refine eX (wc I.inv hg hm ?_ Ep);refine za (h₀:=X.base) I.inv.ok.mod.WZ hk (z8 ha pos hE I h fun vs H1 ds G1 us s1 I1 m1 r rd q=>⟨I1.inv.Fh,?_⟩) he Cc;split at q
 ·rename_i p;obtain⟨kvs,ZH,q⟩:=q;obtain⟨v0,rfl,rv0⟩:=rd.one;cases rv0;have hS:∀ a,a≠p->jR (fun a=>a == p) G1 a=false:=fun a h=>by simp [jR,h]
  have rep:b7 X.K (nY s1.heap (jR (fun a=>a == p) G1) H1) (.ref p) (.iL kvs):=JX I1.inv I1.ab (Fz.eW ZH (by simp) (.same _)) (.ref p);have I1':=Inv.freeze I1.inv (jR (fun a=>a == p) G1);obtain⟨u0,ob,e0,hc0,ef⟩:∃ u0 ob,H1 p=some u0/\Km u0=true/\nY s1.heap (jR (fun a=>a == p) G1) H1 p=some (.jC ob u0):=by
   rcases I1.ab p _ ZH with ⟨kv,hv,rs⟩ | ⟨kv,hv,rs⟩
   ·obtain⟨ob,ho⟩:=K2.kT (I1.inv.cu p _ hv);exact⟨_,ob,hv,rfl,rj (by simp [jR,ZH]) hv rfl ho⟩
   ·obtain⟨ob,ho⟩:=K2.kT (I1.inv.cu p _ hv);exact⟨_,ob,hv,rfl,rj (by simp [jR,ZH]) hv rfl ho⟩
  have out:∀ a,a≠p->nY s1.heap (jR (fun a=>a == p) G1) H1 a=H1 a:=fun a h=>wC (hS a h);generalize nY s1.heap (jR (fun a=>a == p) G1) H1=H2 at rep I1' ef out;refine iB (O6 F hr hb .nil Uv I1' r (Q:=fun v H'=>∃ d G',Mv X.K H2 (fun _=>none) H' G'/\b7 X.K H' v d/\((qU d=true/\Q d G1)\/∃ q GR,d=.ref q/\G' q=some (.eW GR)/\(GR.all fun p=>dE p.1&&qU p.2)=true/\gv G1 (.eW GR) Q)) ?_) fun u s2 z=>?_
  ·exact⟨[.iL kvs],fun _=>none,_,.cons rep .nil,(fun a g e=>by(cases e)),q,(fun d G' v H' q2 m rd=>⟨d,G',m,rd,q2⟩)⟩
  ·obtain⟨v,H',I',rv,d,G',m,rd,post⟩:=z;have Zy:∀ a o,H2 a=some o->H' a=some o/\G' a=none:=fun a o e=>m.keep a o e rfl;have ep:=(Zy p _ ef).1;have I3:=Inv.Z4 I1.inv I' e0 hc0 ep;have same:∀ a o,H1 a=some o->upd H' p u0 a=some o:=fun a o e=>by
    by_cases h:a=p
    ·subst h; rw [bN,<-e0,e]
    ·rw [bz h]; exact(Zy a o (by rw [out a h]; exact e)).1
   have kp:Kp H1 (upd H' p u0):=⟨fun a xs e=>same a _ e,fun a o u e=>same a _ e⟩;have Ku:mM X.K (upd H' p u0) G1:=fun a g eg=>by
    have ab1:=I1.ab a g eg;cases eh:H1 a with
    | none=>exact absurd eh ab1.tracked
    | some o=>exact ab1.mono kp (by rw [same a o eh,eh])
   have mv:Mv X.K H1 G1 (upd H' p u0) G1:=⟨fun a o e n=>⟨same a o e,n⟩,fun a n=>by
    cases eg:G1 a with
    | none=>exact absurd eg n
    | some g=>exact(Ku a g eg).tracked,Ku⟩
   rcases post with ⟨hp,q3⟩ | ⟨q0,GR,rfl,gq,xS,q3⟩
   ·have Xs:b7 X.K (upd H' p u0) v d:=by
     cases rd with
     | fg=>exact .fg
     | bl b=>exact .bl _
     | int i=>exact .int _
     | _=>exact absurd hp (by simp [qU])
    exact rP.trans m1 ⟨v,_,d,G1,I3,mv,rv,Xs,q3⟩
   ·cases rd;have Nv:H1 q0=none:=by
     cases eh:H1 q0 with
     | none=>rfl
     | some o =>
      by_cases h:q0=p
      ·subst h;have:=(Zy q0 _ ef).2;rw [gq] at this; cases this
      ·have:=(Zy q0 o (by rw [out q0 h]; exact eh)).2;rw [gq] at this; cases this
    have g1:G1 q0=none:=I1.ab.free Nv;have nq:q0≠p:=fun z=>by rw [z,e0] at Nv; cases Nv
    refine rP.trans m1 ⟨.ref q0,_,.ref q0,_,I3,?_,rv,?_,q3 q0 g1⟩
    ·refine⟨fun a o e n=>⟨same a o e,?_⟩,fun a n=>mv.k9 a n,fun a g eg=>?_⟩
     ·have:a≠q0:=fun z=>by rw [z,Nv] at e; cases e
      rw [cw this]; exact n
     ·by_cases h:a=q0
      ·subst h;rw [ax] at eg;cases eg;rcases m.ab a _ gq with ⟨kv,hv,rs⟩ | ⟨kv,hv,rs⟩
       ·exact .dk (by rw [bz nq]; exact hv) (rs.plain xS)
       ·cases rs with
        | nil=>exact .dt (by rw [bz nq]; exact hv) .nil
        | cons _ _=>simp [dE] at xS
      ·rw [cw h] at eg; exact Ku a g eg
    ·exact .ref _
 ·exact q.elim
end
end K2
end
section
namespace K2
open PySem PySem.Spec PyProof.Rows L2 PySem.W
section
variable {X:Cx}
theorem yp:∀ (ns:List Int) (j:Nat),(∀ n∈ns,-1000<=n/\n<=1000)->-1000 * (ns.length:Int)<=(ns.take j).sum/\(ns.take j).sum<=1000 * (ns.length:Int)
 | [],j,_=>by simp
 | n :: ns,0,_=>by simp only [List.take_zero,List.sum_nil,ai]; lia
 | n :: ns,j+1,h=>by
  have h1:=h n (by simp);have:=yp ns j fun m hm=>h m (aJ _ hm);rw [List.take_succ_cons,uB,ai]; lia
theorem NN (hc:X.calm=true):qg X (.builtin "sum") WH:=by
 intro pins s σ H G xs ds us Q I ab rx rd q;unfold WH at q;split at q
 ·rename_i x;obtain⟨ns,ty,hi,⟨hn,hb⟩,q⟩:=q;obtain⟨w1,rfl,ze⟩:=rd.one;obtain⟨u,rfl,ru⟩:=rx.one;obtain⟨l,vs,bQ,rfl,rv,rs,hl,_⟩:=kN I ab ru ze (CU ty hi);have ev:=rs.ints;subst ev;have hlen:bQ.length=ns.length:=by rw [<-rv.length,ao]
  obtain⟨o,ho,JV,n,hd⟩:=id hl;have zh:l≠s.heap.objs.size:=bu (aP ho);refine call_sum_walk (IA hl ?_);refine⟨s.heap.objs.size,_,_,_,_,_,fun i=>ns.getD i 0,rfl,Walks.list (A:=X.A.in1) (show X.A.in1.handled=none from I.ok.hd hc) _ l zh bQ.toArray,⟨⟨_,bc _ rfl,rfl,rfl⟩,⟨o,aF _ ho,JV,n,hd⟩⟩,fun b hb=>?_,fun i v hv=>?_,fun j hj=>?_,fun h' tk t' hk=>?_⟩
  ·rcases (by simpa using hb:b=s.heap.objs.size\/b=l) with rfl | rfl
   ·rw [jI]; exact pQ _
   ·rw [jI]; exact uk (aP ho)
  ·have Yc:bQ[i]?=some v:=by simpa using hv
   have Ts:i < bQ.length:=(List.getElem?_eq_some_iff.mp Yc).1;have UQ:i < ns.length:=by lia
   obtain⟨u,Fi,ru⟩:=rv.get (i:=i) (x:=.int ns[i]) (by rw [bx,aC UQ]; rfl);rw [Yc] at Fi;cases Fi;obtain⟨t,rfl⟩:=ru;refine⟨t,?_⟩;have e9:ns.getD i 0=ns[i]:=by rw [cT,aC UQ]; rfl
   show eT ns[i] t=eT (ns.getD i 0) t;rw [e9]
  ·have hj':j < ns.length:=by rw [<-hlen]; simpa using hj
   have e1:ns.getD j 0=ns[j]:=by rw [cT,aC hj']; rfl
   have b1:=hb ns[j] (gI hj');have b2:=yp ns (j+1) hb;rw [B1];dsimp only;rw [e1];unfold InLong;lia
  ·have e:preSum (fun i=>ns.getD i 0) bQ.toArray.size=ns.sum:=by
    rw [B1,a8,hlen,List.take_length]
   rw [e];refine⟨.int _,H,.int _,G,I.kept (t':=tk) fun b o e=>hk b o (by simpa using bu (aP e)) (aF _ e),.refl ab,⟨_,rfl⟩,.int _,q⟩
 ·exact q.elim
end
end K2
end
section
namespace L2
open PySem PySem.Spec PyProof.Rows PySem.W
section
variable {prog:bE} {w:World} {A:dg} {E:Value->aA->Prop} {s:aA}
theorem JC(d:Addr)(hd:(d == cS)=false):MeetsIn prog w (Builtin.«dict.__len__» ⟨[.ref d],[]⟩) (fun _ R s=>∃ o es ep,(s.heap.get? d=some o/\o.data=.dict es ep)/\R (.ok (.ret (.int es.size s.toks))) { s with toks:=s.toks+1 }) :=
 .of_wp fun A R s Oh=>by
  obtain⟨o,es,ep,⟨ho,dd⟩,h⟩:=Oh;show wpAny _ _ (dictSize d >>= _) _ _ s;unfold dictSize;refine ah (ah (gm ho dd (az (show wpAny _ _ (Builtin.Dict.pendingCount d >>= _) _ _ s from ?_))));refine ah (wpAny_pendingCount_other hd (wpAny_ret_mkInt ?_));rw [Fb]; exact h
theorem NM{d:Addr}{o:Obj}{es:Array fL}{ep:Nat}{Q:Value->aA->Prop}(hd:(d == cS)=false)(ho:s.heap.get? d=some o)(ex:o.ExactDict)(dd:o.data=.dict es ep)(hz:es.size<=1000)
  (h:∀ t tk,Q (.int es.size t) { s with toks:=tk }):wpAny (model prog w) A (call (.builtin "len") [.ref d]) Q E s:=by
 have ty:s.TypeIs (.ref d) "dict":=⟨o,ho,ex.1⟩;refine IS kind_len plain_len entry_len (args_len1 _) ?_;unfold Builtin.«len»;refine ah (m:=oneArg "len" _) (az (ah (m:=callSpecial? (.ref d) (kD "__len__")) ?_));refine eP (name:=kD "__len__") ty F.slot_dict_len (nE F.slot_dict_len ty F.entry_dict_len (F.args_dict_len_1 _) (JC d hd) ⟨o,es,ep,⟨ho,dd⟩,?_⟩);show wpAny _ _ _ _ _ { s with toks:=s.toks+1 };refine ah (cG (az (ah (sf ?_))));have n1:¬ ((es.size:Nat):Int) < 0:=by lia
 have n2:¬ ((es.size:Nat):Int)>=2 ^ 63:=by lia
 show wpAny _ _ (if ((es.size:Nat):Int) < 0 then _ else _) _ _ _;rw [if_neg n1];show wpAny _ _ (if ((es.size:Nat):Int)>=2 ^ 63 then _ else _) _ _ _;rw [if_neg n2];exact ah (wpAny_mkInt (az ⟨_,rfl,h _ _⟩))
end
end L2
end
section
namespace K2
open PySem PySem.Spec PyProof.Rows L2
theorem _root_.Internal.L2.fu.there{P:bE}{w:World}{H:Hp}{h:Heap}{a:Addr}{o:HO}(x:fu P w H h a o):∃ ob,h.get? a=some ob:=by
 cases o with
 | lst xs=>obtain⟨_,_,_,_,e⟩:=x; exact⟨_,e⟩
 | tup xs=>obtain⟨_,_,_,ob,e,_⟩:=x; exact⟨_,e⟩
 | dK kvs=>obtain⟨_,_,_,_,o,_,_,e,_⟩:=x; exact⟨_,e⟩
 | dT kvs=>obtain⟨_,_,_,_,o,_,_,e,_⟩:=x; exact⟨_,e⟩
 | set S n=>obtain⟨o,_,_,_,e,_⟩:=x; exact⟨_,e⟩
 | ins C dx fs=>obtain⟨_,_,_,e,_⟩:=x; exact⟨_,e⟩
 | own y=>exact x
 | xd fs=>obtain⟨_,⟨_,_,_,e,_⟩,_⟩:=x; exact⟨_,e⟩
 | Xr lo hi=>obtain⟨_,_,_,e⟩:=x; exact⟨_,e⟩
 | jC ob u=>obtain⟨e,_⟩:=x; exact⟨_,e⟩
 | Sq ps=>obtain⟨_,e,_⟩:=x; exact⟨_,e⟩
 | met f y=>exact⟨_,x⟩
 | ext φ=>obtain⟨_,e,_⟩:=x; exact e
def kp1:HO->Bool
 | .tup _=>true
 | .jC _ (.lst _)=>true
 | .jC _ (.dK _)=>true
 | .jC _ (.dT _)=>true
 | .jC _ (.ext _)=>true
 | .jC _ (.xd _)=>true
 | _=>false
def hr(H:Hp):Hp:=fun b=>(H b).bind fun o=>if kp1 o=true then some o else none
def hj(H1 H':Hp):Hp:=fun b=>match H1 b with
 | some o=>some o
 | none=>H' b
section
variable {P:bE} {w:World} {K:ar} {H H1 H':Hp} {h h':Heap} {b:Addr} {o:HO} {fs:List Addr}
theorem rK(q:H1 b=some o):hj H1 H' b=some o:=by unfold hj; rw [q]
theorem xQ(q:H1 b=none):hj H1 H' b=H' b:=by unfold hj; rw [q]
end
def subIn(K:ar)(C:Addr)(v:Value):Bool:=match K.lookup C with
 | some ⟨_,_,.cls cd,_⟩=>cd.mro.contains v
 | _=>false
section
variable {X:Cx} {e:Expr} {te:gK} {pos:Pos}
theorem jH{i:Nat}{x:Str}{pos':Pos}(hN:X.N.Nodup)(hi:X.N[i]?=some x)(he:gH X e te)(hx:autoParam (Loc X.env.scope x) Ao._auto_1)(hs:autoParam (Ov e (some (.Name x pos')) pos.line X.env=pure false) Ar._auto_1)(hf:autoParam (X.fn x=true\/X.env.scope.names.lookup x=some .local) Ao._auto_1) :
  Iw X (.Assign [.Name x pos'] e pos) (bB te (aG i)):=SM hN hi hx he hs hf
theorem jZ{i:Nat}{x:Str}(hN:X.N.Nodup)(hi:X.N[i]?=some x)(hx:autoParam (Loc X.env.scope x) Ao._auto_1)(hf:autoParam (X.fn x=true\/X.env.scope.names.lookup x=some .local) Ao._auto_1):NW X (.Name x pos) (aG i):=Pw hN hi hx hf
theorem fo2{P:bE}{w:World}{K:ar}{mg:Str->Option Value}{base:Heap}{x qual:Str}{st:Stmt}{f:Addr}{fd:gy}{Nn ps:List Str}{k:Nat}{sp:kC}{rd:iq}(F:Ub K x qual st f fd)(S:pK Nn ps (cf st))
  (hr:∀ ds G Q,sp ds G Q (fun _ _=>False)->rd (fun _ _=>False) (ends Q) (bg Nn.length ds) G)
  (hb:∀ (ot:Value) (A:dg) (outer:List Env) (s:aA) (H:Hp) (E:XK),mJ k (A.deeper (Cz qual (cf st) s.heap.objs.size f ot))->yh (EL Iy P w K mg base Nn qual (cf st) f ot A outer s H E).VS (jf st) rd)
  (len:autoParam (∀ ds G Q E,sp ds G Q E->ds.length=ps.length) Al._auto_1):uw P w K mg base Iy (k+1) f fd ps (zd K sp):=LU F S len hr hb
theorem scm{N ps:List Str}{sc:Scope}(h1:autoParam (sc.kind=.function) Ar._auto_1)(h2:autoParam (sc.isCoroutine=false) Ar._auto_1)(h3:autoParam (sc.isGenerator=false) Ar._auto_1)(h4:autoParam N.Nodup Ak._auto_1)(h5:autoParam (N.take ps.length=ps) Ar._auto_1)
  (h6:autoParam (∀ x∈ps,sc.names.lookup x=some .local\/sc.names.lookup x=some .cell) Ak._auto_1) (h7:autoParam (∀ y∈sc.names,y.2≠.free) Ak._auto_1):pK N ps sc:=⟨h1,h2,h3,h4,h5,h6,h7⟩
end
section
variable {X:Cx} {a b c:Expr} {ta tb tc:gK} {pos:Pos}
theorem tX {x:Str} {i:Int} {t:Tok} {p:Pos} (hg:Gl X x) (hm:X.mg x=some (.int i t)) (hd:autoParam ((x == ("__debug__" : Str))=false) Ad._auto_1):gH X (.Name x p) (dC (.int i)):=xE (SW (v:=.int i) hg hm ⟨t,rfl⟩ hd) fun _ _=>.int i
end
end K2
end
section
namespace L2
open PySem PySem.Spec PyProof.Rows
section
variable {prog:bE} {w:World} {A:dg} {E:Value->aA->Prop} {s:aA}
theorem JQ{it d:Addr}{od:Obj}{es:Array fL}{i ep:Nat}{ok ov:Value}{Q:Option Value->aA->Prop}(hit:pU s.heap it d i es.size ep ok ov)(Fj:s.heap.get? d=some od)(dd:od.data=.dict es ep)(hi:i < es.size)
  (hQ:∀ h',IsItemIterOut h' it d (i+1) es.size ep es[i].key es[i].val s.heap.objs.size->h'.get? s.heap.objs.size=some { cls:=.type "tuple",data:=.seq #[es[i].key,es[i].val] }->(∀ b o,b≠it->s.heap.get? b=some o->h'.get? b=some o)->Q (some (.ref s.heap.objs.size)) { s with heap:=h' }) :
  wpAny (model prog w) A (nC (.ref it)) Q E s:=by
 obtain⟨hp,g,dr,tk,os⟩:=s;have ty:Shared.TypeIs ⟨hp,g,dr,tk,os⟩ (.ref it) "dict_itemiterator":=⟨_,hit,rfl⟩;unfold nC;refine ah (rQ (eP (name:=kD "__next__") ty jU (cQ jU ty Im ?_ (FA _))));refine ah (az (ah (ah ?_)))
 first | refine ah (jO ty (az (ah (qh hit rfl ?_)))) | refine ah (mx ty (az (ah (qh hit rfl ?_))))
 have PG:fN "dict_itemiterator" = true:=by decide
 rw [PG];show wpAny _ _ (if (fK d == gQ)=true then _ else _) _ _ _;rw [if_neg (fun z=>by cases z)];refine ah (az (ah (gm Fj dd ?_)));rw [if_neg (by simp)];refine ah (az (ah (ow Fj dd ?_)));rw [if_neg (by simp)];refine az ?_;dsimp only;rw [if_neg (show ¬ ((i:Int) < 0) from Int.not_lt.mpr (se i)),eF,IV hi];dsimp only;refine ah ?_
 first | refine ah (jO ty (az (ah (o7 ty ?_)))) | refine ah (mx ty (az (ah (o7 ty ?_))))
 show wpAny _ _ (setField (.ref it) 3 (vo ((i:Int)+1)) >>= _) _ _ ⟨hp,g,dr,tk,os⟩;refine ah (kO hit (by simp) fun h1 e1 s1=>?_);have s1:fI it hp h1:=s1;have e1:pU h1 it d (i+1) es.size ep ok ov:=by
  have e:((i+1:Nat):Int)=(i:Int)+1:=by lia
  unfold pU; rw [e]; simpa [vo] using e1
 have ty1:Shared.TypeIs ⟨h1,g,dr,tk,os⟩ (.ref it) "dict_itemiterator":=⟨_,e1,rfl⟩;refine ah (cG (ah (o7 ty1 (ah (o7 ty1 ?_)))));show wpAny _ _ (sC (.ref it) 6 es[i].key es[i].val) _ _ ⟨h1,g,dr,tk,os⟩;unfold sC;refine ah (R8 ?_);have z1:h1.objs.size=hp.objs.size:=s1.1;have lt:it < hp.objs.size:=aP hit;have e2:pU (h1.push { cls:=.type "tuple",data:=.seq #[es[i].key,es[i].val] }) it d (i+1) es.size ep ok ov:=aF _ e1;have t2:(h1.push { cls:=.type "tuple",data:=.seq #[es[i].key,es[i].val] }).get? hp.objs.size=some { cls:=.type "tuple",data:=.seq #[es[i].key,es[i].val] }:=by rw [<-z1]; exact bc _ rfl
 have k2:∀ b o,b≠it->hp.get? b=some o->(h1.push { cls:=.type "tuple",data:=.seq #[es[i].key,es[i].val] }).get? b=some o:=fun b o hb e=>aF _ (s1.extBut b o hb e);generalize h1.push { cls:=.type "tuple",data:=.seq #[es[i].key,es[i].val] } = h2 at e2 t2 k2;show wpAny _ _ (jG (.ref it) >>= _) _ _ ⟨h2,g,dr,tk,os⟩;rw [z1];refine ah (show wpAny _ _ (jG (.ref it)) _ _ _ from ?_);unfold jG;refine ah (iu e2 rfl (x:=.none) rfl (az ?_));rw [if_pos rfl];refine ah (iu e2 rfl (x:=ok) rfl (ah (iu e2 rfl (x:=ov) rfl (ah (kO e2 (by simp) fun h3 e3 s3=>?_)))));have s3:fI it h2 h3:=s3;have e3:pU h3 it d (i+1) es.size ep es[i].key ov:=e3;refine ah (kO e3 (by simp) fun h4 e4 s4=>?_);have s4:fI it h3 h4:=s4;have e4:pU h4 it d (i+1) es.size ep es[i].key es[i].val:=e4;refine ah (kO e4 (by simp) fun h5 e5 s5=>?_);have s5:fI it h4 h5:=s5;have e5:IsItemIterOut h5 it d (i+1) es.size ep es[i].key es[i].val hp.objs.size:=e5;refine ah (kO e5 (by simp) fun h6 e6 s6=>?_);have s6:fI it h5 h6:=s6;have all:∀ b o,b≠it->h2.get? b=some o->h6.get? b=some o:=fun b o hb e=>s6.extBut b o hb (s5.extBut b o hb (s4.extBut b o hb (s3.extBut b o hb e)));exact ah (sf (az (az ⟨_,rfl,az (hQ h6 e6 (all _ _ (oV lt) t2) fun b o hb e=>all b o hb (k2 b o hb e))⟩)))
end
end L2
namespace L2
open PySem PySem.Spec PyProof.Rows
section
variable {prog:bE} {w:World} {A:dg} {E:Value->aA->Prop} {s:aA}
theorem Nm{it d:Addr}{od:Obj}{es:Array fL}{i ep:Nat}{ok ov:Value}{Q:Option Value->aA->Prop}(calm:A.handled=none)(hit:pU s.heap it d i es.size ep ok ov)(Fj:s.heap.get? d=some od)(dd:od.data=.dict es ep)(hi:es.size<=i)
  (hQ:∀ h',Heap.ExtBut it s.heap h'->Q none { s with heap:=h' }):wpAny (model prog w) A (nC (.ref it)) Q E s:=by
 have ty:s.TypeIs (.ref it) "dict_itemiterator":=⟨_,hit,rfl⟩;unfold nC;refine ah (rQ (eP (name:=kD "__next__") ty jU (cQ jU ty Im ?_ (FA _))));refine ah (az (ah (ah ?_)))
 first | refine ah (jO ty (az (ah (qh hit rfl ?_)))) | refine ah (mx ty (az (ah (qh hit rfl ?_))))
 have PG:fN "dict_itemiterator" = true:=by decide
 rw [PG];show wpAny _ _ (if (fK d == gQ)=true then _ else _) _ _ s;rw [if_neg (fun z=>by cases z)];refine ah (az (ah (gm Fj dd ?_)));rw [if_neg (by simp)];refine ah (az (ah (ow Fj dd ?_)));rw [if_neg (by simp)];refine az ?_;dsimp only;rw [if_neg (show ¬ ((i:Int) < 0) from Int.not_lt.mpr (se i)),eF,N9 hi];dsimp only;refine ah ?_
 first | refine ah (jO ty (az (?_))) | refine ah (mx ty (az (?_)))
 show wpAny _ _ (setField (.ref it) 2 .none >>= _) _ _ s;refine ah (R7 hit rfl (by simp) (show wpAny _ _ (newExc (.type "StopIteration") [] >>= _) _ _ _ from ah ?_));simp only [newExc,newTuple];refine ah (dj (ah (m:=Cy _ _) (wpAny_of_eq (a:=gQ) (by first | rfl | (simp only [Cy]; rfl)) (dj ?_ (by size_fits)))) (by size_fits));simp only [raiseNew];refine ah (wpAny_handled ?_);rw [show A.in1.handled=none from calm];refine ah (az (wpAny_throw ?_));refine ah (mN (T:="StopIteration") (b:=true) ⟨_,bc _ rfl,rfl⟩ R9 (?_));exact az (hQ _ (((kh ..).extBut.push _).push _))
end
end L2
namespace L2
open PySem PySem.Spec PyProof.Rows
section
variable {prog:bE} {w:World} {A:dg} {E:Value->aA->Prop} {s:aA}
theorem v5 (d:Addr) (ns:(d == cS)=false):MeetsIn prog w (Builtin.«dict.items» ⟨[.ref d],[]⟩) (fun _ R s=>s.TypeIs (.ref d) "dict"/\R (.ok (.ret (.ref s.heap.objs.size))) { s with heap:=s.heap.push { cls:=.type "dict_items",data:=.fields #[.ref d] } }):=by
 refine .of_wp ?_;rintro A R s ⟨ty,h⟩;unfold Builtin.«dict.items» Builtin.Dict.noArgs;refine ah (ah (qj ty (show wpAny _ _ (pure d) _ _ s from az ?_)));show wpAny _ _ (mi d >>= _) _ _ s;unfold mi;rw [if_neg (fun z=>by rw [ns] at z; cases z)];exact ah (az (ah (dj (az ⟨_,rfl,h⟩))))
theorem yK{v d:Addr}{od:Obj}{es:Array fL}{ep:Nat}{Q:Value->aA->Prop}(hv:s.heap.IsItemsView v d)(Fj:s.heap.get? d=some od)(dd:od.data=.dict es ep)
  (hQ:Q (.ref s.heap.objs.size) { s with heap:=s.heap.push { cls:=.type "dict_itemiterator",data:=.fields #[.none,.bool false,.ref d,.int 0 0,.int es.size 0,.int ep 0,.none,.none] } }) :
  wpAny (model prog w) A (Fu (.ref v)) Q E s:=by
 obtain⟨ov,hov,hcv,hdv⟩:=id hv;refine pM hv.typeIs F.slot_dict_items_iter (cQ F.slot_dict_items_iter hv.typeIs F.entry_dict_items_iter ?_ (F.args_dict_items_iter_1 _));unfold Builtin.«dict_items.__iter__» Builtin.Dict_items.dictOf;refine ah (az (ah (ah (iu hov hdv (x:=.ref d) rfl (az (ah ?_))))));unfold Builtin.Dict_items.newIterator;refine ah (gm Fj dd (ah (ow Fj dd ?_)));have PG:fN "dict_itemiterator" = true:=by decide
 rw [PG];dsimp only;rw [if_pos (show true=true from rfl)];refine dj (az ⟨_,rfl,"dict_itemiterator",_,⟨_,bc _ rfl,rfl⟩,F.slot_dict_itemiterator_next.lookup,?_⟩) ?_
 ·simpa [vo,rF] using hQ
 ·simp only [sizeOk,rF,a8,av,ai,aB,cV]; lia
end
def ace(a:Addr)(o:Obj)(es:Array fL)(ps:List (V×V)):It :=
 ⟨fun i H=>(∃ u,H a=some (.jC o u))/\i < es.size,fun i H v H'=>∃ T p,v=.ref T/\H T=none/\H'=upd H T (.tup [p.1,p.2])/\ps[i]?=some p,fun i H=>(∃ u,H a=some (.jC o u))/\es.size<=i⟩
theorem yn{P:bE}{w:World}{K:ar}{elts:List Expr}{kk:Nat}{pos:Pos}(a it:Addr)(o:Obj)(es:Array fL)(ep:Nat)(ps:List (V×V))(dd:o.data=.dict es ep)(hk:∀ i (h:i < es.size),∃ p,ps[i]?=some p/\RelV p.1 es[i].key/\RelV p.2 es[i].val) :
  Turn P w K (.Tuple elts kk pos) (ace a o es ps) [it] it (fun i h=>∃ ok ov,pU h it a i es.size ep ok ov) where
 mem:=by simp
 obj:=by
  rintro i h ⟨ok,ov,st⟩ b hb;have e:b=it:=by simpa using hb
  subst e;exact⟨_,st,fun v z=>by cases z⟩
 keep:=by rintro i h h' ⟨ok,ov,st⟩ k; exact⟨ok,ov,k it (by simp) _ st⟩
 item:=by
  intro X hP hw hK hc i pins s σ H E I hf st hg;obtain⟨ok,ov,st⟩:=st;subst hP hw hK;obtain⟨⟨u,hu⟩,hi⟩:=hg;obtain⟨p,hp,r1,r2⟩:=hk i hi;have Wq:H s.heap.objs.size=none:=I.cu.fresh (aH _);have Yu:it≠s.heap.objs.size:=bu (aP st);refine JQ st (I.cu a _ hu).1 dd hi fun h' ho hT kk=>?_;refine⟨_,rfl,?_⟩;have I1:Inv X pins σ (upd H s.heap.objs.size (.tup [p.1,p.2])) { s with heap:=h',toks:=s.toks } :=
   I.zv (fp:=[it]) hf (fun b o hb q=>kk b o (fun z=>hb (by simp [z])) q) (aH _)
    ⟨by show 2<=a9; decide,[es[i].key,es[i].val],.cons r1 (.cons r2 .nil),⟨_,hT,rfl,_,rfl⟩⟩
  refine Ot (s:={ s with heap:=h' }) ho fun h2 Tt zg=>?_;have f1:∀ b∈[it],o6 X pins (upd H s.heap.objs.size (.tup [p.1,p.2])) b:=fun b hb=>(hf b hb).upd (by rw [List.mem_singleton.mp hb]; exact Yu);have I2:Inv X pins σ (upd H s.heap.objs.size (.tup [p.1,p.2])) { s with heap:=h2,toks:=s.toks } :=
   Inv.tQ (s:={ s with heap:=h',toks:=s.toks }) (t':=s.toks) (fp:=[it]) I1 f1 fun b o hb q=>(zg.2 b (fun z=>hb (by simp [z]))).trans q
  exact⟨.ref s.heap.objs.size,_,I2,rfl,⟨_,p,rfl,Wq,rfl,hp⟩,⟨_,_,Tt⟩,fun b hb=>(f1 b hb).1⟩
 done:=by
  intro X hP hw hK hc i pins s σ H E I hf st hg;obtain⟨ok,ov,st⟩:=st;subst hP hw hK;obtain⟨⟨u,hu⟩,hi⟩:=hg;obtain⟨f0,f1,f2,f3,f4,f5⟩:=hf it (by simp);exact Nm (I.ok.hd hc) st (I.cu a _ hu).1 dd hi fun h' eb=>⟨rfl,I.turned (t':=s.toks) (fun b o hb e=>eb b o hb e) f0 f1 f3 f4 f5⟩
 self:=by
  rintro A i s Q E ⟨ok,ov,st⟩ h;have ty:s.TypeIs (.ref it) "dict_itemiterator":=⟨_,st,rfl⟩;refine pM ty jV (cQ jV ty nG ?_ (FC _));show wpAny _ _ (ret (.ref it)) _ _ s;exact az ⟨_,rfl,"dict_itemiterator",_,ty,F.slot_dict_itemiterator_next.lookup,h⟩
end L2
end
section
namespace K2
open PySem PySem.Spec PyProof.Rows L2
section
variable {X:Cx} {elts:List Expr} {kk:Nat} {B6 apos rq:Pos} {o:Expr} {to:gK}
theorem oh.item{K:ar}{H:Hp}{kv:List (List Key×V)}{kvs:List (D×D)}(h:oh K H kv kvs):∀ {i:Nat} {q:D×D},kvs[i]?=some q->∃ p,kv[i]?=some p/\q.1=.tup (p.1.map eV)/\b7 K H p.2 q.2:=by
 induction h using oh.ind with
 | nil=>intro i q e; simp at e
 | @cons k v d r t rd rs ih =>
  intro i q e;cases i with
  | zero=>simp at e; subst e; exact⟨_,rfl,rfl,rd⟩
  | succ i =>
   obtain⟨p,h1,h2⟩:=ih (i:=i) (q:=q) (by simpa using e);exact⟨p,by simpa using h1,h2⟩
theorem oh.len{K:ar}{H:Hp}{kv:List (List Key×V)}{kvs:List (D×D)}(h:oh K H kv kvs):kv.length=kvs.length:=by
 have:=congrArg cM h.keys;simpa using this.symm
theorem AF (ho:gH X o to) (Bb:autoParam (Fv o "items" X.env (eval o X.env)=eval o X.env) Ar._auto_1) (Ba:autoParam ((apos.endLine == rq.line)=true) Ar._auto_1) :
  NV X (.Tuple elts kk B6) (.Call (.Attribute o "items" apos) [] [] rq) (wo to):=by
 intro E pins s σ H τ G R hE I h;refine xj Bb Ba (kG ho hE I h fun x H1 d G1 v s1 I1 m1 r1 jS q1=>?_);cases d with
 | iL kvs =>
  obtain⟨h1,q1⟩:=q1;obtain⟨t1,t2⟩:=oy pins s1 σ H1 G1 x _ v I1.inv I1.ab r1 jS trivial;have main:∃ (a:Addr) (ob:Obj) (u:HO) (es:Array fL) (ep:Nat) (ps:List (V×V)),x=.ref a/\(a == cS)=false/\H1 a=some (.jC ob u)/\ob.data=.dict es ep/\(∀ i (h:i < es.size),∃ p,ps[i]?=some p/\RelV p.1 es[i].key/\RelV p.2 es[i].val)/\kvs.length=es.size /\
    (∀ (i:Nat) (q:D×D),kvs[i]?=some q->∃ p,ps[i]?=some p/\b7 X.K H1 p.1 q.1/\b7 X.K H1 p.2 q.2):=by
   cases jS with
   | qo hq rs =>
    rename_i a o kv;cases rs with
    | nil =>
     obtain⟨z,ns,vs,rel,ob,es,ep,ho,ex,dd,hko,hp,nd⟩:=(I1.inv.cu a _ hq).2;have eo:ob=o:=by have:=(I1.inv.cu a _ hq).1; rw [ho] at this; exact ba this
     subst eo;have l1:es.size=vs.length:=by simpa using hp.length
     have l2:([]:List (Key×V)).length=vs.length:=jd rel;have l3:es.size=0:=by rw [l1,<-l2]; rfl
     exact⟨a,ob,_,es,ep,[],rfl,ns,hq,dd,fun i h=>by lia,by rw [l3]; rfl,fun i q e=>by simp at e⟩
    | @cons j _ _ _ _ _ _=>cases j <;> simp [eV,ly] at h1
   | qm hq rs =>
    rename_i a o kv;obtain⟨z,ns,xs,rel,ob,es,ep,ho,ex,dd,hl,nd⟩:=(I1.inv.cu a _ hq).2;have eo:ob=o:=by have:=(I1.inv.cu a _ hq).1; rw [ho] at this; exact ba this
    subst eo;have l1:=congrArg cM hl;rw [ao,ff] at l1;have l2:kv.length=xs.length:=jd rel;have l3:=rs.len;refine⟨a,ob,_,es,ep,(kv.zip xs).map fun z=>(V.ref z.2.2.1,z.1.2),rfl,ns,hq,dd,fun i hi=>?_,by lia,fun i q e=>?_⟩
    ·have i2:i < xs.length:=by lia
     have i3:i < kv.length:=by lia
     have ee:es[i]=entryOfKey (iS (cK X.prog X.w)) xs[i]:=by
      have:=congrArg (fun l=>l[i]?) hl;simp only [bx,aC i2] at this;simpa [hi] using this
     refine⟨(V.ref xs[i].2.1,kv[i].2),by rw [bx,aC (by rw [hW]; lia),o8]; rfl,?_⟩;rw [ee];exact⟨rfl,(xF rel i i3 i2).2.2⟩
    ·obtain⟨p,hp,ek,rp⟩:=rs.item e;have i3:i < kv.length:=(List.getElem?_eq_some_iff.mp hp).1;have i2:i < xs.length:=by lia
     have pr:=xF rel i i3 i2;rw [aC i3] at hp;cases hp;refine⟨(V.ref xs[i].2.1,kv[i].2),by rw [bx,aC (by rw [hW]; lia),o8]; rfl,?_,rp⟩;rw [ek];exact .tup pr.2.1 (xA _)
  obtain⟨a,ob,u,es,ep,ps,rfl,hm,hu,dd,hk,hlen,Vx⟩:=main;cases r1;refine⟨"dict","dict.items",cI,gL,sx,t1,t2,nF rfl (y9 ?_)⟩;refine nE gL t1 rT (qN _) (v5 a hm) ⟨t1,?_⟩;have I2:Inv X pins σ H1 { s1 with heap:=s1.heap.push { cls:=.type "dict_items",data:=.fields #[.ref a] } }:=I1.inv.kept (t':=s1.toks) fun b o e=>aF _ e;refine yK (s:={ s1 with heap:=s1.heap.push { cls:=.type "dict_items",data:=.fields #[.ref a] } }) ⟨_,bc _ rfl,rfl,rfl⟩ (aF _ (I1.inv.cu a _ hu).1) dd ?_;refine⟨_,[_],_,_,H1,G1,kvs.map (fun p=>.tup [p.1,p.2]),_,rfl,I2.kept (t':=s1.toks) fun b o e=>aF _ e,m1,yn a _ ob es ep ps dd hk,⟨.none,.none,bc _ rfl⟩,fun b hb=>?_,fun i H2 G2 k ab _=>?_,q1⟩
  ·have e:=List.mem_singleton.mp hb;subst e;exact I2.Cd (aH _) (I2.cu.fresh (aH _))
  ·have rh:=k.jC _ _ _ hu;refine⟨fun d hd=>?_,fun hle=>⟨⟨u,rh⟩,by rw [<-hlen]; simpa using hle⟩⟩;rw [bx] at hd;cases Nw:kvs[i]? with
   | none=>rw [Nw] at hd; cases hd
   | some q =>
    rw [Nw] at hd;obtain⟨p,hp,rk,rp⟩:=Vx i q Nw;have hi:i < es.size:=by rw [<-hlen]; exact(List.getElem?_eq_some_iff.mp Nw).1
    refine⟨⟨⟨u,rh⟩,hi⟩,?_⟩;rintro x H3 ⟨T,p',ex,hT,e3,hy⟩;subst ex e3;rw [hp] at hy;cases hy;have ed:D.tup [q.1,q.2]=d:=by simpa using hd
    subst ed;exact⟨.tup bN (.cons ((rk.mono k).mono (.new hT)) (.cons ((rp.mono k).mono (.new hT)) .nil)),.Nz ab hT⟩
 | _=>exact q1.elim
end
def eOk(e:fL)(p:Int×Int):Bool:=e.hash == hashInt p.1&&uh p.1 e.key&&uh p.2 e.val
def Tz:List fL->List (Int×Int)->Bool
 | [],[]=>true
 | e :: es,p :: ps=>eOk e p&&Tz es ps
 | _,_=>false
def Bp(K:ar)(a:Addr)(kv:List (Int×Int)):Bool:=match K.lookup a with
 | some o=>o.cls == .type "dict" && o.dict == none&&o.slots.toList == []&&(match o.data with | .dict es _=>Tz es.toList kv | _=>false)
 | none=>false
def Nd(kv:List (Int×Int)):List (Key×V):=kv.map fun p=>(.inl p.1,.int p.2)
theorem isInt_shape{i:Int}{v:Value}(h:uh i v=true):∃ t,v=.int i t:=by
 rcases fB (k:=.inl i) h with ⟨j,t,e,rfl⟩ | ⟨_,_,e,_⟩
 ·cases e; exact⟨t,rfl⟩
 ·cases e
section
variable {P:bE} {w:World}
theorem Bm:∀ (es:List fL) (kv:List (Int×Int)),Tz es kv=true->∃ vs,KV (Nd kv) vs/\Pairs (cK P w) es vs/\vs.map (·.1)=kv.map (fun p=>(k6 p.1:Key))/\∀ e∈es,∃ k,(cK P w).is k e.key=true/\e.hash=(cK P w).hash k
 | [],[],_=>⟨[],.nil,.nil,rfl,fun e h=>by cases h⟩
 | [],_ :: _,h=>aW (show false=true from h)
 | _ :: _,[],h=>aW (show false=true from h)
 | e :: es,p :: ps,h=>by
  have h:(eOk e p&&Tz es ps)=true:=h;rw [aK] at h;obtain⟨vs,h1,h2,h3,h4⟩:=Bm es ps h.2;have he:=h.1;unfold eOk at he;rw [aK,aK] at he;obtain⟨t,ev⟩:=isInt_shape he.2;refine⟨(.inl p.1,e.val) :: vs,.cons ⟨rfl,t,ev⟩ h1,.cons he.1.2 rfl h2,by rw [ak,ak,h3],fun x hx=>?_⟩;rcases List.mem_cons.mp hx with rfl | hx
  ·exact⟨.inl p.1,he.1.2,beq_iff_eq.mp he.1.1⟩
  ·exact h4 x hx
theorem Wy{K:ar}{a:Addr}{kv:List (Int×Int)}{h:Heap}(Y:K.In h)(e:Bp K a kv=true)(nd:(kv.map (·.1)).Nodup):∃ vs,KV (Nd kv) vs/\h.DictOf (cK P w) a vs:=by
 unfold Bp at e;cases hl:K.lookup a with
 | none=>rw [hl] at e; exact aW (show false=true from e)
 | some o =>
  rw [hl] at e;dsimp only at e;rw [aK,aK,aK] at e;obtain⟨⟨⟨e1,e2⟩,e3⟩,e4⟩:=e;obtain⟨c,dd,dt,⟨sl⟩⟩:=o;have f1:c=.type "dict":=beq_iff_eq.mp e1;have f2:dd=none:=beq_iff_eq.mp e2;have f3:sl=[]:=beq_iff_eq.mp e3;clear e1 e2 e3;subst f1;subst f2;subst f3;cases dt with
  | dict es ep =>
   obtain⟨vs,h1,h2,h3,h4⟩:=Bm (P:=P) (w:=w) es.toList kv e4;refine⟨vs,h1,_,es,ep,Y _ _ hl,⟨rfl,rfl,rfl⟩,rfl,?_,h2,?_⟩
   ·intro e he;obtain⟨k,q1,q2⟩:=h4 e (Array.mem_toList_iff.mpr he);exact⟨k,q1,q2⟩
   ·rw [h3];have:kv.map (fun p=>(k6 p.1:Key))=(kv.map (·.1)).map k6:=by rw [bh]; rfl
    rw [this,IK,kQ];exact(List.nodup_iff_pairwise_ne.mp nd).imp fun zh e=>zh (OA e)
  | _=>exact aW (show false=true from e4)
end
end K2
namespace K2
open PySem PySem.Spec PyProof.Rows L2
section
variable {X:Cx} {x:Str} {a:Addr} {kv:List (Int×Int)} {p px pos:Pos}
theorem Q0{K:ar}{H:Hp}:∀ kv:List (Int×Int),mW K H (Nd kv) (aT kv)
 | []=>.nil
 | p :: kv=>.cons (k:=.inl p.1) (.int p.2) (Q0 kv)
theorem xD (hg:Gl X "dict") (hm:X.mg "dict" = none) (Yw:Gl X x) (Wg:X.mg x=some (.ref a)) (ns:(a == cS)=false) (hD:Bp X.K a kv=true) (nd:(kv.map (·.1)).Nodup) (hz:kv.length<=1000) (Ep:autoParam ((x == ("__debug__" : Str))=false) Ad._auto_1)
  (hs:autoParam (bI [.Name x px] X.env=[(false,eval (.Name x px) X.env)]) Ar._auto_1):gH X (.Call (.Name "dict" p) [.Name x px] [] pos) (Bq kv):=by
 intro E pins s σ H τ G Q hE I h;refine eX (nj I.inv hg hm ud ?_);refine dI ?_ hs rfl;rw [hs];show wpAny _ _ (DE ((false,eval (.Name x px) X.env) :: rE pos (bI [] X.env))) _ _ s;refine iA ?_;refine wc I.inv Yw Wg ?_ Ep;refine nN ?_;obtain⟨vs,rel,dd⟩:=Wy (P:=X.prog) (w:=X.w) I.inv.Fh hD nd;have hl:vs.length=kv.length:=by rw [<-rel.length]; unfold Nd; rw [ao]
 have sz:a9=16777216:=cV;refine kt_call_dict ns dd (by lia) fun h' Dl hs=>?_;have hp:H s.heap.objs.size=none:=I.inv.cu.fresh (aH _);have zz:(Nd kv).length<=a9:=by unfold Nd; rw [ao]; lia
 refine⟨.ref _,upd H s.heap.objs.size (.dK (Nd kv)),.ref _,_,I.inv.laid (a:=s.heap.objs.size) (o:=.dK (Nd kv)) (t':=s.toks) (fun b q hq=>?_) (aH _) (Bn zz (beq_eq_false_iff_ne.mpr (dG (bu I.inv.big))) rel Dl),.new I.ab hp (.dk bN (Q0 kv)),rfl,.ref _,h _ (I.ab.free hp)⟩;exact(hs.2 b (bu (aP hq))).trans (aF _ hq)
end
end K2
end
section
namespace K2
open PySem PySem.Spec PyProof.Rows L2
section
variable {X:Cx}
theorem HH:qg X (.type "tuple") TV:=by
 intro pins s σ H G xs ds us Q I ab rx rd q;unfold TV at q;split at q
 ·rename_i x;obtain⟨v,rfl,r⟩:=rd.one;have WT:∀ (l:Addr) (ys:List V) (zs:List D),v=.ref l->qL X.K H l ys->bq X.K H ys zs->Q (.tup zs) G->wpAny (model X.prog X.w) X.A (call (.type "tuple") us) (rP X pins σ H G Q) X.xe s:=fun l ys zs e h rs hq=>by
   subst e;exact iB (Cm pins s σ H _ us (Cu X.K H G Q) I rx ⟨l,ys,rfl,.inl ⟨h,fun p hp=>⟨.tup zs,G,.Nz ab hp,.tup bN (rs.mono (.new hp)),hq⟩⟩⟩) fun _ _ z=>.of z
  cases r with
  | dN hq rs=>exact WT _ _ _ rfl hq.sq rs q
  | ref l =>
   unfold mE at q;dsimp only at q;cases hg:G l with
   | none=>rw [hg] at q; exact q.elim
   | some g =>
    rw [hg] at q;cases g with
    | lst ds =>
     obtain⟨vs,hv,rs⟩:=ab.lst hg;exact WT _ _ _ rfl (.of hv) rs q
    | ins _ _=>exact q.elim
    | ua _=>exact q.elim
    | eW kvs=>exact q.elim
  | _=>exact bJ q
 ·exact q.elim
end
section
variable {X:Cx}
theorem PV (hu:X.A.units+64 < cLine):Kx X "dict.get" LD:=by
 intro pins s σ H G x d xs ds v us Q I ab rx rd Oe DV q;unfold LD at q;split at q
 ·rename_i a k d';obtain⟨kvs,hg,hk,q⟩:=q;cases rd;obtain⟨w,w2,rfl,ze,MJ⟩:=DV.two;obtain⟨u1,u2,rfl,FR,Jj⟩:=vals2 Oe;cases rx;obtain⟨H',o,I',m,g,e1,e2⟩:=Bo I ab hg hk ze;refine Wz (d:=w2) (by lia) I' g FR Jj fun w' s' I2 rr=>?_;cases hl:look kvs k with
  | some d2 =>
   obtain⟨v',ho,rr'⟩:=e2 d2 hl;subst ho;rw [hl] at q;exact⟨v',H',d2,G,I2,m,rr,rr',q⟩
  | none =>
   rw [hl] at e1 q;have ho:o=none:=by cases o with
    | none=>rfl
    | some _=>cases e1
   subst ho;exact⟨w2,H',d',G,I2,m,rr,MJ.mono (m.kp ab),q⟩
 ·exact q.elim
end
end K2
end
section
namespace K2.Z
open PySem PySem.Spec PyProof.Rows
section
variable {prog:bE} {w:World} {A:dg} {E:Value->aA->Prop} {s:aA}
theorem B3{M:Model}{a:Addr}{Q:Option Obj->aA->Prop}(h:Q (s.heap.get? a) s):wpAny M A (loadIfAlive a) Q E s:=fun _ _ _=>h
abbrev E9(h:Heap)(z TI TO T:Addr)(b:Bool):Prop :=
 h.get? z=some { cls:=.type "zip",dict:=none,data:=.fields #[vo T,.bool b,.bool false,.ref TI,.ref TO],slots:=#[] }
theorem Ly{z TI TO T:Addr}{b:Bool}{o:Obj}{Q:Bool->aA->Prop}(hz:E9 s.heap z TI TO T b)(hT:s.heap.get? T=some o)
  (hQ:∀ h',E9 h' z TI TO T true->fI z s.heap h'->Q false { s with heap:=h' }):wpAny (model prog w) A (fX (.ref z)) Q E s:=by
 unfold fX;refine ah (iu hz rfl (x:=vo T) rfl ?_);show wpAny _ _ (loadIfAlive (Int.toNat (T:Int)) >>= _) _ _ _;refine ah (B3 ?_);rw [eF,hT];show wpAny _ _ (field (.ref z) 1 >>= _) _ _ _;refine ah (iu hz rfl (x:=.bool b) rfl ?_);cases b with
 | true =>
  show wpAny _ _ (pure false) _ _ _;exact az (hQ s.heap hz ⟨rfl,fun _ _=>rfl⟩)
 | false =>
  show wpAny _ _ (setField (.ref z) 1 (.bool true) >>= _) _ _ _;exact ah (kO hz (by simp) fun h1 ZA hs1=>az (hQ h1 ZA hs1))
theorem XR{z TI TO T i1 i2 l1 l2:Addr}{b:Bool}{o:Obj}{k1 k2:Nat}{xs ys:Array Value}{x y:Value}{Q:Value->aA->Prop}(D:qi z TI TO i1 i2 l1 l2)
  (hz:E9 s.heap z TI TO T b) (hT:s.heap.get? T=some o) (Wr:yk s.heap TI (.ref i1) (.ref i2))
  (h1:s.heap.IsListIter i1 l1 k1) (h2:s.heap.IsListIter i2 l2 k2) (BX:s.heap.IsList l1 xs) (rh:s.heap.IsList l2 ys) (hx:xs[k1]?=some x) (hy:ys[k2]?=some y)
  (hQ:∀ h',E9 h' z TI TO T true->h'.IsListIter i1 l1 (k1+1)->h'.IsListIter i2 l2 (k2+1)->yk h' s.heap.objs.size x y ->
   (∀ c o,c≠z->c≠i1->c≠i2->s.heap.get? c=some o->h'.get? c=some o)->Q (.ref s.heap.objs.size) { s with heap:=h' }) :
  wpAny (model prog w) A (Builtin.«zip.__next__» ⟨[.ref z],[]⟩) (fun fin s'=>∃ v,fin=.done (.ret v)/\Q v s') E s:=by
 show wpAny _ _ (field (.ref z) 2 >>= _) _ _ _;refine ah (iu hz rfl (x:=.bool false) rfl ?_);show wpAny _ _ (field (.ref z) 3 >>= _) _ _ _;refine ah (iu hz rfl (x:=.ref TI) rfl ?_);refine ah (ke Wr rfl ?_);show wpAny _ _ (fX (.ref z) >>= _) _ _ _;refine ah (Ly hz hT fun qa UH oJ=>?_);simp only [ay,if_false];refine ah ?_;rw [<-my];simp only [xc,KP];refine ah (ah (cG ?_));show wpAny _ _ (ji (.ref i1) >>= _) _ _ _;refine ah (y7 (h1.extBut oJ.extBut D.i1z) (BX.extBut oJ.extBut D.l1z) hx fun A8 US sZ=>az (az ?_));refine ah (ah (cG ?_));show wpAny _ _ (ji (.ref i2) >>= _) _ _ _;refine ah (y7 ((h2.extBut oJ.extBut D.i2z).extBut sZ.extBut D.i12.symm)
  ((rh.extBut oJ.extBut D.l2z).extBut sZ.extBut D.l2i1) hy fun Hb YJ C2=>az (az (az ?_)))
 show wpAny _ _ (newTuple [x,y] >>= _) _ _ _;refine ah (R8 (az ⟨_,rfl,?_⟩));have hsz:Hb.objs.size=s.heap.objs.size:=by rw [C2.1,sZ.1,oJ.1]
 show Q (.ref Hb.objs.size) _;have up:∀ c o,Hb.get? c=some o->(Hb.push { cls:=.type "tuple",data:=.seq #[x,y] }).get? c=some o:=fun c o e=>aF _ e;rw [hsz];refine hQ _ (up _ _ (C2.extBut _ _ D.i2z.symm (sZ.extBut _ _ D.i1z.symm UH))) ((US.extBut C2.extBut D.i12).at fun o e=>up _ o e) (YJ.at fun o e=>up _ o e) ?_ fun c o c1 c2 c3 e=>up c o (C2.extBut _ _ c3 (sZ.extBut _ _ c2 (oJ.extBut _ _ c1 e)));rw [<-hsz];exact bc _ rfl
theorem abR{z TI TO T i1 i2 l1 l2:Addr}{b:Bool}{o:Obj}{k1 k2:Nat}{xs ys:Array Value}{Q:Fin->aA->Prop}(hh:A.handled=none)(D:qi z TI TO i1 i2 l1 l2)
  (hz:E9 s.heap z TI TO T b) (hT:s.heap.get? T=some o) (Wr:yk s.heap TI (.ref i1) (.ref i2))
  (h1:s.heap.IsListIter i1 l1 k1) (h2:s.heap.IsListIter i2 l2 k2) (BX:s.heap.IsList l1 xs) (rh:s.heap.IsList l2 ys) (Wi:xs[k1]?=none\/ys[k2]?=none)
  (hE:∀ h' e,(∀ c o,c≠z->c≠i1->c≠i2->s.heap.get? c=some o->h'.get? c=some o)->(∃ o,h'.get? e=some o/\o.cls=.type "StopIteration")->E (.ref e) { s with heap:=h' }) :
  wpAny (model prog w) A (Builtin.«zip.__next__» ⟨[.ref z],[]⟩) Q E s:=by
 show wpAny _ _ (field (.ref z) 2 >>= _) _ _ _;refine ah (iu hz rfl (x:=.bool false) rfl ?_);show wpAny _ _ (field (.ref z) 3 >>= _) _ _ _;refine ah (iu hz rfl (x:=.ref TI) rfl ?_);refine ah (ke Wr rfl ?_);show wpAny _ _ (fX (.ref z) >>= _) _ _ _;refine ah (Ly hz hT fun qa UH oJ=>?_);simp only [ay,if_false];refine ah ?_;rw [<-my];simp only [xc,KP];refine ah (ah (cG ?_));show wpAny _ _ (ji (.ref i1) >>= _) _ _ _;cases hx:xs[k1]? with
 | none =>
  exact ah (wpAny_nextOf_list_end hh (h1.extBut oJ.extBut D.i1z) (BX.extBut oJ.extBut D.l1z) hx fun A8 e sZ he=>hE A8 e (fun c o c1 c3 _ x=>sZ _ _ c3 (oJ.extBut _ _ c1 x)) he)
 | some x =>
  have hy:ys[k2]?=none:=by rcases Wi with h | h; rw [hx] at h; cases h; exact h
  refine ah (y7 (h1.extBut oJ.extBut D.i1z) (BX.extBut oJ.extBut D.l1z) hx fun A8 US sZ=>az (az ?_));refine ah (ah (cG ?_));show wpAny _ _ (ji (.ref i2) >>= _) _ _ _;exact ah (wpAny_nextOf_list_end hh ((h2.extBut oJ.extBut D.i2z).extBut sZ.extBut D.i12.symm)
   ((rh.extBut oJ.extBut D.l2z).extBut sZ.extBut D.l2i1) hy fun Hb e C2 he=>hE Hb e (fun c o c1 c3 c4 x=>C2 _ _ c4 (sZ.extBut _ _ c3 (oJ.extBut _ _ c1 x))) he)
theorem Jw{z TI TO T i1 i2 l1 l2:Addr}{b:Bool}{o:Obj}{k1 k2:Nat}{xs ys:Array Value}{x y:Value}{Q:Option Value->aA->Prop}(D:qi z TI TO i1 i2 l1 l2)
  (hz:E9 s.heap z TI TO T b) (hT:s.heap.get? T=some o) (Wr:yk s.heap TI (.ref i1) (.ref i2))
  (h1:s.heap.IsListIter i1 l1 k1) (h2:s.heap.IsListIter i2 l2 k2) (BX:s.heap.IsList l1 xs) (rh:s.heap.IsList l2 ys) (hx:xs[k1]?=some x) (hy:ys[k2]?=some y)
  (hQ:∀ h',E9 h' z TI TO T true->h'.IsListIter i1 l1 (k1+1)->h'.IsListIter i2 l2 (k2+1)->yk h' s.heap.objs.size x y ->
   (∀ c o,c≠z->c≠i1->c≠i2->s.heap.get? c=some o->h'.get? c=some o)->Q (some (.ref s.heap.objs.size)) { s with heap:=h' }) :
  wpAny (model prog w) A (nC (.ref z)) Q E s:=by
 have V8:s.TypeIs (.ref z) "zip":=⟨_,hz,rfl⟩;unfold nC;exact ah (rQ (eP (name:=kD "__next__") V8 zc
  (cQ zc V8 F.entry_zip_next
   (XR D hz hT Wr h1 h2 BX rh hx hy fun h' a1 a2 a3 a4 a5=>az (hQ h' a1 a2 a3 a4 a5)) (F.args_zip_next_1 _))))
theorem M4{z TI TO T i1 i2 l1 l2:Addr}{b:Bool}{o:Obj}{k1 k2:Nat}{xs ys:Array Value}{Q:Option Value->aA->Prop}(hh:A.handled=none)(D:qi z TI TO i1 i2 l1 l2)
  (hz:E9 s.heap z TI TO T b) (hT:s.heap.get? T=some o) (Wr:yk s.heap TI (.ref i1) (.ref i2))
  (h1:s.heap.IsListIter i1 l1 k1) (h2:s.heap.IsListIter i2 l2 k2) (BX:s.heap.IsList l1 xs) (rh:s.heap.IsList l2 ys) (Wi:xs[k1]?=none\/ys[k2]?=none)
  (hQ:∀ h',(∀ c o,c≠z->c≠i1->c≠i2->s.heap.get? c=some o->h'.get? c=some o)->Q none { s with heap:=h' }):wpAny (model prog w) A (nC (.ref z)) Q E s:=by
 have V8:s.TypeIs (.ref z) "zip":=⟨_,hz,rfl⟩;unfold nC;refine ah (rQ (eP (name:=kD "__next__") V8 zc
  (cQ zc V8 F.entry_zip_next (abR hh D hz hT Wr h1 h2 BX rh Wi fun h' e hk he=>?_) (F.args_zip_next_1 _))))
 obtain⟨o,ho,hc⟩:=he;refine ah (mN (T:="StopIteration") (b:=true) ⟨o,ho,hc⟩ R9 ?_);exact az (hQ _ hk)
end
end K2.Z
end
section
namespace K2.Z
open PySem PySem.Spec PyProof.Rows
theorem xt:typeLookup (.type "zip") "__getattr__" = pure none:=by rw [typeLookup_type,builtinLookup_eq_fast]; kernel_rfl
theorem B2:typeLookup (.type "zip") "keys" = pure none:=by rw [typeLookup_type,builtinLookup_eq_fast]; kernel_rfl
theorem rn:entryFor table "zip.__getattribute__" = some Builtin.«object.__getattribute__» :=
 entryFor_alias (id':="object.__getattribute__") (by kernel_rfl) (by decide +kernel) (by decide +kernel) (by kernel_rfl)
theorem AW(a:Addr)(xs:Array Value)(u:Tok) :
  Meets (Builtin.«object.__getattribute__» ⟨[.ref a,.str "keys" u],[]⟩) (fun A R s=>s.heap.get? a=some { cls:=.type "zip",dict:=none,data:=.fields xs,slots:=#[] }/\raisesAttr (.ref a) "keys" A R s) :=
 Meets.of_wp fun prog w A R s hs=>by
  obtain⟨hp,g,d,tk,os⟩:=s;obtain⟨hx,hs⟩:=hs;have hT:(⟨hp,g,d,tk,os⟩:aA).TypeIs (.ref a) "zip":=⟨_,hx,rfl⟩;have acU:=B2;have acT:(["__module__","__name__","__qualname__","__doc__","__annotations__"]:List Str).contains "keys" = false:=by decide +kernel
  unfold Builtin.«object.__getattribute__»
  repeat (any_goals (first | assumption | wp_step))
  exact wpAny_raiseAttrError hs.1 hs.2 (attrMsg_fits (by decide +kernel) (by size_fits))
set_option maxRecDepth 8000 in
theorem Gv{prog:bE}{w:World}{A:dg}{E:Value->aA->Prop}{s:aA}{a:Addr}{xs:Array Value}{Q:Option Value->aA->Prop}
  (hx:s.heap.get? a=some { cls:=.type "zip",dict:=none,data:=.fields xs,slots:=#[] }) (hA:A.handled=none)
  (h:∀ h' tk,(∀ b ob,s.heap.get? b=some ob->h'.get? b=some ob)->Q none { s with heap:=h',toks:=tk }) :
  wpAny (model prog w) A (getAttr? (.ref a) "keys") Q E s:=by
 obtain⟨hp,g,d,tk,os⟩:=s;have hT:∀ Zg,(⟨hp,g,d,Zg,os⟩:aA).TypeIs (.ref a) "zip":=fun _=>⟨_,hx,rfl⟩;have f1:=sub_AttributeError;have f3:=F.slot_zip_getattribute.lookup;have f4:=F.slot_zip_getattribute.bind (.ref a);have f5:=xt;unfold getAttr? getAttrBy? getAttrBy
 repeat (any_goals (first | assumption | exact hT _ | ((with_reducible show wpAny _ _ (call (Value.builtin "zip.__getattribute__") _ _) _ _ _); refine IG F.slot_zip_getattribute (hT _) rn (F.args_zip_getattribute_2 _ _) (AW a xs _) ⟨hx,hA,fun h' Zg e W2=>?_⟩) | wp_step))
 obtain⟨t',u',he⟩:=W2.there;show wpAny _ _ (getattributeRaised _ _ _ _ _ _ _) _ _ _;unfold getattributeRaised
 repeat (any_goals (first | assumption | wp_step))
 exact h _ _ W2.keeps
end K2.Z
end
section
namespace K2.Z
open PySem PySem.Spec PyProof.Rows
theorem Dh:entryFor table "dict.update.loop" = some Builtin.«dict.update.loop»:=entryFor_of_tree (by kernel_rfl)
theorem tW:plainId "dict.update.loop" = true:=by decide +kernel
section
variable {prog:bE} {w:World} {K:Type} [DecidableEq K] {knd:KeyKind prog w K} {A:dg} {E:Value->aA->Prop}
structure Zs(d z TI TO i1 i2 l1 l2:Addr)(xs ys:Array Value)(i:Nat)(h:Heap):Prop where
 hI:yk h TI (.ref i1) (.ref i2)
 h1:h.IsListIter i1 l1 i
 h2:h.IsListIter i2 l2 i
 BX:h.IsList l1 xs
 rh:h.IsList l2 ys
 hz:(IsZip h z TI TO .none/\∃ a b,yk h TO a b)\/∃ T b o,E9 h z TI TO T b/\h.get? T=some o/\T≠d/\T≠z/\T≠i1/\T≠i2
theorem Zs.keep{d z TI TO i1 i2 l1 l2:Addr}{xs ys:Array Value}{i:Nat}{h h':Heap}(x:Zs d z TI TO i1 i2 l1 l2 xs ys i h)(D:d∉[z,TI,TO,i1,i2,l1,l2])(k:∀ c o,c≠d->h.get? c=some o->h'.get? c=some o):Zs d z TI TO i1 i2 l1 l2 xs ys i h':=by
 simp only [bb,bG,or_false,not_or] at D;obtain⟨d1,d2,d3,d4,d5,d6,d7⟩:=D;refine⟨k _ _ (dG d2) x.hI,x.h1.at fun o=>k _ o (dG d4),x.h2.at fun o=>k _ o (dG d5),x.BX.at fun o=>k _ o (dG d6),x.rh.at fun o=>k _ o (dG d7),?_⟩;rcases x.hz with ⟨e,a,b,f⟩ | ⟨T,b,o,e,f,g⟩
 ·exact .inl ⟨k _ _ (dG d1) e,a,b,k _ _ (dG d3) f⟩
 ·exact .inr ⟨T,b,o,k _ _ (dG d1) e,k _ _ g.1 f,g⟩
variable {d z TI TO i1 i2 l1 l2:Addr} {xs ys:Array Value}
theorem Sh(D:qi z TI TO i1 i2 l1 l2)(Dd:d∉[z,TI,TO,i1,i2,l1,l2]){s:aA}{i:Nat}{x y:Value}{Q:Option Value->aA->Prop}(hd:∃ o,s.heap.get? d=some o)(hz:Zs d z TI TO i1 i2 l1 l2 xs ys i s.heap)(hx:xs[i]?=some x)(hy:ys[i]?=some y)
  (hQ:∀ h' T,Zs d z TI TO i1 i2 l1 l2 xs ys (i+1) h'->yk h' T x y->(∀ c o,c∉[z,TO,i1,i2]->s.heap.get? c=some o->h'.get? c=some o)->Q (some (.ref T)) { s with heap:=h' }):wpAny (model prog w) A (nC (.ref z)) Q E s:=by
 have nz:s.heap.objs.size≠z:=by rcases hz.hz with ⟨e,_⟩ | ⟨T,b,o,e,_⟩ <;> exact oV (aP e)
 have n1:s.heap.objs.size≠i1:=by obtain⟨o,e,_⟩:=hz.h1; exact oV (aP e)
 have n2:s.heap.objs.size≠i2:=by obtain⟨o,e,_⟩:=hz.h2; exact oV (aP e)
 have nd:s.heap.objs.size≠d:=by obtain⟨o,e⟩:=hd; exact oV (aP e)
 rcases hz.hz with ⟨e,a,b,f⟩ | ⟨T,b,o,e,f,g⟩
 ·refine wpAny_pyNext_zip_item D e hz.hI f hz.h1 hz.h2 hz.BX hz.rh hx hy fun h' a1 a2 a3 a4 a5 _ a7=>hQ h' _ ⟨a7 _ _ D.TIz D.TITO D.TIi1 D.TIi2 hz.hI,a3,a4,hz.BX.at fun o e=>a7 _ o D.l1z D.l1TO D.l1i1 D.l1i2 e,hz.rh.at fun o e=>a7 _ o D.l2z D.l2TO D.l2i1 D.l2i2 e,.inr ⟨_,false,_,a1,a5,nd,nz,n1,n2⟩⟩ a5 fun c o hc e=>?_;simp only [bb,bG,or_false,not_or] at hc;exact a7 c o hc.1 hc.2.1 hc.2.2.1 hc.2.2.2 e
 ·refine Jw D e f hz.hI hz.h1 hz.h2 hz.BX hz.rh hx hy fun h' a1 a3 a4 a5 a7=>hQ h' _ ⟨a7 _ _ D.TIz D.TIi1 D.TIi2 hz.hI,a3,a4,hz.BX.at fun o e=>a7 _ o D.l1z D.l1i1 D.l1i2 e,hz.rh.at fun o e=>a7 _ o D.l2z D.l2i1 D.l2i2 e,.inr ⟨T,true,o,a1,a7 _ _ g.2.1 g.2.2.1 g.2.2.2 f,g⟩⟩ a5 fun c o hc e=>?_;simp only [bb,bG,or_false,not_or] at hc;exact a7 c o hc.1 hc.2.2.1 hc.2.2.2 e
theorem U9(hh:A.handled=none)(D:qi z TI TO i1 i2 l1 l2){s:aA}{i:Nat}{Q:Option Value->aA->Prop}(hz:Zs d z TI TO i1 i2 l1 l2 xs ys i s.heap)(he:xs[i]?=none\/ys[i]?=none)
  (hQ:∀ h',(∀ c o,c∉[z,TO,i1,i2]->s.heap.get? c=some o->h'.get? c=some o)->Q none { s with heap:=h' }):wpAny (model prog w) A (nC (.ref z)) Q E s:=by
 rcases hz.hz with ⟨e,a,b,f⟩ | ⟨T,b,o,e,f,g⟩
 ·refine wpAny_pyNext_zip_end hh D e hz.hI f hz.h1 hz.h2 hz.BX hz.rh he fun h' a7=>hQ h' fun c o hc e=>?_;simp only [bb,bG,or_false,not_or] at hc;exact a7 c o hc.1 hc.2.1 hc.2.2.1 hc.2.2.2 e
 ·refine M4 hh D e f hz.hI hz.h1 hz.h2 hz.BX hz.rh he fun h' a7=>hQ h' fun c o hc e=>?_;simp only [bb,bG,or_false,not_or] at hc;exact a7 c o hc.1 hc.2.2.1 hc.2.2.2 e
def Az(kvs:List (K×Value))(P:List (K×Value)):List (K×Value):=P.foldl (fun l p=>KD l p.1 p.2) kvs
theorem Jb(kvs:List (K×Value))(k:K)(v:Value):(KD kvs k v).length<=kvs.length+1:=by
 unfold KD; split
 ·rw [ao]; exact zX _
 ·rw [av]; exact aH _
theorem DictOf.there{h:Heap}{a:Addr}{kvs:List (K×Value)}(x:h.DictOf knd a kvs):∃ o,h.get? a=some o:=by obtain⟨o,_,_,e,_⟩:=x; exact⟨o,e⟩
theorem DictOf.kept{h h':Heap}{a:Addr}{kvs:List (K×Value)}(x:h.DictOf knd a kvs)(k:∀ o,h.get? a=some o->h'.get? a=some o):h'.DictOf knd a kvs:=by
 obtain⟨o,es,ep,e,r⟩:=x;exact⟨o,es,ep,k _ e,r⟩
theorem QX(hh:A.in1.handled=none)(D:qi z TI TO i1 i2 l1 l2)(Dd:d∉[z,TI,TO,i1,i2,l1,l2]){R:Result->aA->Prop}:∀ (P:List (K×Value)) (i:Nat) (s:aA) (kvs:List (K×Value)),
  (∀ j p,P[j]?=some p->∃ x,xs[i+j]?=some x/\knd.is p.1 x=true/\ys[i+j]?=some p.2)->(xs[i+P.length]?=none\/ys[i+P.length]?=none)->kvs.length+P.length<=a9 ->
  Zs d z TI TO i1 i2 l1 l2 xs ys i s.heap->s.heap.DictOf knd d kvs ->
  (∀ h' tk,h'.DictOf knd d (Az kvs P)->(∀ c o,c∉[d,z,TO,i1,i2]->s.heap.get? c=some o->h'.get? c=some o)->R (.ok (.ret .none)) { s with heap:=h',toks:=tk }) ->
  xk (model prog w) A (.builtin "dict.update.loop" ⟨[.ref d,.ref z,vo i,.none],[]⟩) R s
 | [],i,s,kvs,hP,hE,hz,st,hd,hR=>by
  refine k0 Dh ?_;rw [gJ tW _];show wpAny _ A.in1 (nC (.ref z) >>= _) _ _ s;have RJ:=Dd;simp only [bb,bG,or_false,not_or] at RJ;refine ah (U9 hh D st hE fun h' k=>?_);show wpAny _ A.in1 (Builtin.Dict.addKeywords d [] >>= _) _ _ _;refine ah (az (az (hR h' s.toks (DictOf.kept hd fun o e=>k _ _ (by simp only [bb,bG,or_false,not_or]; exact⟨RJ.1,RJ.2.2.1,RJ.2.2.2.1,RJ.2.2.2.2.1⟩) e) fun c o hc e=>k c o (fun q=>hc (aJ _ q)) e)))
 | p :: P,i,s,kvs,hP,hE,hz,st,hd,hR=>by
  obtain⟨x,hx,hk,hy⟩:=hP 0 p rfl;have RJ:=Dd;simp only [bb,bG,or_false,not_or] at RJ;refine k0 Dh ?_;rw [gJ tW _];show wpAny _ A.in1 (nC (.ref z) >>= _) _ _ s;refine ah (Sh D Dd (DictOf.there hd) st hx hy fun h' T Ab hT k=>?_);show wpAny _ A.in1 (zV [.ref T] _ >>= _) _ _ _;have yM:h'.DictOf knd d kvs:=DictOf.kept hd fun o e=>k _ _ (by simp only [bb,bG,or_false,not_or]; exact⟨RJ.1,RJ.2.2.1,RJ.2.2.2.1,RJ.2.2.2.2.1⟩) e;refine ah (cG (ah (uO ?_)));unfold Builtin.Dict.pairItems;refine ah (wpAny_typeOf (T:="tuple") ⟨_,hT,rfl⟩ ?_);rw [if_pos (by decide)];refine ah (ke hT rfl (az ?_));show wpAny _ A.in1 (zV [x,p.2] (dictSet d x p.2)) _ _ _;refine cG (wpAny_dictSet_pairs (s:={ s with heap:=h' }) hk yM (fun h2 hd2 zg=>?_) (by rw [ai] at hz; lia));refine az ⟨lC tW _,?_⟩;show xk (model prog w) A (.builtin "dict.update.loop" ⟨[.ref d,.ref z,vo (i+1:Nat),.none],[]⟩) R _;refine QX hh D Dd P (i+1) _ (KD kvs p.1 p.2) (fun j q hj=>?_) ?_ ?_ (Ab.keep Dd fun c o hc e=>(zg.2 c hc).trans e) hd2 fun h3 tk hd3 k3=>?_
  ·have:=hP (j+1) q hj;rw [show i+1+j=i+(j+1) by lia]; exact this
  ·rw [show i+1+P.length=i+(p :: P).length by rw [ai]; lia]; exact hE
  ·have:=Jb kvs p.1 p.2;rw [ai] at hz; lia
  ·refine hR h3 tk hd3 fun c o hc e=>k3 c o hc ?_;have BY:=hc;simp only [bb,not_or] at BY;exact(zg.2 c BY.1).trans (k c o (fun q=>hc (aJ _ q)) e)
end
end K2.Z
end
section
namespace K2.Z
open PySem PySem.Spec PyProof.Rows
section
variable {prog:bE} {w:World} {K:Type} [DecidableEq K] {knd:KeyKind prog w K} {A:dg} {E:Value->aA->Prop} {s:aA}
theorem Co{z TI TO i1 i2 l1 l2:Addr}{xs ys:Array Value}{P:List (K×Value)}{Q:Value->aA->Prop}(hh:A.handled=none)(D:qi z TI TO i1 i2 l1 l2)
  (hz:IsZip s.heap z TI TO .none) (hI:yk s.heap TI (.ref i1) (.ref i2)) (hO:yk s.heap TO .none .none) (h1:s.heap.IsListIter i1 l1 0) (h2:s.heap.IsListIter i2 l2 0) (BX:s.heap.IsList l1 xs) (rh:s.heap.IsList l2 ys)
  (hP:∀ (j:Nat) (p:K×Value),P[j]?=some p->∃ x,xs[j]?=some x/\knd.is p.1 x=true/\ys[j]?=some p.2) (hE:xs[P.length]?=none\/ys[P.length]?=none) (hsz:P.length<=a9)
  (h:∀ h' tk,h'.DictOf knd s.heap.objs.size (Az [] P)->(∀ c o,c∉[z,TO,i1,i2]->s.heap.get? c=some o->h'.get? c=some o)->Q (.ref s.heap.objs.size) { s with heap:=h',toks:=tk }) :
  wpAny (model prog w) A (call (.type "dict") [.ref z]) Q E s:=by
 refine callType_codes (Q₁:=fun obj fZ=>obj=.ref s.heap.objs.size/\fZ={ s with heap:=s.heap.push { cls:=.type "dict",data:=.dict #[] } }) F.kt_called_dict (F.kt_typeCall_dict_1 _) F.entry_dict_init (kt_code_dict_new _ ⟨rfl,rfl⟩) ?_;rintro obj fZ ⟨rfl,rfl⟩;have QB:(s.heap.push { cls:=.type "dict",data:=.dict #[] }).DictOf knd s.heap.objs.size []:=OD s.heap;refine⟨QB.typeIs,F.args_dict_init_2 _ _,?_⟩;have up:∀ c o,s.heap.get? c=some o->(s.heap.push { cls:=.type "dict",data:=.dict #[] }).get? c=some o:=fun c o e=>aF _ e;unfold Builtin.«dict.__init__»;refine ah ?_;unfold Builtin.Dict.selfAndRest;refine ah (qj QB.typeIs ?_);show wpAny _ _ (pure (s.heap.objs.size,[fK z])) _ _ _;refine az ?_;show wpAny _ _ (CD "dict.__init__" s.heap.objs.size (.ref z) [] .none) _ _ _;unfold CD;refine ah (wpAny_typeOf (T:="zip") ⟨_,up _ _ hz,rfl⟩ ?_);rw [if_pos (by decide)];refine ah (Gv (up _ _ hz) (by simp [hh]) fun qa tk k1=>?_);show wpAny _ _ (rule _ >>= _) _ _ _;refine ah (wpAny_rule ?_);have ku:∀ c o,s.heap.get? c=some o->qa.get? c=some o:=fun c o e=>k1 _ _ (up _ _ e);refine ah (Mo (s:=⟨qa,s.gens,s.drawn,tk,s.os⟩) (ku _ _ hz) ?_);refine az ⟨lC tW _,?_⟩;have lt:∀ c,(∃ o,s.heap.get? c=some o)->s.heap.objs.size≠c:=fun c ⟨o,e⟩=>oV (aP e);have Dd:s.heap.objs.size∉[z,TI,TO,i1,i2,l1,l2]:=by
  simp only [bb,bG,or_false,not_or];refine⟨lt _ ⟨_,hz⟩,lt _ ⟨_,hI⟩,lt _ ⟨_,hO⟩,lt _ ?_,lt _ ?_,lt _ ?_,lt _ ?_⟩
  ·obtain⟨o,e,_⟩:=h1; exact⟨o,e⟩
  ·obtain⟨o,e,_⟩:=h2; exact⟨o,e⟩
  ·obtain⟨o,e,_⟩:=BX; exact⟨o,e⟩
  ·obtain⟨o,e,_⟩:=rh; exact⟨o,e⟩
 refine QX (i:=0) (knd:=knd) (by simp [hh]) D Dd P _ [] (fun j p hj=>by rw [xl]; exact hP j p hj) (by rw [xl]; exact hE) (by rw [aB,xl]; exact hsz) (xs:=xs) (ys:=ys)
  ⟨ku _ _ hI,h1.at fun o=>ku _ o,h2.at fun o=>ku _ o,BX.at fun o=>ku _ o,rh.at fun o=>ku _ o,.inl ⟨ku _ _ hz,_,_,ku _ _ hO⟩⟩ (DictOf.kept QB fun o e=>k1 _ _ e) fun h' Zg yM k'=>⟨rfl,h h' Zg yM fun c o hc e=>k' c o (fun q=>?_) (ku _ _ e)⟩
 rcases List.mem_cons.mp q with q | q
 ·exact lt c ⟨o,e⟩ q.symm
 ·exact hc q
end
end K2.Z
end
section
namespace K2
open PySem PySem.Spec PyProof.Rows L2
theorem P9:∀ (ks vs:List Int) (bQ:List Value),Vals (vs.map V.int) bQ->KV (Nd (ks.zip vs)) ((ks.zip bQ).map fun p=>((k6 p.1:Key),p.2))
 | [],_,_,_=>.nil
 | _ :: _,[],_,.nil=>.nil
 | k :: ks,v :: vs,_,.cons h r=>.cons ⟨rfl,h⟩ (P9 ks vs _ r)
theorem Lg:∀ (P acc:List (Key×Value)),((acc++P).map (·.1)).Nodup->Z.Az acc P=acc++P
 | [],acc,_=>by rw [cj]; rfl
 | p :: P,acc,h=>by
  have e:KD acc p.1 p.2=acc++[p]:=by
   unfold KD;rw [if_neg];intro z;obtain⟨q,hq,e⟩:=List.any_eq_true.mp z;have e:q.1=p.1:=of_decide_eq_true e;rw [aL,cy] at h;exact h.2.2 _ (bA hq) _ (by rw [ak]; exact cA) e
  show Z.Az (KD acc p.1 p.2) P=_;rw [e,Lg P (acc++[p]) (by rw [bP]; exact h),bP];rfl
theorem Va{n l1 l2:Nat}(h1:l1 < n)(h2:l2 < n):qi (n+4) (n+2) (n+3) n (n+1) l1 l2:=by
 constructor <;> (intro z; replace z:@Eq Nat _ _:=z; lia)
section
variable {X:Cx} {a b:Expr} {ta tb:gK} {pos p Pp p2:Pos}
theorem Gi (hc:X.calm=true) (hg:Gl X "dict") (hm:X.mg "dict" = none) (Yw:Gl X "zip") (Wg:X.mg "zip" = none) (ha:gH X a ta) (hb:gH X b tb) (hs:autoParam (bI [a,b] X.env=[(false,eval a X.env),(false,eval b X.env)]) Ar._auto_1) (zg:autoParam (bI [b] X.env=[(false,eval b X.env)]) Ar._auto_1)
  (Ye:autoParam (bI [.Call (.Name "zip" p2) [a,b] [] Pp] X.env=[(false,eval (.Call (.Name "zip" p2) [a,b] [] Pp) X.env)]) Ar._auto_1) :
  gH X (.Call (.Name "dict" p) [.Call (.Name "zip" p2) [a,b] [] Pp] [] pos) (Rc ta tb):=by
 intro E pins s σ H τ G Q hE I h;have hA:Cw X [a,b] (aw ta (aw tb aQ)):=dO ha (dO hb fP zg) (by rw [hs,zg]);refine eX (nj I.inv hg hm ud ?_);refine dI ?_ Ye rfl;rw [Ye];show wpAny _ _ (DE ((false,eval (.Call (.Name "zip" p2) [a,b] [] Pp) X.env) :: rE pos (bI [] X.env))) _ _ s;refine iA (eX (nj I.inv Yw Wg Rt (dI (z8 hA Pp hE I (R:=XG fun x y G2=>∃ ks vs:List Int,mE x G2=some (ks.map D.int)/\mE y G2=some (vs.map D.int)/\(ks.Nodup/\ks.length=vs.length/\ks.length<=1000)/\gv G2 (.eW (aT (ks.zip vs))) Q) h fun vs H1 ds G1 us s1 I1 m1 r1 jS q1=>?_) (by rw [hs,zg]) (by rw [zg]; rfl))))
 match ds,q1 with
 | [x,y],q1 =>
  obtain⟨ks,ws,e1,e2,⟨nd,hl,adk⟩,q⟩:=q1;obtain⟨w1,w2,rfl,ze,MJ⟩:=jS.two;obtain⟨u1,u2,rfl,FR,Jj⟩:=vals2 r1;obtain⟨l1,v1,JP,rfl,Sw,Zk,hL1,ZA⟩:=kN I1.inv I1.ab FR ze e1;obtain⟨l2,v2,nS,rfl,Iq,Ff,hL2,X9⟩:=kN I1.inv I1.ab Jj MJ e2;have ev1:=Zk.ints;have ev2:=Ff.ints;subst ev1 ev2;have le1:JP.length=ks.length:=by rw [<-Sw.length,ao]
  have GP:nS.length=ks.length:=by rw [<-Iq.length,ao,hl]
  have lt1:l1 < s1.heap.objs.size:=by obtain⟨o,e,_⟩:=hL1; exact aP e
  have lt2:l2 < s1.heap.objs.size:=by obtain⟨o,e,_⟩:=hL2; exact aP e
  refine call_zip_2 hL1 hL2 fun h' z1 z2 z3 z4 z5 z6 z7=>?_;refine nN ?_;have Dz:qi (s1.heap.objs.size+4) (s1.heap.objs.size+2) (s1.heap.objs.size+3) s1.heap.objs.size (s1.heap.objs.size+1) l1 l2:=Va lt1 lt2;have sz:a9=16777216:=cV;have lP:((ks.zip nS).map fun p=>((k6 p.1:Key),p.2)).length=ks.length:=by rw [ao,hW,GP,Nat.min_self]
  refine Z.Co (s:={ s1 with heap:=h' }) (knd:=cK X.prog X.w) (P:=(ks.zip nS).map fun p=>((k6 p.1:Key),p.2)) (I1.inv.ok.hd hc) Dz z1 z2 z3 z4 z5 (hL1.at fun o=>z7 _ o) (hL2.at fun o=>z7 _ o) (fun j p hj=>?_) (.inl ?_) (by rw [lP,sz]; lia) fun h2 tk dd k2=>?_
  ·have W5:j < ks.length:=by rw [<-lP]; exact(List.getElem?_eq_some_iff.mp hj).1
   rw [bx,aC (by rw [hW,GP,Nat.min_self]; exact W5),o8] at hj;have ep:p=(k6 ks[j],nS[j]):=(ba hj).symm;subst ep;obtain⟨u,hu,ru⟩:=Sw.get (i:=j) (show (ks.map V.int)[j]?=some (V.int ks[j]) by rw [bx,aC W5]; rfl);refine⟨u,by rw [xb]; exact hu,?_,by rw [xb,aC]⟩;obtain⟨t,e⟩:=(show ∃ t,u=eT ks[j] t from ru);subst e;exact yG _ _ _ t
  ·rw [lP,xb,oT (by lia)]
  ·have dd:h2.DictOf (cK X.prog X.w) (s1.heap.objs.size+5) ((ks.zip nS).map fun p=>((k6 p.1:Key),p.2)):=by
    rw [<-z6];have e:=Lg ((ks.zip nS).map fun p=>((k6 p.1:Key),p.2)) [] (by
     rw [aM,bh];have:(((·.1):Key×Value->Key)∘fun p:Int×Value=>((k6 p.1:Key),p.2))=k6∘(·.1):=rfl;rw [this,<-bh,List.map_fst_zip (by lia),IK,kQ];exact(List.nodup_iff_pairwise_ne.mp nd).imp fun zh e=>zh (OA e))
    rw [e] at dd;exact dd
   have hp:H1 (s1.heap.objs.size+5)=none:=I1.inv.cu.fresh (lG _ _);have kz:(Nd (ks.zip ws)).length<=a9:=by unfold Nd; rw [ao,hW,sz]; lia
   show rP _ _ _ _ _ _ (.ref h'.objs.size) _;rw [z6];refine rP.trans m1 ⟨.ref _,upd H1 (s1.heap.objs.size+5) (.dK (Nd (ks.zip ws))),.ref _,_,I1.inv.laid (a:=s1.heap.objs.size+5) (o:=.dK (Nd (ks.zip ws))) (t':=tk) (fun b q hq=>k2 b q (fun z=>?_) (z7 _ _ hq)) (lG _ _) (Bn kz (beq_eq_false_iff_ne.mpr fun z=>?_) (P9 ks ws nS Iq) dd),.new I1.ab hp (.dk bN (Q0 (ks.zip ws))),rfl,.ref _,q _ (I1.ab.free hp)⟩
   ·have lb:b < s1.heap.objs.size:=aP hq;simp only [bb,bG,or_false] at z;rcases z with z | z | z | z
    ·exact absurd z (bu (vk 4 lb))
    ·exact absurd z (bu (vk 3 lb))
    ·exact absurd z (bu lb)
    ·exact absurd z (bu (vk 1 lb))
   ·exact absurd z.symm (bu (vk 5 I1.inv.big))
 | [],q1=>exact q1.elim
 | [_],q1=>exact q1.elim
 | _ :: _ :: _ :: _,q1=>exact q1.elim
end
def RY:HO->Bool
 | .tup _=>true
 | .jC _ (.lst _)=>true
 | _=>false
def hv(H:Hp):Hp:=fun b=>(H b).bind fun o=>if RY o=true then some o else none
section
variable {P:bE} {w:World} {K:ar} {H H1 H':Hp} {h h':Heap} {b:Addr} {o:HO} {fs:List Addr}
theorem To(q:hv H b=some o):H b=some o/\RY o=true:=by
 unfold hv at q;cases e:H b with
 | none=>rw [e] at q; cases q
 | some u =>
  rw [e] at q;simp only [CB] at q;by_cases k:RY u=true
  ·rw [if_pos k] at q; cases q; exact⟨rfl,k⟩
  ·rw [if_neg k] at q; cases q
theorem Hd(q:H b=some o)(k:RY o=true):hv H b=some o:=by unfold hv; rw [q,CB,if_pos k]
theorem wz(q:H b=none):hv H b=none:=by unfold hv; rw [q]; rfl
theorem UJ(q:H b=some o)(k:RY o=false):hv H b=none:=by unfold hv; rw [q,CB,if_neg (by rw [k]; exact iG)]
theorem Wa(x:pJ P w H h):pJ P w (hv H) h:=fun a o q=>by
 obtain⟨e,k⟩:=To q;have y:=x a o e;cases o with
 | tup xs=>exact y
 | jC ob u =>
  cases u with
  | lst _=>exact y
  | _=>exact aW (show false=true from k)
 | _=>exact aW (show false=true from k)
theorem X2(un:Un fs [] (hv H1) H' h h')(k1:pJ P w H1 h)(k2:pJ P w H' h')(fr:∀ b∈fs,H1 b=none) :
  Un fs [] H1 (hj H1 H') h h'/\pJ P w (hj H1 H') h'/\∀ c u v,H1 c=some u->H' c=some v->u=v/\RY u=true:=by
 have nx:∀ c:Addr,c∉([]:List Addr):=fun c=>bG;have XM:∀ c u,H1 c=some u->c∉fs:=fun c u q z=>by rw [fr c z] at q; cases q
 have Rx:∀ c u v,H1 c=some u->H' c=some v->u=v/\RY u=true:=fun c u v q q'=>by
  cases k:RY u with
  | false =>
   obtain⟨ob,e⟩:=(k1 c u q).there;have:=un.free c ob e (UJ q k) (nx c);rw [this] at q'; cases q'
  | true =>
   have r:=Hd q k;cases u with
   | tup xs=>have:=un.sG c xs r; rw [q'] at this; cases this; exact⟨rfl,rfl⟩
   | jC ob x=>have:=un.rZ c ob x r; rw [q'] at this; cases this; exact⟨rfl,rfl⟩
   | _=>exact aW (show false=true from k)
 have same:∀ b u,(∀ o,H1 b=some o->RY o=false\/∃ ob v,o=.jC ob v)->H1 b≠none->h.get? b=some u->h'.get? b=some u:=fun b u hh hn e=>by
  cases q:H1 b with
  | none=>exact absurd q hn
  | some o =>
   cases k:RY o with
   | false=>exact un.keep b u e (UJ q k) (XM b o q) (nx b)
   | true =>
    rcases hh o q with z | ⟨ob,v,rfl⟩
    ·rw [z] at k; cases k
    ·have h1:=(k2 b _ (un.rZ b ob v (Hd q k))).1;have h2:=(k1 b _ q).1;rw [h2] at e; cases e;exact h1
 refine⟨⟨fun c u e n hc hx=>un.keep c u e (wz n) hc hx,fun c u e n hc hx=>un.slot c u e (wz n) hc hx,fun c u e n hx=>?_,fun c u e hx=>un.there c u e hx,fun c xs q=>rK q,fun c ob u q=>rK q,fun c ps q=>rK q,fun c x q=>rK q⟩,fun c o q=>?_,Rx⟩
 ·rw [xQ n]; exact un.free c u e (wz n) hx
 ·cases q1:H1 c with
  | some o1 =>
   rw [rK q1] at q; cases q;by_cases ht:∃ xs,o=.tup xs
   ·obtain⟨xs,rfl⟩:=ht;exact k2 c _ (un.sG c xs (Hd q1 rfl))
   ·refine(k1 c o q1).k9 (fun d u hd e=>?_) (fun d r=>rK r) (fun d xs r=>rK r);rcases hd with rfl | hd
    ·refine same d u (fun o' e'=>?_) (by rw [q1]; simp) e;rw [q1] at e'; cases e';cases o with
     | tup xs=>exact absurd ⟨xs,rfl⟩ ht
     | jC ob v=>exact .inr ⟨ob,v,rfl⟩
     | _=>exact .inl rfl
    ·refine same d u (fun o' e'=>?_) (by rw [hd]; simp) e;rw [hd] at e'; cases e';exact .inl rfl
  | none =>
   rw [xQ q1] at q;refine(k2 c o q).k9 (fun d u _ e=>e) (fun d r=>?_) (fun d xs r=>?_)
   ·cases q2:H1 d with
    | none=>rw [xQ q2]; exact r
    | some u=>obtain⟨rfl,k⟩:=Rx d u _ q2 r; exact aW (show false=true from k)
   ·cases q2:H1 d with
    | none=>rw [xQ q2]; exact r
    | some u=>obtain⟨rfl,k⟩:=Rx d u _ q2 r; exact rK q2
end
theorem b7.hv{K:ar}{H:Hp}{v:V}{d:D}(h:b7 K H v d):Zu d=true->b7 K (K2.hv H) v d :=
 b7.rec (motive_1:=fun v d _=>Zu d=true->b7 K (K2.hv H) v d) (motive_2:=fun v d _=>vY d=true->bq K (K2.hv H) v d) (motive_3:=fun _ _ _=>True) (motive_4:=fun _ _ _=>True)
  (fun _=>.fg) (fun _ _=>.bl _) (fun _ _=>.int _) (fun _ _=>.str _) (fun h _ r z=>.tup (Hd h rfl) (r z)) (fun h _ r z=>.dN (h.imp (fun q=>q.elim fun o q=>⟨o,Hd q rfl⟩) id) (r z)) (fun _ _ _ z=>aW z) (fun _ _ _ z=>aW z) (fun _ z=>aW z) (fun _ z=>aW z) (fun _ _ _ z=>aW z) (fun _ _ _ _ _ _ z=>aW z)
  (fun _=>.nil) (fun _ _ a b z=>.cons (a (aK _ _ ▸ z).1) (b (aK _ _ ▸ z).2)) trivial (fun _ _ _ _=>trivial) trivial (fun _ _ _ _=>trivial) h
theorem bq.hv{K:ar}{H:Hp}{v:List V}{d:List D}(h:bq K H v d):vY d=true->bq K (K2.hv H) v d :=
 bq.GY (P:=fun v d=>vY d=true->bq K (K2.hv H) v d) (fun _=>.nil) (fun r _ ih z=>.cons (r.hv (aK _ _ ▸ z).1) (ih (aK _ _ ▸ z).2)) h
section
variable {X:Cx} {pins:List (Addr×Obj)} {σ:L2.St} {H H1:Hp} {s s1:aA} {a:Addr} {ob:Obj} {u:HO}
theorem RG(I : Inv X pins σ H s)(I1 : Inv X pins σ H1 s1)(h1 : H1 a = none)(ha : H a = some (.jC ob u))(nu : ∀ x, u ≠ .own x)(new : fu X.prog X.w (upd H a u) s.heap a u) : Inv X pins σ (upd H a u) s := by
  have ne : ∀ {b : Addr} {v : HO}, H1 b = some v -> b ≠ a := fun {b v} q e => by rw [e, h1] at q; cases q
  have nn : ∀ {b : Addr}, H b = none -> upd H a u b = none := fun {b} q => by rw [bz (fun z => by rw [z, ha] at q; cases q)]; exact q
  exact { ok := I.ok, os := I.os, bare := I.bare
          base := ⟨I.base.keep, I.base.slot, fun b o q n hx => nn (I.base.free b o q n hx), I.base.there,
            fun b xs q => by rw [bz (ne (I1.base.sG b xs q))]; exact I.base.sG b xs q, fun b o v q => by rw [bz (ne (I1.base.rZ b o v q))]; exact I.base.rZ b o v q,
            fun b ps q => by rw [bz (ne (I1.base.uR b ps q))]; exact I.base.uR b ps q, fun b x q => by rw [bz (ne (I1.base.uX b x q))]; exact I.base.uX b x q⟩
          loc := I.loc, cell := I.cell
          free := nn I.free
          mG := fun x c e => nn (I.mG x c e)
          pin := fun p hp => by obtain⟨h1, h2, h3⟩ := I.pin p hp; exact⟨h1, nn h2, h3⟩
          cu := fun b v q => by
            by_cases e : b = a
            · subst e; rw [bN] at q; cases q; exact new
            · rw [bz e] at q
              exact(I.cu b v q).k9 (fun _ _ _ y => y) (fun c r => by rw [bz (fun z => by rw [z, ha] at r; cases r)]; exact r) (fun c xs r => by rw [bz (fun z => by rw [z, ha] at r; cases r)]; exact r)
          len := I.len }
end
section
variable {X:Cx} {e:Expr} {es:List Expr} {t:Fp} {pos p:Pos} {x:Str} {k:Nat} {f:Addr} {fd:gy} {ps:List Str} {sp:kC}
theorem MW(F:uw X.prog X.w X.K X.mg X.base Iy k f fd ps (zd X.K sp))(hr:mJ k X.A)(hg:Gl X x)(hm:X.mg x=some (.ref f))(hk:qM X.K (.ref f)=true)(hb:Binds X.K fd ps [])
  (ha:Cw X (e :: es) t) (Ep:autoParam ((x == ("__debug__" : Str))=false) Ad._auto_1) (he:autoParam (bI (e :: es) X.env=(false,eval e X.env) :: bI es X.env) Ar._auto_1) (Cc:autoParam ((rE pos (bI es X.env)).any (·.1)=false) Ar._auto_1) :
  gH X (.Call (.Name x p) (e :: es) [] pos) (Kj sp t):=by
 intro E pins s σ H τ G Q hE I h;refine eX (wc I.inv hg hm ?_ Ep);refine za (h₀:=X.base) I.inv.ok.mod.WZ hk (z8 ha pos hE I h fun vs H1 ds G1 us s1 I1 m1 r rd q=>⟨I1.inv.Fh,?_⟩) he Cc;obtain⟨We,q⟩:=q;have J:=I1.inv;have Og:zd X.K sp vs (hv H1) (fun v H'=>∃ kvs,b7 X.K H' v (.iL kvs)/\(kvs.all fun p=>dE p.1&&qU p.2)=true/\gv G1 (.eW kvs) Q) E0 :=
  ⟨ds,fun _=>none,_,rd.hv We,(fun _ _ z=>by cases z),q,fun d G' v H' z _ RV=>by obtain⟨kvs,rfl,h1,h2⟩:=z; exact⟨kvs,RV,h1,h2⟩⟩
 have hl:us.length=ps.length:=by rw [<-r.length]; exact F.len _ _ _ _ Og
 have e0:=J.YQ;have e1:RI X.prog X.w X.K X.mg X.base X.A X.stack s1 (hv H1):=⟨e0.frames,e0.mod,fun b o q=>⟨(e0.bs b o q).1,wz (e0.bs b o q).2⟩,e0.R4,e0.zi,fun b z=>wz (e0.UU b z),Wa e0.cu,e0.bare⟩;have hbu:=hb s1 us J.Fh (by rw [cj]; exact hl);rw [cj] at hbu;refine wpAny_call (KG (F.run X.A X.stack s1 (hv H1) ⟨us,[]⟩ us vs _ _ hr e1 hbu r Og) fun res s' hq=>?_);cases res with
 | error e=>exact hq.elim
 | ok fl =>
  cases fl with
  | ret u =>
   obtain⟨v,H',os,bare,un,cu,rv,kvs,RV,hkv,QB⟩:=hq;obtain⟨un',Wc,Rx⟩:=X2 un J.cu cu e0.UU;have I':Inv X pins σ (hj H1 H') s':=J.YY (ch:=[]) os un' Wc bare (fun b z=>absurd z (by simp));have fin:∀ (a:Addr) (ob:Obj) (w:HO),v=.ref a->H' a=some (.jC ob w)->(∀ xs,w≠.lst xs)->(∀ x,w≠.own x)->(∀ H2:Hp,(∀ b y,H' b=some y->(∀ o w,y≠.jC o w)->H2 b=some y)->fu X.prog X.w H' s'.heap a (.jC ob w)->fu X.prog X.w H2 s'.heap a w)->(∀ H2:Hp,H2 a=some w->KA X.K H2 a (.eW kvs))->rP X pins σ H G Q u s':=fun a ob w ev eh nl no ok ab=>by
    have h1:H1 a=none:=by
     cases q1:H1 a with
     | none=>rfl
     | some u1 =>
      exfalso;obtain⟨rfl,kz⟩:=Rx a u1 _ q1 eh;cases w with
      | lst xs=>exact nl xs rfl
      | _=>exact aW (show false=true from kz)
    have ej:hj H1 H' a=some (.jC ob w):=by rw [xQ h1]; exact eh
    have new:fu X.prog X.w (upd (hj H1 H') a w) s'.heap a w:=ok _ (fun b y q ny=>by
     have hb:b≠a:=fun z=>by rw [z,eh] at q; cases q; exact ny _ _ rfl
     rw [bz hb];cases q2:H1 b with
     | none=>rw [xQ q2]; exact q
     | some u2=>obtain⟨rfl,_⟩:=Rx b u2 _ q2 q; exact rK q2) (cu a _ eh)
    have I3:=RG I' J h1 ej no new;have g1:G1 a=none:=I1.ab.free h1;have kp:Kp H1 (upd (hj H1 H') a w):=by
     have kq:∀ b u,H1 b=some u->upd (hj H1 H') a w b=some u:=fun b u q=>by
      rw [bz (fun z=>by rw [z,h1] at q; cases q)]; exact rK q
     exact⟨fun b xs q=>kq b _ q,fun b o u q=>kq b _ q⟩
    have Ku:mM X.K (upd (hj H1 H') a w) (dH G1 a (.eW kvs)):=fun b g eg=>by
     by_cases z:b=a
     ·subst z;rw [ax] at eg;cases eg;exact ab _ bN
     ·rw [cw z] at eg;have y:=I1.ab b g eg;cases q2:H1 b with
      | none=>exact absurd q2 y.tracked
      | some u2=>exact y.mono kp (by rw [bz z,rK q2,q2])
    have mv:Mv X.K H1 G1 (upd (hj H1 H') a w) (dH G1 a (.eW kvs)):=⟨fun b o eo n=>by
      have hb:b≠a:=fun z=>by rw [z,h1] at eo; cases eo
      exact⟨by rw [bz hb]; exact rK eo,by rw [cw hb]; exact n⟩,fun b n=>by
      cases q2:G1 b with
      | none=>exact absurd q2 n
      | some g =>
       have hb:b≠a:=fun z=>by rw [z,g1] at q2; cases q2
       exact(Ku b g (by rw [cw hb]; exact q2)).tracked,Ku⟩
    rw [ev] at rv;cases rv;exact⟨.ref a,_,.ref a,_,I3,m1.trans mv,rfl,.ref a,QB a g1⟩
   cases RV with
   | qo h0 rk =>
    exact fin _ _ _ rfl h0 (fun _ z=>by cases z) (fun _ z=>by cases z) (fun H2 _ z=>z.2) fun H2 e2=>.dk e2 (rk.plain hkv)
   | qm h0 rt =>
    cases rt with
    | nil=>exact fin _ _ _ rfl h0 (fun _ z=>by cases z) (fun _ z=>by cases z) (fun H2 kt z=>z.2.k9 (fun _ _ _ y=>y) (fun c r=>kt c _ r (fun _ _ z=>by cases z)) (fun c xs r=>kt c _ r (fun _ _ z=>by cases z))) fun H2 e2=>.dt e2 .nil
    | cons _ _=>exact absurd hkv (by simp [dE])
  | next=>exact bJ hq
  | brk=>exact bJ hq
  | cont=>exact bJ hq
end
section
variable {X:Cx} {a:Expr} {p pos:Pos} {ta:gK}
theorem Kn:qg X (.builtin "len") Rn:=by
 intro pins s σ H G xs ds us Q I ab rx rd q;unfold Rn at q;split at q
 ·rename_i kvs;obtain⟨hz,q⟩:=q;obtain⟨w1,rfl,ze⟩:=rd.one;obtain⟨u,rfl,ru⟩:=rx.one;cases ze with
  | oY h0 z _ _ =>
   cases ru;obtain⟨_,⟨z1,hm,o,es,ep,ho,ex,dd,hl,nd⟩,_⟩:=I.cu _ _ h0;have l1:=congrArg cM hl;rw [ao,ff] at l1;have l2:=congrArg cM z.1;rw [ao,ao] at l2;have e:es.size=kvs.length:=by lia
   refine NM hm ho ex dd (by lia) fun t tk=>?_;rw [e];exact⟨.int _,H,.int _,G,I.tok _,.refl ab,⟨_,rfl⟩,.int _,q⟩
 ·exact q.elim
theorem Py {y:Str} {py:Pos} (hg:Gl X "isinstance") (hm:X.mg "isinstance" = none) (hgC:Gl X y) (hmC:X.mg y=none) (hvC:dZ y=some (.type "dict")) (ha:gH X a ta) (hn:autoParam (y≠"__name__") Ad._auto_1) (Ep:autoParam ((y == ("__debug__" : Str))=false) Ad._auto_1)
  (he:autoParam (bI [a,.Name y py] X.env=(false,eval a X.env) :: bI [.Name y py] X.env) Ar._auto_1) (Cc:autoParam ((rE pos (bI [Expr.Name y py] X.env)).any (·.1)=false) Ar._auto_1) (Tt:autoParam (bI [.Name y py] X.env=[(false,eval (.Name y py) X.env)]) Ar._auto_1) :
  gH X (.Call (.Name "isinstance" p) [a,.Name y py] [] pos) (Q8 ta):=by
 intro E pins s σ H τ G Q hE I h;refine eX (nj I.inv hg hm zb ?_);refine me ?_ he Cc;rw [he];show wpAny _ _ (DE ((false,eval a X.env) :: rE pos (bI [.Name y py] X.env))) _ _ s;refine iA (kG ha hE I h fun v H1 d G1 u s1 I1 m1 r1 jS q1=>?_);rw [Tt];show wpAny _ _ (DE [(false,eval (.Name y py) X.env)]) _ _ s1;refine iA (nj I1.inv hgC hmC hvC (nN ?_) hn Ep);cases jS with
 | oY h0 z _ _ =>
  cases r1;obtain⟨_,⟨z1,hm,o,es,ep,ho,ex,dd,hl,nd⟩,_⟩:=I1.inv.cu _ _ h0;exact iN Sa I1.inv.Fh ⟨_,ho,ex.1⟩ (Qa X.K "dict" (by decide) "dict" (by decide)) (fun z=>nomatch z) fun tk=>⟨.bl true,H1,.bl true,G1,I1.inv.tok _,m1,rfl,.bl true,q1⟩
 | _=>exact q1.elim
end
abbrev Nf(P:bE)(w:World):Fy P w PK:=nk3 (IE P w)
section
variable {P:bE} {w:World} {K:ar} {H:Hp} {h:Heap}
theorem items_int:∀ {t:List Int} {us:List Value},Vals (t.map V.int) us->ItemsAre (IE P w) t us
 | [],_,r=>by rw [aS] at r; cases r; exact .nil
 | i :: t,_,r=>by
  rw [ak] at r;cases r with
  | cons h r =>
   obtain⟨q,rfl⟩:=h;exact .cons (by simp [IE,uh]) (items_int r)
theorem aav(ok:pJ P w H h){v:V}{u:Value}{t:List Int}(r:b7 K H v (.tup (t.map D.int)))(ru:RelV v u):∃ b,u=.ref b/\(iS (IE P w)).is h t b:=by
 cases r with
 | tup e rs =>
  have z:=rs.ints;subst z;cases ru;obtain⟨_,bQ,r,o,h1,h2,n,h3⟩:=(show fu P w H h _ (.tup (t.map V.int)) from ok _ _ e);exact⟨_,rfl,o,bQ.toArray,n,h1,h2,h3,by simpa using items_int r⟩
theorem Uz(ok:pJ P w H h):∀ {r:List (List Int)} {vs:List V} {us:List Value},bq K H vs (r.map fun t=>.tup (t.map D.int))->Vals vs us->ur (iS (IE P w)) h r us
 | [],_,_,q,ru=>by have:=q.zero; subst this; cases ru; exact .nil
 | t :: r,_,_,q,ru=>by
  rw [ak] at q;cases q with
  | cons q1 q2 =>
   cases ru with
   | cons r1 r2 =>
    obtain⟨b,rfl,hb⟩:=aav ok q1 r1;exact .cons hb (Uz ok q2 r2)
theorem aau(ok:pJ P w H h){v:V}{u:Value}{r:List (List Int)}(q:b7 K H v (.tup (r.map fun t=>.tup (t.map D.int))))(ru:RelV v u):∃ b,u=.ref b/\(WW (IE P w)).is h r b:=by
 cases q with
 | tup e rs =>
  cases ru;obtain⟨_,bQ,r',o,h1,h2,n,h3⟩:=(show fu P w H h _ (.tup _) from ok _ _ e);exact⟨_,rfl,o,bQ.toArray,n,h1,h2,h3,by simpa using Uz ok rs r'⟩
theorem Uy(ok:pJ P w H h):∀ {k:PK} {vs:List V} {us:List Value},bq K H vs (k.map fun r=>.tup (r.map fun t=>.tup (t.map D.int)))->Vals vs us->ur (WW (IE P w)) h k us
 | [],_,_,q,ru=>by have:=q.zero; subst this; cases ru; exact .nil
 | t :: r,_,_,q,ru=>by
  rw [ak] at q;cases q with
  | cons q1 q2 =>
   cases ru with
   | cons r1 r2 =>
    obtain⟨b,rfl,hb⟩:=aau ok q1 r1;exact .cons hb (Uy ok q2 r2)
theorem Ta(ok:pJ P w H h){v:V}{u:Value}{k:PK}(q:b7 K H v (rJ k))(ru:RelV v u):∃ b,v=.ref b/\u=.ref b/\(Nf P w).is h k b:=by
 unfold rJ at q;cases q with
 | tup e rs =>
  cases ru;obtain⟨_,bQ,r',o,h1,h2,n,h3⟩:=(show fu P w H h _ (.tup _) from ok _ _ e);exact⟨_,rfl,rfl,o,bQ.toArray,n,h1,h2,h3,by simpa using Uy ok rs r'⟩
def P1(K:ar)(H:Hp)(x:PK×Addr×Value)(p:PK×D):Prop:=x.1=p.1/\b7 K H (.ref x.2.1) (rJ p.1)/\∃ v,RelV v x.2.2/\b7 K H v p.2
theorem D3:∀ {xs:List (PK×Addr×Value)} {ks vs:List V} {kvs:List (PK×D)},T7 kvs ks vs xs->bq K H ks (kvs.map fun p=>rJ p.1)->bq K H vs (kvs.map fun p=>p.2)->lE (P1 K H) xs kvs
 | [],ks,vs,kvs,r,r1,r2=>by
  have:kvs=[]:=by simpa using r.1
  subst this; exact .nil
 | x :: xs,ks,vs,kvs,r,r1,r2=>by
  obtain⟨e1,e2,e3⟩:=r;cases kvs with
  | nil=>cases e1
  | cons p kvs =>
   rw [ak,ak] at e1;injection e1 with e4 e5
   subst e2;rw [ak] at r1;rw [ak] at r1 r2;rw [ak] at e3;cases r1 with
   | cons q1 q2 =>
    cases r2 with
    | cons q3 q4 =>
     cases e3 with
     | cons q5 q6=>exact .cons ⟨e4.symm,q1,_,q5,q3⟩ (D3 ⟨e5,rfl,q6⟩ q2 q4)
theorem VC{xs:List (PK×Addr×Value)}{kvs:List (PK×D)}(h:lE (P1 K H) xs kvs):∃ vs,T7 kvs (xs.map fun x=>.ref x.2.1) vs xs/\bq K H (xs.map fun x=>.ref x.2.1) (kvs.map fun p=>rJ p.1)/\bq K H vs (kvs.map fun p=>p.2):=by
 induction h with
 | nil=>exact⟨[],⟨rfl,rfl,.nil⟩,.nil,.nil⟩
 | cons h1 _ ih =>
  obtain⟨vs,⟨a,b,c⟩,r1,r2⟩:=ih;obtain⟨e1,e2,v,e3,e4⟩:=h1;exact⟨v :: vs,⟨by rw [ak,ak,a,e1],rfl,.cons e3 c⟩,.cons e2 r1,.cons e4 r2⟩
theorem P1.mono{H':Hp}(k:Kp H H'){x:PK×Addr×Value}{p:PK×D}(h:P1 K H x p):P1 K H' x p:=let ⟨a,b,v,c,d⟩:=h; ⟨a,b.mono k,v,c,d.mono k⟩
theorem Gd{H':Hp}(k:Kp H H'){xs:List (PK×Addr×Value)}{kvs:List (PK×D)}(h:lE (P1 K H) xs kvs):lE (P1 K H') xs kvs:=Paired.VY h fun _ _ z=>z.mono k
theorem VD(ok:pJ P w H h){xs:List (PK×Addr×Value)}{kvs:List (PK×D)}(r:lE (P1 K H) xs kvs):∀ x∈xs,(Nf P w).is h x.1 x.2.1:=by
 induction r with
 | nil=>intro x hx; cases hx
 | cons h1 _ ih =>
  intro x hx;rcases List.mem_cons.mp hx with rfl | hx
  ·obtain⟨e1,e2,_⟩:=h1;obtain⟨b,e3,e4,e5⟩:=Ta ok e2 (rfl:RelV (.ref _) (.ref _));cases e4;rw [e1]; exact e5
  ·exact ih x hx
theorem AJ(ok:pJ P w H h){a:Addr}{xs:List (PK×Addr×Value)}{kvs:List (PK×D)}(p:Kw a xs h)(r:lE (P1 K H) xs kvs):h.DictOfH (Nf P w) a xs:=by
 obtain⟨z,y,o,es,ep,h1,h2,h3,h4,h5⟩:=p;exact⟨o,es,ep,h1,h2,h3,h4,VD ok r,h5⟩
theorem D7{a:Addr}{xs:List (PK×Addr×Value)}(z:xs.length<=a9)(y:(a == cS)=false)(d:h.DictOfH (Nf P w) a xs):fu P w H h a (.ext (Kw a xs)):=by
 obtain⟨o,es,ep,h1,h2,h3,h4,_,h5⟩:=d;refine⟨⟨z,y,o,es,ep,h1,h2,h3,h4,h5⟩,⟨o,h1⟩,?_⟩;rintro g1 g2 ⟨z,y,o,es,ep,q1,q⟩ k;exact⟨z,y,o,es,ep,k _ q1,q⟩
theorem Pk{xs:List (PK×Addr×Value)}{kvs:List (PK×D)}(r:lE (P1 K H) xs kvs)(k:PK):(∃ q v d,atKey xs k=some q/\qx kvs k=some d/\RelV v q.2/\b7 K H v d)\/(atKey xs k=none/\qx kvs k=none):=by
 induction r with
 | nil=>exact .inr ⟨rfl,rfl⟩
 | @cons x p xs kvs h1 _ ih =>
  obtain⟨e1,e2,v,e3,e4⟩:=h1;by_cases e:x.1=k
  ·left;refine⟨x.2,v,p.2,?_,?_,e3,e4⟩
   ·unfold atKey; rw [cB (by simpa using e)]; rfl
   ·unfold qx; rw [cB (by simpa using e1.symm.trans e)]; rfl
  ·have a1:atKey (x :: xs) k=atKey xs k:=by unfold atKey; rw [cC (by simpa using e)]
   have a2:qx (p :: kvs) k=qx kvs k:=by unfold qx; rw [cC (by simpa using fun z=>e (e1.trans z))]
   rw [a1,a2]; exact ih
theorem SR{xs:List (PK×Addr×Value)}{kvs:List (PK×D)}(r:lE (P1 K H) xs kvs)(k:PK):(kvs.any fun p=>decide (p.1=k))=(atKey xs k).isSome:=by
 induction r with
 | nil=>rfl
 | @cons x p xs kvs h1 _ ih =>
  rw [mS];by_cases e:x.1=k
  ·have a1:(atKey (x :: xs) k).isSome=true:=by unfold atKey; rw [cB (by simpa using e)]; rfl
   rw [a1]; simp [h1.1 ▸ e]
  ·have a1:atKey (x :: xs) k=atKey xs k:=by unfold atKey; rw [cC (by simpa using e)]
   have:¬ p.1=k:=fun z=>e (h1.1.trans z);rw [a1,<-ih]; simp [this]
theorem SQ{xs:List (PK×Addr×Value)}{kvs:List (PK×D)}(r:lE (P1 K H) xs kvs){k:PK}{b:Addr}{v:V}{u:Value}{d:D}(rk:b7 K H (.ref b) (rJ k))(ru:RelV v u)(rd:b7 K H v d):lE (P1 K H) (IC xs k b u) (Az kvs k d):=by
 unfold IC Az;rw [SR r k];split
 ·rename_i hs;clear rk hs;induction r with
  | nil=>exact .nil
  | @cons x p xs kvs h1 _ ih =>
   rw [ak,ak];refine .cons ?_ ih;unfold putAt;obtain⟨e1,e2,e3⟩:=h1;by_cases e:x.1=k
   ·rw [if_pos e,if_pos (e1.symm.trans e)];exact⟨e1,e2,v,ru,rd⟩
   ·rw [if_neg e,if_neg (fun z=>e (e1.trans z))];exact⟨e1,e2,e3⟩
 ·exact RN r ⟨rfl,rk,v,ru,rd⟩
theorem Lh{xs:List (PK×Addr×Value)}{kvs:List (PK×D)}(r:lE (P1 K H) xs kvs):xs.length=kvs.length:=jd r
theorem E5{a:Addr}{xs:List (PK×Addr×Value)}{kvs:List (PK×D)}(e:H a=some (.ext (Kw a xs)))(r:lE (P1 K H) xs kvs):KA K H a (.ua kvs):=by
 obtain⟨vs,a1,a2,a3⟩:=VC r;exact⟨xs,_,vs,e,a1,a2,a3⟩
theorem Kg{G:Gp}{a:Addr}{kvs:List (PK×D)}(ab:mM K H G)(hg:G a=some (.ua kvs)):∃ xs,H a=some (.ext (Kw a xs))/\lE (P1 K H) xs kvs:=by
 obtain⟨xs,ks,vs,e,a1,a2,a3⟩:=ab a _ hg;exact⟨xs,e,D3 a1 a2 a3⟩
theorem Kp.Xy{p:Addr}{o:HO}{φ:Heap->Prop}(hp:H p=some (.ext φ)):Kp H (upd H p o) :=
 ⟨fun a ys e=>by rw [bz (by rintro rfl; rw [hp] at e; cases e)]; exact e,fun a ob u e=>by rw [bz (by rintro rfl; rw [hp] at e; cases e)]; exact e⟩
theorem EC{φ:Heap->Prop}{a:Addr}(ok:pJ P w H h)(e:H a=some (.ext φ)):φ h:=(ok a _ e).1
end
section
variable {X:Cx} {elts:List Expr} {kk:Nat} {B6 apos rq pos:Pos} {o i k v:Expr} {to ti tk tv:gK}
theorem DP:T5 X "dict" tyP:=by
 intro pins s σ H G x d u I ab r rd h;cases rd with
 | ref l =>
  unfold tyP at h;dsimp only at h;split at h
  ·rename_i kvs hg;obtain⟨xs,e,_⟩:=Kg ab hg;obtain⟨_,_,o,es,ep,h1,h2,_⟩:=EC I.cu e;cases r;exact⟨⟨o,h1,h2.1⟩,fun a z=>by cases z; exact⟨o,h1,h2.2.1⟩⟩
  ·exact h.elim
 | oY hq _ _ _ =>
  obtain⟨_,_,o,es,ep,h1,h2,_⟩:=(I.cu _ _ hq).2.1;cases r;exact⟨⟨o,h1,h2.1⟩,fun a z=>by cases z; exact⟨o,h1,h2.2.1⟩⟩
 | _=>exact bJ h
theorem LS{pins:List (Addr×Obj)}{s:aA}{σ:L2.St}{H:Hp}{G:Gp}{a:Addr}{kvs:List (PK×D)}{ys:List (PK×Addr×Value)}{pk:PK}{w w2:V}{u1 u2:Value}{d':D}{Q:DK}(hu:X.A.units+64 < cLine)(I:Inv X pins σ H s)(ab:mM X.K H G)(pd:Kw a ys s.heap)(r:lE (P1 X.K H) ys kvs)(ze:b7 X.K H w (rJ pk))(FR:RelV w u1)(MJ:b7 X.K H w2 d')(Jj:RelV w2 u2)(q:Q ((qx kvs pk).getD d') G) :
  wpAny (model X.prog X.w) X.A (call (.builtin "dict.get") [.ref a,u1,u2]) (rP X pins σ H G Q) X.xe s:=by
 have dd:=AJ I.cu pd r;obtain⟨b,rfl,rfl,hb⟩:=Ta I.cu ze FR;have hT:s.TypeIs (.ref a) "dict":=by obtain⟨o,es,ep,ho,hc,_⟩:=dd; exact⟨o,ho,hc.1⟩
 refine nE dh hT mQ (lN _ _ _) (meetsH_dict_get_default (Nf X.prog X.w) a b pd.2.1 u2) ⟨Gw (by lia),pk,ys,hb,dd,?_⟩;rcases Pk r pk with ⟨q1,v1,d1,h1,h2,h3,h4⟩ | ⟨h1,h2⟩
 ·rw [h1];rw [h2] at q;exact⟨v1,H,d1,G,I.tok _,.refl ab,h3,h4,q⟩
 ·rw [h1];rw [h2] at q;exact⟨w2,H,d',G,I.tok _,.refl ab,Jj,MJ,q⟩
theorem AU (hu:X.A.units+64 < cLine):Kx X "dict.get" CS:=by
 intro pins s σ H G x d xs ds v us Q I ab rx rd Oe DV q;unfold CS at q;split at q
 ·rename_i a k d';obtain⟨kvs,pk,hg,rfl,q⟩:=q;cases rd;obtain⟨w,w2,rfl,ze,MJ⟩:=DV.two;obtain⟨u1,u2,rfl,FR,Jj⟩:=vals2 Oe;cases rx;obtain⟨ys,e,r⟩:=Kg ab hg;exact LS hu I ab (EC I.cu e) r ze FR MJ Jj q
 ·rename_i kvs k d';obtain⟨pk,rfl,q⟩:=q;obtain⟨w,w2,rfl,ze,MJ⟩:=DV.two;obtain⟨u1,u2,rfl,FR,Jj⟩:=vals2 Oe;cases rd with
  | oY hq rel rk rv =>
   cases rx;exact LS hu I ab (I.cu _ _ hq).2.1 (D3 rel rk rv) ze FR MJ Jj q
 ·exact q.elim
theorem TF{pins:List (Addr×Obj)}{s:aA}{σ:L2.St}{H:Hp}{G:Gp}{a:Addr}{kvs:List (PK×D)}{pk:PK}{y w:V}{u r:Value}{d:D}{Q:Unit->aA->Prop}(hu:X.A.units+64 < cLine)(I:Inv X pins σ H s)(ab:mM X.K H G)(hg:G a=some (.ua kvs))(hz:kvs.length < SZ)(ry:RelV y u)(dy:b7 X.K H y (rJ pk))(rv:RelV w r)(dv:b7 X.K H w d)
  (h:∀ H' s',Inv X pins σ H' s'->Mv X.K H G H' (dH G a (.ua (Az kvs pk d)))->Q () s'):wpAny (model X.prog X.w) X.A (setItem (.ref a) u r) Q X.xe s:=by
 obtain⟨xs,e,rr⟩:=Kg ab hg;have pd:=EC I.cu e;have dd:=AJ I.cu pd rr;obtain⟨b,rfl,rfl,hb⟩:=Ta I.cu dy ry;have sz:a9=16777216:=cV;have hl:xs.length < a9:=by rw [Lh rr,sz]; exact hz
 refine wpAny_setItem_heap (hsz:=by lia) (Gw (by lia)) hb dd fun h' Dl hs=>?_;have kp:Kp H (upd H a (.ext (Kw a (IC xs pk b r)))):=.Xy e;have pr:=Gd kp (SQ rr dy rv dv);have he:∃ q,h'.get? a=some q:=let ⟨q,_,_,hq,_⟩:=Dl; ⟨q,hq⟩
 have rh:(IC xs pk b r).length<=a9:=by
  unfold IC;split
  ·rw [ao]; lia
  ·rw [av]; show xs.length+1<=_; lia
 exact h _ _ (ub I (by rw [e]; exact gT) hs he (D7 rh pd.2.1 Dl)) (.put ab hg kp (E5 bN pr))
theorem Gh(hu:X.A.units+64 < cLine)(ho:gH X o to)(hi:gH X i ti)
  (ha:autoParam (∀ v,KH (.Subscript o i pos) X.env v=(do
   let ov ← zV [v] (eval o X.env)
   let iv ← zV [v,ov] (eval i X.env)
   standAt pos
   zV [v,ov,iv] (setItem ov iv v)
   release [v,ov,iv] [])) Ai._auto_1):NW X (.Subscript o i pos) (Hj to ti):=by
 intro E pins s σ H τ G w d u Q hE I r rd h;rw [ha];refine ah (cG (kG ho hE I h fun x H1 dx G1 ov s1 I1 m1 r1 jS q1=>?_));refine ah (cG (kG hi hE I1 q1 fun y H2 dy G2 iv s2 o4 m2 r2 Av q2=>?_));refine ah (Ft (ah (cG ?_)));have Ir:=m1.trans m2;have RV:=rd.mono (Ir.kp I.ab);have Ab:=I.st.mono (Ir.kp I.ab);have Z9:=jS.mono (m2.kp I1.ab);unfold Ji at q2;split at q2
 ·rename_i l;cases Z9;cases r1;obtain⟨kvs,pk,hg,rfl,hz,q⟩:=q2;exact TF hu o4.inv o4.ab hg hz r2 Av r RV fun H4 s4 I4 m4=>wpAny_release ⟨σ,H4,τ,_,⟨I4,Ab.mono (m4.kp o4.ab),m4.ab⟩,Ir.trans m4,q⟩
 ·exact q2.elim
theorem Dk {P:bE} {w:World} {H:Hp} (h:Heap) (hb:cS < h.objs.size):fu P w H (h.push { cls:=.type "dict",data:=.dict #[] }) h.objs.size (.ext (Kw h.objs.size [])) :=
 D7 (cp _) (beq_eq_false_iff_ne.mpr (dG (bu hb))) ⟨_,#[],0,bc _ rfl,⟨rfl,rfl,rfl⟩,rfl,rfl,(fun x hx=>absurd hx (by simp)),cq⟩
theorem Lo:gH X (.Dict [] [] pos) Rb:=by
 intro E pins s σ H τ G Q hE I h;have hn:=I.inv.cu.fresh (aH s.heap.objs.size);have I1:=I.inv.laid (a:=s.heap.objs.size) (o:=.ext (Kw s.heap.objs.size [])) (h':=s.heap.push { cls:=.type "dict",data:=.dict #[] }) (t':=s.toks) (fun _ _ q=>aF _ q) (aH _) (Dk s.heap I.inv.big);exact wpAny_Dict_empty ⟨.ref s.heap.objs.size,_,.ref _,_,I1,.new I.ab hn (E5 bN .nil),rfl,.ref _,h _ (I.ab.free hn)⟩
theorem PA(hu:X.A.units+64 < cLine)(hk:gH X k tk)(hv:gH X v tv):gH X (.Dict [some k] [v] pos) (Ra tk tv):=by
 intro E pins s σ H τ G Q hE I h;have hn:=I.inv.cu.fresh (aH s.heap.objs.size);have I1:=I.inv.laid (a:=s.heap.objs.size) (o:=.ext (Kw s.heap.objs.size [])) (h':=s.heap.push { cls:=.type "dict",data:=.dict #[] }) (t':=s.toks) (fun _ _ q=>aF _ q) (aH _) (Dk s.heap I.inv.big);have mh:Mv X.K H G (upd H s.heap.objs.size (.ext (Kw s.heap.objs.size []))) G:=.Nz I.ab hn;have I2:I2 X pins σ (upd H s.heap.objs.size (.ext (Kw s.heap.objs.size []))) τ G { s with heap:=s.heap.push { cls:=.type "dict",data:=.dict #[] },toks:=s.toks }:=⟨I1,I.st.mono (.new hn),mh.ab⟩;refine wpAny_Dict_any (by rfl) (by rfl) (by simp) (show 1<=15 by decide) ?_;refine pairTrees_cons_walk (kG hk hE I2 h fun x H1 dx G1 u s1 I3 m1 r1 jS q1=>?_);refine kG hv hE I3 q1 fun y H2 dy G2 w s2 I4 m2 r2 Av q2=>?_;obtain⟨pk,rfl,q2⟩:=q2;refine pairTrees_nil_walk ?_;have g0:G s.heap.objs.size=none:=I.ab.free hn;obtain⟨p1,p2⟩:=m1.keep _ _ (bN (H:=H) (a:=s.heap.objs.size) (o:=.ext (Kw s.heap.objs.size []))) g0;obtain⟨p3,p4⟩:=m2.keep _ _ p1 p2;have Xu:=jS.mono (m2.kp I3.ab);have pd:=EC I4.inv.cu p3;have dd:=AJ (K:=X.K) (kvs:=[]) I4.inv.cu pd .nil;obtain⟨b,rfl,rfl,hb⟩:=Ta I4.inv.cu Xu r1;unfold storeAll;rw [xc];refine ah (ah (wpAny_dictSet_heap (hsz:=cp _) (M3 (by lia)) hb dd fun h' Dl hs=>az ?_));show wpAny _ _ (forIn [] PUnit.unit _) _ _ _;rw [KP];refine az ?_;have he:∃ q,h'.get? s.heap.objs.size=some q:=let ⟨q,_,_,hq,_⟩:=Dl; ⟨q,hq⟩
 have es:IC [] pk b w=[(pk,b,w)]:=rfl;rw [es] at Dl;have kp:Kp H2 (upd H2 s.heap.objs.size (.ext (Kw s.heap.objs.size [(pk,b,w)]))):=.Xy p3;have I5:=ub (t':=s2.toks+(Nf X.prog X.w).draws pk) I4.inv (by rw [p3]; exact gT) hs he (D7 (by exact(show 1<=a9 by decide)) pd.2.1 Dl);have Ir:=(mh.trans m1).trans m2;refine⟨.ref s.heap.objs.size,_,.ref s.heap.objs.size,_,I5,?_,rfl,.ref _,q2 _ p4⟩;refine⟨fun a o e n=>?_,fun a n=>?_,fun a g e=>?_⟩
 ·have ne:a≠s.heap.objs.size:=eC e hn;obtain⟨k1,k2⟩:=Ir.keep a o e n;exact⟨by rw [bz ne]; exact k1,by rw [cw ne]; exact k2⟩
 ·by_cases ha:a=s.heap.objs.size
  ·rw [ha,bN]; simp
  ·rw [bz ha]; exact Ir.k9 a n
 ·by_cases ha:a=s.heap.objs.size
  ·subst ha;rw [ax] at e; cases e;exact E5 bN (Gd kp (.cons ⟨rfl,Xu,y,r2,Av⟩ .nil))
  ·rw [cw ha] at e;exact(Ir.ab a g e).mono kp (bz ha)
theorem AG (ho:gH X o to) (Bb:autoParam (Fv o "items" X.env (eval o X.env)=eval o X.env) Ar._auto_1) (Ba:autoParam ((apos.endLine == rq.line)=true) Ar._auto_1) :
  NV X (.Tuple elts kk B6) (.Call (.Attribute o "items" apos) [] [] rq) (wu to):=by
 intro E pins s σ H τ G R hE I h;refine xj Bb Ba (kG ho hE I h fun x H1 d G1 v s1 I1 m1 r1 jS q1=>?_);cases d with
 | oY kvs =>
  have q1:R (kvs.map fun p=>.tup [rJ p.1,p.2]) (fun _=>True) G1:=q1;cases jS with
  | oY hq rel rk rv =>
  rename_i a ob xs ks vs;have pr:=D3 rel rk rv;obtain⟨z,ns,o',es,ep,Fm,ex,dd,hl,nd⟩:=(I1.inv.cu a _ hq).2.1;have eo:o'=ob:=by have:=(I1.inv.cu a _ hq).1; rw [Fm] at this; exact ba this
  subst eo;have t1:s1.TypeIs (.ref a) "dict":=⟨_,Fm,ex.1⟩;have t2:∀ b,fK a=.ref b->∃ ob,s1.heap.get? b=some ob/\ob.dict=none:=fun b z=>by cases z; exact⟨_,Fm,ex.2.1⟩
  have l1:=congrArg cM hl;rw [ao,ff] at l1;have l2:=Lh pr;have l3:vs.length=xs.length:=by have:=rel.2.2.length; simpa using this
  have ps:∀ i (h:i < es.size),∃ p,((xs.zip vs).map fun z=>(V.ref z.1.2.1,z.2))[i]?=some p/\RelV p.1 es[i].key/\RelV p.2 es[i].val:=fun i hi=>by
   have i2:i < xs.length:=by lia
   have i3:i < vs.length:=by lia
   have ee:es[i]=⟨hP xs[i].1,.ref xs[i].2.1,xs[i].2.2⟩:=by
    have:=congrArg (fun l=>l[i]?) hl;simp only [bx,aC i2] at this;simpa [hi] using this
   refine⟨(V.ref xs[i].2.1,vs[i]),by rw [bx,aC (by rw [hW]; lia),o8]; rfl,?_⟩;rw [ee];refine⟨rfl,?_⟩;obtain⟨u,ZE,hu2⟩:=rel.2.2.get (aC i3);rw [bx,aC i2] at ZE;cases ZE;exact hu2
  have Vx:∀ (i:Nat) (q:PK×D),kvs[i]?=some q->∃ p,((xs.zip vs).map fun z=>(V.ref z.1.2.1,z.2))[i]?=some p/\b7 X.K H1 p.1 (rJ q.1)/\b7 X.K H1 p.2 q.2:=fun i q e=>by
   have i1:i < kvs.length:=(List.getElem?_eq_some_iff.mp e).1;have i2:i < xs.length:=by lia
   have i3:i < vs.length:=by lia
   refine⟨(V.ref xs[i].2.1,vs[i]),by rw [bx,aC (by rw [hW]; lia),o8]; rfl,?_,?_⟩
   ·obtain⟨w,hw,rH⟩:=rk.get (i:=i) (d:=rJ q.1) (by rw [bx,e]; rfl);rw [rel.2.1,bx,aC i2] at hw;cases hw;exact rH
   ·obtain⟨w,hw,rH⟩:=rv.get (i:=i) (d:=q.2) (by rw [bx,e]; rfl);rw [aC i3] at hw;cases hw;exact rH
  have hlen:kvs.length=es.size:=by lia
  cases r1;refine⟨"dict","dict.items",cI,gL,sx,t1,t2,nF rfl (y9 ?_)⟩;refine nE gL t1 rT (qN _) (v5 a ns) ⟨t1,?_⟩;have I2:Inv X pins σ H1 { s1 with heap:=s1.heap.push { cls:=.type "dict_items",data:=.fields #[.ref a] } }:=I1.inv.kept (t':=s1.toks) fun b o e=>aF _ e;refine yK (s:={ s1 with heap:=s1.heap.push { cls:=.type "dict_items",data:=.fields #[.ref a] } }) ⟨_,bc _ rfl,rfl,rfl⟩ (aF _ (I1.inv.cu a _ hq).1) dd ?_;refine⟨_,[_],_,_,H1,G1,kvs.map (fun p=>.tup [rJ p.1,p.2]),_,rfl,I2.kept (t':=s1.toks) fun b o e=>aF _ e,m1,yn a _ _ es ep _ dd ps,⟨.none,.none,bc _ rfl⟩,fun b hb=>?_,fun i H2 G2 k ab _=>?_,q1⟩
  ·have e:=List.mem_singleton.mp hb;subst e;exact I2.Cd (aH _) (I2.cu.fresh (aH _))
  ·have rh:=k.jC _ _ _ hq;refine⟨fun d hd=>?_,fun hle=>⟨⟨_,rh⟩,by rw [<-hlen]; simpa using hle⟩⟩;rw [bx] at hd;cases Nw:kvs[i]? with
   | none=>rw [Nw] at hd; cases hd
   | some q =>
    rw [Nw] at hd;obtain⟨p,hp,rk,rp⟩:=Vx i q Nw;have hi:i < es.size:=by rw [<-hlen]; exact(List.getElem?_eq_some_iff.mp Nw).1
    refine⟨⟨⟨_,rh⟩,hi⟩,?_⟩;rintro x H3 ⟨T,p',ex,hT,e3,hy⟩;subst ex e3;rw [hp] at hy;cases hy;have ed:D.tup [rJ q.1,q.2]=d:=by simpa using hd
    subst ed;exact⟨.tup bN (.cons ((rk.mono k).mono (.new hT)) (.cons ((rp.mono k).mono (.new hT)) .nil)),.Nz ab hT⟩
 | _=>exact q1.elim
theorem oh.drop{K:ar}{H:Hp}{kv:List (List Key×V)}{kvs:List (D×D)}(r:oh K H kv kvs)(k:List Key):oh K H (kv.filter fun p=>decide (p.1≠k)) (kvs.filter fun p=>!jj p.1 (.tup (k.map eV))):=by
 induction r using oh.ind with
 | nil=>exact .nil
 | @cons j v d r t rd rs ih =>
  rw [bD,bD];simp only [tu];by_cases e:j=k
  ·simp only [e,ne_eq,not_true_eq_false,decide_false,decide_true,bF,ay,if_false]; exact ih
  ·simp only [e,ne_eq,not_false_eq_true,decide_true,decide_false,di,if_true]; exact .cons rd ih
theorem KT.drop{H:Hp}{kvs:List (List Key×V)}{xs:List (List Key×Addr×Value)}(r:KT H kvs xs)(k:List Key):KT H (kvs.filter fun p=>decide (p.1≠k)) (Vc xs k):=by
 unfold Vc;induction r with
 | nil=>exact .nil
 | @cons p q ps qs h1 _ ih =>
  rw [bD,bD];by_cases e:p.1=k
  ·have e2:q.1=k:=h1.1.symm.trans e;simp only [e,e2,ne_eq,not_true_eq_false,decide_false,ay,if_false]; exact ih
  ·have e2:¬ q.1=k:=fun z=>e (h1.1.trans z);simp only [e,e2,ne_eq,not_false_eq_true,decide_true,if_true]; exact .cons h1 ih
theorem Gz (hu:X.A.units+64 < cLine):Kx X "dict.pop" GD:=by
 intro pins s σ H G x d xs ds v us Q I ab rx rd Oe DV q;unfold GD at q;split at q
 ·rename_i a k;obtain⟨kvs,d',hg,⟨hk,ha,hl⟩,q⟩:=q;cases rd;obtain⟨w,rfl,ze⟩:=DV.one;obtain⟨u1,rfl,FR⟩:=vals1 Oe;cases rx;obtain⟨H',I',m,h⟩:=EH I ab hg (by unfold ie; rw [qI]; right; rw [hk,ha]; rfl) ze;rcases h with ⟨kv,kk,hv,rs,rfl,rfl⟩ | ⟨kv,kk,b,hv,rs,rfl,rfl,hb⟩
  ·cases kk <;> simp [eV,ly] at hk
  ·cases FR;obtain⟨z,hd,ys,rel,dd⟩:=QY I'.cu hv;rcases rs.look kk with ⟨v',d2,e1,e2,rr⟩ | ⟨e1,e2⟩
   ·rw [e2] at hl;cases hl;obtain⟨w',hw,rH⟩:=yg.some_of (v:=v') (o:=(atKey ys kk).map (·.2)) (by rw [<-e1]; exact rel.val kk);obtain⟨p,hp,qb⟩:=Option.map_eq_some_iff.mp hw;refine Pq (knd:=iS (cK X.prog X.w)) (kP (by lia)) (u6 I'.cu hb) dd hp (by rw [<-jd rel]; exact z) fun h' Dl hs=>?_;rw [qb];have kp:Kp H' (upd H' a (.dT (kv.filter fun p=>decide (p.1≠kk)))):=.putD hv (.inr ⟨_,rfl⟩);obtain⟨q',es,ep,hq,h2,h3,h4,_,h5⟩:=Dl;have I5:=ub (t':=s.toks+(iS (cK X.prog X.w)).draws kk) I' (by rw [hv]; exact gT) hs ⟨q',hq⟩ (ob:=.dT (kv.filter fun p=>decide (p.1≠kk))) ⟨aU (eA _ _) z,hd,_,(KT.drop rel kk).keeps fun c ys ec=>by rw [bz (UA ec hv (fun z=>nomatch z))]; exact ec,q',es,ep,hq,h2,h3,h4,h5⟩;exact⟨v',_,d',_,I5,m.trans (.put m.ab hg kp (.dt bN ((rs.drop kk).mono kp))),rH,rr.mono kp,q⟩
   ·rw [e2] at hl; cases hl
 ·exact q.elim
end
end K2
end
section
namespace K2
open PySem PySem.W PySem.Spec PyProof.Rows PySem.Calls
theorem Na{p q:bE}{loose:List Str}{Xt:aA->Bool}{α:Type}{Yf:aA->α}{Ya:World->α}{N:Nat}(e:opening p=plainProg p.main.scope.names)(hN:Nat.ble 600 N=true)(f:∀ s,fenceModules? p s=some s)
  (h:∀ (w:World) (os:OsState),(topFrom treeTable p w N ⟨Oz w.params,Ms [],IH,Oy,os⟩).map (fun s=>(openSeen q loose (zU p.main.body) Xt true s,Yf s))=some (openGood q loose,Ya w)):LeftO p q loose Xt Yf Ya N:=fun w=>by
 obtain⟨⟨h',gs,d,k,os⟩,e1,e2⟩:=Option.map_eq_some_iff.mp (boot_open e hN f w);obtain⟨rfl,rfl,rfl,rfl⟩:h'=Oz w.params/\gs=Ms []/\d=IH/\k=Oy:=by simpa using e2
 unfold openEnds;rw [e1];exact h w os
abbrev K0(l:OpenLaw)(q:bE):Bool:=chainsOk q&&opensWell l.row.prog&&(frees l.row.toRowW&&l.row.within.isEmpty)
abbrev Vb(l:OpenLaw)(q:bE)(s:aA):Bool:=xlAt q [] s&&recOk l.row.records s
theorem NA{l:OpenLaw}{q:bE}{loose:List Str}{K:Params->Frag}{as:List Addr}{d:DefRec}{N:Nat}(ok:l.wellSaid=true)(e:opening l.row.prog=plainProg l.row.prog.main.scope.names)(hN:Nat.ble 600 N=true)(f:∀ s,fenceModules? l.row.prog s=some s)(hK:∀ P,as=(K P).map (·.1))
  (h:∀ (w:World) (os:OsState),(topFrom treeTable l.row.prog w N ⟨Oz w.params,Ms [],IH,Oy,os⟩).map (fun s=>(openSeen q loose (zU l.row.prog.main.body) (Vb l q) true s,as.map s.heap.get?))=some (openGood q loose,(K w.params).map fun p=>some p.2))
  (hd:defOf q l.row.name=some (d,[])) (hp:l.row.prog.theDef l.row.name=some (d.params,d.body,d.scope)) (hk:kwWritten? d.params.kwonlyargs d.params.kw_defaults=some []) (hr:(!l.row.writes||l.row.records.isEmpty)=true) (ht:K0 l q=true) (hb:l.row.prog.bare) (hw:l.row.toRowW.promised)
  (c:WalkO q loose (XL q []) (InK K) l.row.toRowW d [] fun f vs=>KI f vs):l.Holds :=
 holds_law ok fun k1=>holds_open (Na (Yf:=Hook.obs (kHook K as hK)) (Ya:=Hook.val (kHook K as hK)) e hN f h) (Hook.of (kHook K as hK)) (Hook.keeps (kHook K as hK)) (fun s x=>xl_of s (Bool.and_eq_true_iff.mp x).1) XL.keeps hd hp hk (fun s x=>recFacts_of (Bool.and_eq_true_iff.mp x).2) hr k1 ht hb hw c
structure At(K:Frag)(x:Str)(st:Stmt)(f:Addr)(fd:gy):Prop where
 a:nsIn K bR x=some (some (.ref f))
 F:L2.Ub K x x st f fd
theorem U1{K:Frag}{x:Str}{st:Stmt}{f:Addr}{oc:Value}{od an:Option Addr}{MY:Array (Option Value)}{kV doc pm ot ct:Value}(a:autoParam (nsIn K bR x=some (some (.ref f))) Aq._auto_1)(l:autoParam (K.lookup f=some ⟨oc,od,.func (fnOf x x (L2.mw st) (L2.jf st) (L2.cf st) .none kV doc pm an ot ct),MY⟩) Aq._auto_1)
  (c:autoParam (codeIn K ot x=true) Aq._auto_1) (k:autoParam (keepIn K (.ref f)=true) Aq._auto_1):At K x st f (fnOf x x (L2.mw st) (L2.jf st) (L2.cf st) .none kV doc pm an ot ct):=⟨a,L2.Wu l c k⟩
structure Cal(P:bE)(w:World)(K:Frag)(mg:Str->Option Value)(base:Heap)(CX:L2.Kz)(k:Nat)(f:Addr)(fd:gy)(x:Str)(ps:List Str)(sp:L2.Sp):Prop where
 ok:L2.uw P w K mg base CX k f fd ps sp
 mg:mg x=some (.ref f)
 kp:keepIn K (.ref f)=true
 bi:L2.Binds K fd ps []
end K2
end
section
namespace K2
open PySem PySem.W PySem.Spec PyProof.Rows L2
structure Uc where
 P:bE
 w:World
 K:Frag
 mg:Str->Option Value
 base:Heap
inductive U5 (V:Uc):Prop
 | mk {h:Heap}:V.K.In h->h.Ns bR V.mg->U5 V
theorem U5.mg{V:Uc}{x:Str}{v:Value}(Y:U5 V)(a:nsIn V.K bR x=some (some v)):V.mg x=some v:=by obtain⟨X,G⟩:=Y; exact mg_of X G a
theorem U5.no{V:Uc}{x:Str}(Y:U5 V)(a:nsIn V.K bR x=some none):V.mg x=none:=by obtain⟨X,G⟩:=Y; exact mg_none_of X G a
inductive ZW (V:Uc) (CX:Kz) (k:Nat) (x:Str) (ps:List Str) (sp:Sp):Prop
 | mk {f:Addr} {fd:gy}:Cal V.P V.w V.K V.mg V.base CX k f fd x ps sp->ZW V CX k x ps sp
theorem ZW.el{V:Uc}{CX:Kz}{k:Nat}{x:Str}{ps:List Str}{sp:Sp}{p:Prop}(z:ZW V CX k x ps sp)(h:∀ f fd,Cal V.P V.w V.K V.mg V.base CX k f fd x ps sp->p):p:=by obtain⟨c⟩:=z; exact h _ _ c
abbrev fV(V:Uc)(k:Nat)(x:Str)(ps:List Str)(sp:kC):Prop:=ZW V Iy k x ps (zd V.K sp)
inductive iF (K:Frag) (x:Str) (st:Stmt):Prop
 | mk {f:Addr} {fd:gy}:At K x st f fd->iF K x st
theorem eZ{K:Frag}{x:Str}{st:Stmt}{f:Addr}{oc:Value}{od an:Option Addr}{MY:Array (Option Value)}{kV doc pm ot ct:Value}(a:autoParam (nsIn K bR x=some (some (.ref f))) Aq._auto_1)(l:autoParam (K.lookup f=some ⟨oc,od,.func (fnOf x x (L2.mw st) (L2.jf st) (L2.cf st) .none kV doc pm an ot ct),MY⟩) Aq._auto_1)
  (c:autoParam (codeIn K ot x=true) Aq._auto_1) (k:autoParam (keepIn K (.ref f)=true) Aq._auto_1):iF K x st:=⟨U1 a l c k⟩
theorem qK{V:Uc}{x:Str}{st:Stmt}{ps:List Str}{k:Nat}{sp:kC}{rd:iq}(Nn:List Str)(Y:U5 V)(F:iF V.K x st)
  (hr:∀ ds G Q,sp ds G Q (fun _ _=>False)->rd (fun _ _=>False) (ends Q) (bg Nn.length ds) G)
  (hb:∀ {f:Addr} {ot:Value} {A:dg} {outer:List Env} {s:aA} {H:Hp} {E:XK},mJ k (A.deeper (Cz x (cf st) s.heap.objs.size f ot))->Nn.Nodup->yh (EL Iy V.P V.w V.K V.mg V.base Nn x (cf st) f ot A outer s H E).VS (jf st) rd)
  (S:autoParam (pK Nn ps (cf st)) Aua._auto_1)
  (bn:autoParam (∀ (kV doc pm:Value) (an:Option Addr) (ot ct:Value) (us:List Value),us.length=ps.length->bindArgs (fnOf x x (mw st) (jf st) (cf st) .none kV doc pm an ot ct) ⟨us,[]⟩=pure (ps.zip us)) Aub._auto_1)
  (len:autoParam (∀ ds G Q E,sp ds G Q E->ds.length=ps.length) Al._auto_1):fV V (k+1) x ps sp:=by
 obtain⟨z⟩:=F;exact⟨⟨LU z.F S len hr fun _ _ _ _ _ _ r=>hb r S.nd,Y.mg z.a,z.F.kp,z.F.binds bn⟩⟩
abbrev ou(K:Frag)(x:Str):Prop:=nsIn K bR x=some none
section
variable {X:Cx} {a b c:Expr} {ta tb tc:gK}
theorem jz(h:gH X a ta)(h1:autoParam (bI [a] X.env=(false,eval a X.env) :: bI [] X.env) Ar._auto_1):Cw X [a] (aw ta aQ):=dO h fP h1
theorem mZ(h:gH X a ta)(k:gH X b tb)(h1:autoParam (bI [a,b] X.env=(false,eval a X.env) :: bI [b] X.env) Ar._auto_1)(k1:autoParam (bI [b] X.env=(false,eval b X.env) :: bI [] X.env) Ar._auto_1):Cw X [a,b] (aw ta (aw tb aQ)):=dO h (dO k fP k1) h1
theorem D8(h:gH X a ta)(k:gH X b tb)(l:gH X c tc)(h1:autoParam (bI [a,b,c] X.env=(false,eval a X.env) :: bI [b,c] X.env) Ar._auto_1)(k1:autoParam (bI [b,c] X.env=(false,eval b X.env) :: bI [c] X.env) Ar._auto_1)(l1:autoParam (bI [c] X.env=(false,eval c X.env) :: bI [] X.env) Ar._auto_1):Cw X [a,b,c] (aw ta (aw tb (aw tc aQ))):=dO h (dO k (dO l fP l1) k1) h1
end
section
variable {X:Cx} {e:Expr} {es:List Expr} {t:Fp} {pos p:Pos} {x:Str} {k n:Nat} {ps:List Str} {sp:kC} {b:Heap}
theorem j7 (c:fV ⟨X.prog,X.w,X.K,X.mg,X.base⟩ k x ps sp) (hr:mJ n X.A) (ha:Cw X (e :: es) t) (hk:autoParam (k<=n) Ad._auto_1) (hg:autoParam (Gl X x) Ar._auto_1) (Ep:autoParam ((x == ("__debug__" : Str))=false) Ad._auto_1) (he:autoParam (bI (e :: es) X.env=(false,eval e X.env) :: bI es X.env) Ar._auto_1) (Cc:autoParam ((rE pos (bI es X.env)).any (·.1)=false) Ar._auto_1) :
  gH X (.Call (.Name x p) (e :: es) [] pos) (bC sp t):=by
 obtain⟨c⟩:=c;exact PC c.ok (hr.mono hk) hg c.mg c.kp c.bi ha Ep he Cc
end
end K2
end
section
namespace K2
open PySem PySem.Spec PyProof.Rows L2
theorem Tw{P:bE}{w:World}{K:ar}{mg:Str->Option Value}{base:Heap}{CX:Kz}{k:Nat}{f:Addr}{fd:gy}{ps:List Str}{sp Xn:Sp}(h:∀ vs H Q E,Xn vs H Q E->sp vs H Q E)(F:uw P w K mg base CX k f fd ps sp):uw P w K mg base CX k f fd ps Xn where
 len:=fun vs H Q E q=>F.len vs H Q E (h _ _ _ _ q)
 run:=fun A st s H args us vs Q E a b c d q=>F.run A st s H args us vs Q E a b c d (h _ _ _ _ q)
theorem HD{V:Uc}{k:Nat}{x:Str}{ps:List Str}{sp Xn:kC}(h:∀ ds G Q E,Xn ds G Q E->sp ds G Q E)(c:fV V k x ps sp):fV V k x ps Xn:=by
 obtain⟨c⟩:=c;exact⟨⟨Tw (fun vs H Q E q=>by obtain⟨ds,G,Q2,r,ab,q,k⟩:=q; exact⟨ds,G,Q2,r,ab,h _ _ _ _ q,k⟩) c.ok,c.mg,c.kp,c.bi⟩⟩
end K2
end
section
namespace K2
open PySem (Str)
open Enc (enc)
namespace T
abbrev Tb:=List (List Int)
structure HL(G G':Gp)(p0:Nat)(as:List Nat)(rs:List (List D)):Prop where
 le:fh G G'
 fp:G p0=none
 gp:G' p0=some (.lst (as.map D.ref))
 np:p0∉as
 nd:as.Nodup
 fr:∀ a∈as,G a=none
 len:as.length=rs.length
 at':∀ (i a:Nat) (r:List D),as[i]?=some a->rs[i]?=some r->G' a=some (.lst r)
theorem HL.ext{G G' G'':Gp}{p0:Nat}{as:List Nat}{rs:List (List D)}(h:HL G G' p0 as rs)(l:fh G' G''):HL G G'' p0 as rs :=
 ⟨h.le.trans l,h.fp,l _ _ h.gp,h.np,h.nd,h.fr,h.len,fun i a r h1 h2=>l _ _ (h.at' i a r h1 h2)⟩
theorem HL.row{G G':Gp}{p0:Nat}{as:List Nat}{rs:List (List D)}(h:HL G G' p0 as rs){i:Nat}{r:List D}(hr:rs[i]?=some r):∃ a,as[i]?=some a/\G' a=some (.lst r)/\uf (as.map D.ref) (i:Int)=some (.ref a):=by
 have hi:i < as.length:=by rw [h.len]; exact(List.getElem?_eq_some_iff.mp hr).1
 refine⟨as[i],aC hi,h.at' i _ r (aC hi) hr,?_⟩;rw [ue _ (by lia) (by rw [ao]; lia)];simp
theorem PS{as:List Nat}(hn:as.Nodup){i j a:Nat}(h1:as[i]?=some a)(h2:as[j]?=some a):i=j:=by
 have g1:=List.getElem?_eq_some_iff.mp h1;have g2:=List.getElem?_eq_some_iff.mp h2;have pw:=List.pairwise_iff_getElem.mp hn;rcases Nat.lt_trichotomy i j with lt | eq | gt
 ·exact absurd (g1.2.trans g2.2.symm) (pw i j g1.1 g2.1 lt)
 ·exact eq
 ·exact absurd (g2.2.trans g1.2.symm) (pw j i g2.1 g1.1 gt)
theorem PR{as:List Nat}(h:∀ i k a:Nat,i < k->as[i]?=some a->as[k]?=some a->False):as.Nodup:=by
 refine List.pairwise_iff_getElem.mpr fun i k hi hk hik z=>?_;exact h i k as[i] hik (aC hi) (by rw [aC hk,z])
theorem HL.O8{G G':Gp}{p0:Nat}{as:List Nat}{rs:List (List D)}(h:HL G G' p0 as rs){j a:Nat}{r':List D}(hj:j < as.length)(ga:G' a=some (.lst r'))(na:a∉as)(fa:G a=none)(np:a≠p0):HL G (dH G' p0 (.lst ((as.set j a).map D.ref))) p0 (as.set j a) (rs.set j r'):=by
 have UQ:∀ b,b∈as.set j a->b=a\/b∈as:=fun b hb=>by
  rcases KO hb with z | z
  ·exact .inr z
  ·exact .inl z
 refine⟨h.le.put h.fp,h.fp,ax,fun z=>?_,?_,fun b hb=>?_,by rw [fD,fD]; exact h.len,fun i b r hb hr=>?_⟩
 ·rcases UQ _ z with z | z
  ·exact np z.symm
  ·exact h.np z
 ·refine PR fun i k b hik h1 h2=>?_;by_cases e1:j=i
  ·subst e1;rw [eU hj] at h1;rw [fG (by lia)] at h2;cases h1;exact na (gO h2)
  ·rw [fG e1] at h1;by_cases e2:j=k
   ·subst e2;rw [eU hj] at h2;cases h2;exact na (gO h1)
   ·rw [fG e2] at h2;have:=PS h.nd h1 h2;lia
 ·rcases UQ b hb with z | z
  ·rw [z]; exact fa
  ·exact h.fr b z
 ·have hb0:b≠p0:=by
   rintro rfl;rcases UQ b (gO hb) with z | z
   ·exact np z.symm
   ·exact h.np z
  rw [cw hb0];by_cases e:j=i
  ·subst e;rw [eU hj] at hb;rw [eU (by rw [<-h.len]; exact hj)] at hr;cases hb; cases hr;exact ga
  ·rw [fG e] at hb hr;exact h.at' i b r hb hr
theorem HL.fz{G G':Gp}{p0:Nat}{as:List Nat}{rs:List (List D)}(h:HL G G' p0 as rs){Q:DK}(q:Q (.dN (rs.map D.dN)) G):Oo G' (.ref p0) Q:=by
 refine vb h.le h.fp h.gp (ss:=rs.map D.dN) ?_ q;have:∀ (as:List Nat) (rs:List (List D)),as.length=rs.length->(∀ a∈as,G a=none)->(∀ (i a:Nat) (r:List D),as[i]?=some a->rs[i]?=some r->G' a=some (.lst r))->Fq G' (fun a=>(G a).isNone) (as.map D.ref) (rs.map D.dN):=by
  intro as;induction as with
  | nil=>intro rs hl _ _; cases rs with
   | nil=>exact .nil
   | cons _ _=>cases hl
  | cons a as ih =>
   intro rs hl hf NB;cases rs with
   | nil=>cases hl
   | cons r rs =>
    refine .cons (.ref (NB 0 a r rfl rfl) (by simp [hf a (by simp)]) (Fq.same _)) ?_;exact ih rs (by simpa using hl) (fun b hb=>hf b (aJ _ hb)) fun i b s h1 h2=>NB (i+1) b s h1 h2
 exact this as rs h.len h.fr h.at'
end T
theorem gS{α:Type} [DecidableEq α] [Enc α]{G G1:Gp}{p:Nat}{xs:List α}{Q:DK}(l:fh G G1)(hp:G p=none)(h1:G1 p=some (.lst (xs.map enc)))(q:Q (enc xs) G):Oo G1 (.ref p) Q :=
 vb l hp h1 (Fq.same _) q
theorem cX{α:Type}{f:α->D}{g:BZ}{body:iq}{ok:Gp->Prop}{xs:List α}{E:nA}{K:mK}{τ:jc}{G:Gp}(I:List α->jc->Gp->Prop)
  (h0:I [] τ G) (cu:∀ pre τ G,I pre τ G->ok G)
  (step:∀ (pre:List α) (x:α) (post:List α) τ G (N:jc->Gp->Prop),xs=pre++x :: post->I pre τ G->(∀ xr G2,I (pre++[x]) xr G2->N xr G2) ->
   g E (f x) τ G fun qO G1=>body E { K with nx:=N,ct:=N,bk:=K.nx } qO G1)
  (fin:∀ τ G,I xs τ G->K.nx τ G):rN g body ok (xs.map f) E K τ G:=by
 have main:∀ (post pre:List α) τ G,xs=pre++post->I pre τ G->rN g body ok (post.map f) E K τ G:=by
  intro post;induction post with
  | nil =>
   intro pre τ G e h;rw [cj] at e;subst e;exact⟨cu _ _ _ h,fin _ _ h⟩
  | cons d post ih =>
   intro pre τ G e h;refine⟨cu _ _ _ h,?_⟩;exact step pre d post τ G _ e h fun xr G2 h2=>ih (pre++[d]) xr G2 (by rw [e,bP]; rfl) h2
 exact main xs [] τ G rfl h0
theorem iY{α:Type}{f:α->D}{g:BZ}{c:Option yf}{e:gK}{ok:Gp->Prop}{xs:List α}{E:nA}{τ:jc}{G:Gp}{Q:List D->Gp->Prop}(I:List α->List D->jc->Gp->Prop)
  (h0:I [] [] τ G) (cu:∀ pre acc τ G,I pre acc τ G->ok G)
  (step:∀ (pre:List α) (x:α) (post:List α) (acc:List D) τ G (N:jc->List D->Gp->Prop),xs=pre++x :: post->I pre acc τ G->(∀ xr ye G2,I (pre++[x]) ye xr G2->N xr ye G2) ->
   g E (f x) τ G fun qO G1=>match c with
    | none=>e E qO G1 fun x G2=>N qO (acc++[x]) G2
    | some c=>c E qO G1 fun k G2=>if k=true then e E qO G2 fun x G3=>N qO (acc++[x]) G3 else N qO acc G2)
  (fin:∀ acc τ G,I xs acc τ G->Q acc G):j0 g c e ok (xs.map f) E τ G [] Q:=by
 have main:∀ (post pre:List α) (acc:List D) τ G,xs=pre++post->I pre acc τ G->j0 g c e ok (post.map f) E τ G acc Q:=by
  intro post;induction post with
  | nil =>
   intro pre acc τ G e h;rw [cj] at e;subst e;exact⟨cu _ _ _ _ h,fin _ _ _ h⟩
  | cons d post ih =>
   intro pre acc τ G e' h;refine⟨cu _ _ _ _ h,?_⟩;have:=step pre d post acc τ G (fun xr ye G2=>j0 g c e ok (post.map f) E xr G2 ye Q) e' h fun xr ye G2 h2=>ih (pre++[d]) ye xr G2 (by rw [e',bP]; rfl) h2;cases c with
   | none=>exact this
   | some c=>exact this
 exact main xs [] [] τ G rfl h0
theorem iQ{α:Type} [DecidableEq α] [Enc α]{xs:List α}{G:Gp}{R:List D->(Gp->Prop)->Gp->Prop}(h:R (xs.map enc) (fun _=>True) G):R0 (enc xs) G R:=h
theorem yL{α:Type} [DecidableEq α] [Enc α]{xs:List α}{G:Gp}{R:List D->(Gp->Prop)->Gp->Prop}(h:R (lL 0 (xs.map enc)) (fun _=>True) G):wx (enc xs) G R:=h
theorem Aa{n:Nat}(h:n<=1000):n<=SZ:=by unfold SZ; lia
theorem ME{n:Nat}(h:n<=1000):n < SZ:=by unfold SZ; lia
abbrev Rows:=List (List T3)
def T3.s(p:T3):T2:=⟨p.a,p.b⟩
structure Dr(rows:Rows):Prop where
 nd:(rows.flatten.map T3.s).Nodup
 way:∀ p∈rows.flatten,p.b=0\/p.b=1
 hand:∀ p∈rows.flatten,p.c=1\/p.c=-1
 JG:∀ p∈rows.flatten,(⟨p.a,1 - p.b,p.c⟩:T3)∈rows.flatten
 EA:rows.flatten.length<=24
 str:rows.length<=3
namespace P
def gM:kC:=Sv (fun rows:Rows=>rows.flatten.length<=1000) fun rows=>rows.flatten
def sJ:iq :=
 (bY (bB (gG aQ) (aG 1))
 (bY (dF (ka (au 0)) (aG 2) (jg (r8 DO t6 (au 1) (aw (au 2) aQ))))
 (cE (cJ (au 1)))))
theorem tM(ds:List D)(G:Gp)(Q:DK)(h:gM ds G Q fun _ _=>False):sJ (fun _ _=>False) (ends Q) (bg 3 ds) G:=by
 obtain⟨rows,rfl,hl,q⟩:=h;unfold sJ;simp only [ends,bg,ak,aS,ai,aB,aR,aE,aM,cx,bB,gG,aQ,aG,aq,aj];refine⟨by decide,fun p hp=>?_⟩;refine eG (fun τ G'=>(∃ b,τ=[some (enc rows),some (.ref p),b])/\fh G G'/\G' p=some (.lst (rows.flatten.map enc))) ?_ ?_
 ·intro N hN;simp only [dF,dM,au,aa];refine iQ ?_;refine cX (xs:=rows) (fun pre τ G'=>(∃ b,τ=[some (enc rows),some (.ref p),b])/\fh G G'/\G' p=some (.lst (pre.flatten.map enc))) ⟨⟨_,rfl⟩,.new hp,ax⟩ (fun _ _ _ _=>trivial) ?_ ?_
  ·rintro pre r post τ G' N2 e ⟨⟨b,rfl⟩,l,gp⟩ lB;have hlen:pre.flatten.length+r.length<=rows.flatten.length:=by
    rw [e]; simp only [lJ,cO,av]; lia
   simp only [aG,jg,r8,au,aq,aj,ae,aa,k7,gp,aw,aQ,kU,jA (IsL.enc r),true_and];refine⟨Aa (by simp only [ao]; lia),?_⟩;refine lB _ _ ⟨⟨_,rfl⟩,l.put hp,?_⟩;rw [ax]; simp
  ·rintro τ G' ⟨⟨b,rfl⟩,l,gp⟩;exact hN _ _ ⟨⟨_,rfl⟩,l,gp⟩
 ·rintro _ G' ⟨⟨b,rfl⟩,l,gp⟩;simp only [cE,cJ,au,ae,aa];exact gS l hp gp q
theorem xV(p:T3):(enc p:D)=.tup [.int p.a,.int p.b,.int p.c]:=rfl
theorem QW(p:T2):(enc p:D)=.tup [.int p.a,.int p.b]:=rfl
theorem wK(i:Int):(enc i:D)=.int i:=rfl
theorem W9{a:D}{r:List D}:uf (a :: r) 0=some a:=by
 rw [ue _ (by lia) (by simp)]; rfl
theorem Rx{a b:D}{r:List D}:uf (a :: b :: r) 1=some b:=by
 rw [ue _ (by lia) (by simp; lia)]; rfl
theorem at2{a b c:D}{r:List D}:uf (a :: b :: c :: r) 2=some c:=by
 rw [ue _ (by lia) (by simp; lia)]; rfl
def names(rows:Rows):List Int:=K6 ((rows.flatten.filter fun p=>p.b == 0).map (·.a))
def gx:kC:=Sv (fun rows:Rows=>rows.flatten.length < 64) names
def yv:iq :=
 (cE (cJ (oK pC (aw (gf 1 [] (ka (bC gM (aw (au 0) aQ))) (aG 0) (some (jD (br (Fg false) (br mD (au 0) (dC (.int 1))) (dC (.int 0))))) (br mD (au 0) (dC (.int 0)))) aQ))))
theorem yV(ds:List D)(G:Gp)(Q:DK)(h:gx ds G Q fun _ _=>False):yv (fun _ _=>False) (ends Q) (bg 1 ds) G:=by
 obtain⟨rows,rfl,hl,q⟩:=h;unfold yv;simp only [cE,cJ,oK,aw,gf,bg,ak,aS,ai,aB,aE,aM,aQ,ends,dM,bC,au,aa];refine⟨rows,rfl,(show rows.flatten.length<=1000 by lia),iQ ⟨Aa (by rw [ao]; show rows.flatten.length<=1000; lia),?_⟩⟩;refine iY (xs:=rows.flatten) (fun pre acc τ G'=>G=G'/\(∃ a,τ=[a])/\acc=((pre.filter fun p=>p.b == 0).map (·.a)).map enc) ⟨rfl,⟨_,rfl⟩,rfl⟩ (fun _ _ _ _ _=>trivial) ?_ ?_
 ·rintro pre x post acc τ G' N e ⟨rfl,⟨a,rfl⟩,rfl⟩ hN;simp only [aG,xV,aj,br,au,aa,dC,jv,W9,eD,Rx];refine⟨_,_,.int _,.int _,?_⟩;simp only [ay,nk,if_false,b9];split
  ·rename_i h;refine hN _ _ _ ⟨rfl,⟨_,rfl⟩,?_⟩;simp [dU,bD,h,wK]
  ·rename_i h;refine hN _ _ _ ⟨rfl,⟨_,rfl⟩,?_⟩;simp [dU,bD,h]
 ·rintro acc τ G' ⟨rfl,⟨a,rfl⟩,rfl⟩ p hp;refine oN (IsL.ref ax) (by rw [ao]; exact dW (eA _ _) hl) fun p2 qb=>?_;exact gS ((fh.new hp).trans (.new qb)) ((fh.new hp).free qb) ax q
def handOf(rows:Rows)(n:Int):Int:=((rows.flatten.find? fun p=>p.a == n).map (·.c)).getD 0
def ib:kC:=Xm (fun (rows:Rows) (n:Int)=>rows.flatten.length<=1000/\∃ p∈rows.flatten,p.a=n) handOf
def As:iq :=
 (bY (dF (ka (bC gM (aw (au 0) aQ))) (aG 2) (jF (jD (br (Fg false) (br mD (au 2) (dC (.int 0))) (au 1))) (cE (cJ (br mD (au 2) (dC (.int 2))))) fR))
 Q7)
theorem BI(ds:List D)(G:Gp)(Q:DK)(h:ib ds G Q fun _ _=>False):As (fun _ _=>False) (ends Q) (bg 3 ds) G:=by
 obtain⟨rows,n,rfl,⟨hl,hn⟩,q⟩:=h;unfold As;refine eG (fun τ G'=>False) ?_ (fun _ _ h=>h.elim);intro N hN;simp only [dF,bg,ak,aS,ai,aB,aR,aE,aM,ends,dM,bC,aw,au,aa,aQ];refine⟨rows,rfl,hl,iQ ?_⟩;refine cX (xs:=rows.flatten) (fun pre τ G'=>G=G'/\(∃ a,τ=[some (enc rows),some (enc n),a])/\∀ p∈pre,p.a≠n) ⟨rfl,⟨_,rfl⟩,by simp⟩ (fun _ _ _ _=>trivial) ?_ ?_
 ·rintro pre x post τ G' N2 e ⟨rfl,⟨a,rfl⟩,hp⟩ lB;simp only [aG,jF,wK,xV,aq,aj,cE,cJ,br,au,ae,aa,dC,jv,at2,fR,eD,W9];refine⟨_,_,.int _,.int _,?_⟩;simp only [ay,nk,if_false,b9];by_cases hx:x.a=n
  ·simp only [hx,beq_self_eq_true,if_true];refine du ?_;have:handOf rows n=x.c:=by
    unfold handOf;have:rows.flatten.find? (fun p=>p.a == n)=some x:=by
     rw [e,List.find?_append];have:pre.find? (fun p=>p.a == n)=none:=by
      rw [fE]; intro p xP; simpa using hp p xP
     rw [this];simp [hx]
    rw [this]; rfl
   rw [<-this]; exact q
  ·have:(x.a == n)=false:=by simpa using hx
   simp only [this,ay,if_false];refine lB _ _ ⟨rfl,⟨_,rfl⟩,fun p xP=>?_⟩;rcases List.mem_append.mp xP with h | h
   ·exact hp p h
   ·rw [List.mem_singleton.mp h]; exact hx
 ·rintro τ G' ⟨rfl,_,hp⟩;obtain⟨p,hp1,qb⟩:=hn;exact absurd qb (hp p hp1)
def km(row:List T3)(i:Int):List T2:=if row=[] then [⟨i,2⟩] else row.map T3.s
def mz:kC:=Xm (fun (row:List T3) (_:Int)=>row.length<=1000) km
def yr:iq :=
 (bY (jF (uq (jD (au 0))) (cE (cJ (gG (aw (ij (aw (au 1) (aw (dC (.int 2)) aQ))) aQ)))) fR)
 (cE (cJ (gf 1 [] (ka (au 0)) (aG 0) none (zk (au 0) ft (nH (dC (.int 2))))))))
theorem YV(p:T3):cut [D.int p.a,D.int p.b,D.int p.c] none (some 2)=[D.int p.a,D.int p.b]:=rfl
theorem yS(ds:List D)(G:Gp)(Q:DK)(h:mz ds G Q fun _ _=>False):yr (fun _ _=>False) (ends Q) (bg 2 ds) G:=by
 obtain⟨row,i,rfl,hl,q⟩:=h;unfold yr;refine eG (fun τ G'=>G=G'/\τ=[some (enc row),some (enc i)]/\row≠[]) ?_ ?_
 ·intro N hN;simp only [jF,uq,bg,ak,aS,ai,aB,aE,aM,cE,cJ,gG,aw,ij,au,ae,aa,dC,aQ,ends,fR,eD];refine ON (IsL.enc row) ?_;cases row with
  | nil =>
   simp only [aS,List.isEmpty_nil,bF,di,if_true];refine⟨by decide,by decide,fun p hp=>gS (xs:=[(⟨i,2⟩:T2)]) (.new hp) hp ax ?_⟩;exact q
  | cons a r =>
   simp only [ak,List.isEmpty_cons,di,bF,ay,if_false];exact hN _ _ ⟨rfl,rfl,by simp⟩
 rintro _ _ ⟨rfl,rfl,zh⟩;simp only [cE,cJ,gf,ends,dM,au,aa];refine iQ ⟨Aa (by rw [ao]; exact hl),?_⟩;refine iY (xs:=row) (fun pre acc τ G'=>G=G'/\(∃ a,τ=[a])/\acc=(pre.map T3.s).map enc) ⟨rfl,⟨_,rfl⟩,rfl⟩ (fun _ _ _ _ _=>trivial) ?_ ?_
 ·rintro pre x post acc τ G' N e ⟨rfl,⟨a,rfl⟩,rfl⟩ hN;simp only [aG,zk,au,xV,aj,aa,ft,tR,ai,aB,jE,dC,fU];refine⟨by decide,hN _ _ _ ⟨rfl,⟨_,rfl⟩,?_⟩⟩;rw [aL,aL]; rfl
 ·rintro acc τ G' ⟨rfl,⟨a,rfl⟩,rfl⟩ p hp;refine gS (.new hp) hp ax ?_;have:km row i=row.map T3.s:=by unfold km; rw [if_neg zh]
  rw [<-this]; exact q
def hX:Rows->Nat->List T2
 | [],_=>[]
 | r :: rs,k=>km r (k:Int)++hX rs (k+1)
theorem uS:∀ (a b:Rows) (k:Nat),hX (a++b) k=hX a k++hX b (k+a.length)
 | [],b,k=>by simp [hX]
 | r :: a,b,k=>by rw [aE,hX,hX,uS a b (k+1),bP,ai]; congr 3; lia
def iC(rows:Rows):List T2:=K6 (hX rows 0)
def mB:kC:=Sv (fun rows:Rows=>(hX rows 0).length < 64/\∀ r∈rows,r.length<=1000) iC
def yt:iq :=
 (bY (bB (gG aQ) (aG 1))
 (bY (dF (Ha (au 0)) (ig (cL (aG 2) (cL (aG 3) hU))) (jg (r8 DO t6 (au 1) (aw (bC mz (aw (au 3) (aw (au 2) aQ))) aQ))))
 (cE (cJ (oK pC (aw (au 1) aQ))))))
theorem QV(xs:List (List T3)):lL 0 (xs.map enc)=(xs.zipIdx 0).map fun p=>D.tup [.int (p.2:Int),enc p.1]:=by
 have:∀ (xs:List (List T3)) (k:Nat),lL k (xs.map enc)=(xs.zipIdx k).map fun p=>D.tup [.int (p.2:Int),enc p.1]:=by
  intro xs;induction xs with
  | nil=>intro k; rfl
  | cons x xs ih=>intro k; rw [ak,lL,ih,List.zipIdx_cons,ak]
 exact this xs 0
theorem vt{α:Type}{xs:List α}{pre post:List (α×Nat)}{x:α×Nat}(h:xs.zipIdx 0=pre++x :: post):∃ l r,xs=l++x.1 :: r/\x.2=l.length/\pre=l.zipIdx 0:=by
 have e1:xs=(pre.map (·.1))++x.1 :: post.map (·.1):=by
  have:=congrArg (List.map (·.1)) h;rw [qG] at this;rw [this]; simp
 have hl:pre.length < (xs.zipIdx 0).length:=by rw [h]; simp
 have hx:(xs.zipIdx 0)[pre.length]?=some x:=by rw [h]; simp
 refine⟨pre.map (·.1),post.map (·.1),e1,?_,?_⟩
 ·rw [List.getElem?_zipIdx] at hx;rw [ao];cases q:xs[pre.length]? with
  | none=>rw [q] at hx; cases hx
  | some y=>rw [q] at hx; simp at hx; rw [<-hx]
 ·have:(pre.map (·.1)).zipIdx 0=(xs.zipIdx 0).take pre.length:=by
   conv=>rhs; rw [e1,List.zipIdx_append]
   rw [List.take_append_of_le_length (by simp)];rw [OB (by simp)]
  rw [this,h]; simp
theorem yT(ds:List D)(G:Gp)(Q:DK)(h:mB ds G Q fun _ _=>False):yt (fun _ _=>False) (ends Q) (bg 4 ds) G:=by
 obtain⟨rows,rfl,⟨hl,hr⟩,q⟩:=h;unfold yt;simp only [ends,bg,ak,aS,ai,aB,aR,aE,aM,cx,bB,gG,aQ,aG,aq,aj];refine⟨by decide,fun p hp=>?_⟩;refine eG (fun τ G'=>(∃ a b,τ=[some (enc rows),some (.ref p),a,b])/\fh G G'/\G' p=some (.lst ((hX rows 0).map enc))) ?_ ?_
 ·intro N hN;simp only [dF,Ha,au,aa];refine yL ?_;rw [QV];refine cX (xs:=rows.zipIdx 0) (fun pre τ G'=>(∃ a b,τ=[some (enc rows),some (.ref p),a,b])/\fh G G'/\G' p=some (.lst ((hX (pre.map (·.1)) 0).map enc))) ⟨⟨_,_,rfl⟩,.new hp,ax⟩ (fun _ _ _ _=>trivial) ?_ ?_
  ·rintro pre x post τ G' N2 e ⟨⟨a,b,rfl⟩,l,gp⟩ lB;obtain⟨WY,Zl,e1,e2,e3⟩:=vt e;have hx:x.1.length<=1000:=hr x.1 (by rw [e1]; simp);have ep:pre.map (·.1)=WY:=by rw [e3,qG]
   have hlen:(hX WY 0).length+(km x.1 (x.2:Int)).length<=(hX rows 0).length:=by
    rw [e1,uS,hX,av,av,e2]; simp
   rw [ep] at gp;simp only [ig,cL,aG,hU,jg,r8,au,aq,aj,ae,aa,k7,gp,aw,bC,aQ,kU,true_and];refine⟨x.1,(x.2:Int),rfl,hx,?_⟩;simp only [gp,jA (IsL.enc _)];refine⟨Aa (by simp only [ao]; lia),lB _ _ ⟨⟨_,_,rfl⟩,l.put hp,?_⟩⟩;rw [ax,aL,ep,uS,aL];simp [hX,e2]
  ·rintro τ G' ⟨⟨a,b,rfl⟩,l,gp⟩;rw [qG] at gp;exact hN _ _ ⟨⟨_,_,rfl⟩,l,gp⟩
 ·rintro _ G' ⟨⟨a,b,rfl⟩,l,gp⟩;simp only [cE,cJ,oK,aw,au,ae,aa,aQ];refine oN (IsL.ref gp) hl fun p2 qb=>?_;exact gS (l.trans (.new qb)) (l.free qb) ax q
theorem abW{a b c:D}:cut [a,b,c] none (some 2)=[a,b]:=rfl
theorem M8{α:Type} [DecidableEq α] [Enc α](xs:List α)(G:Gp):v8 (enc xs) G=some (xs.map enc,fun _=>True):=rfl
theorem M7{a:Nat}{ds:List D}{G:Gp}(h:G a=some (.lst ds)):v8 (.ref a) G=some (ds,fun G2=>G2 a=some (.lst ds)):=by unfold v8; simp only [h]
theorem zZ{α β:Type} [DecidableEq α] [Enc α] [DecidableEq β] [Enc β]:∀ (xs:List α) (ys:List β),qP (xs.map enc) (ys.map enc)=(xs.zip ys).map fun p=>D.tup [enc p.1,enc p.2]
 | [],ys=>by simp [qP]
 | x :: xs,[]=>by simp [qP]
 | x :: xs,y :: ys=>by simp [qP,zZ xs ys]
theorem fH{κ α:Type} [DecidableEq κ] [Enc κ] [qf κ] [DecidableEq α] [Enc α]{a:Nat}{l:List (κ×α)}{k:κ}{v:α}{G:Gp}{Q:Gp->Prop}(h:G a=some (.eW (aT l)))(hl:l.length<=1000)(q:Q (dH G a (.eW (aT (df l k v))))):Ah (.ref a) (enc k) (enc v) G Q:=by
 unfold Ah;simp only [h];refine⟨iP l k,?_,by rw [Lf]; exact q⟩;unfold aT; rw [ao]; exact ME hl
def jJ(r:List T3):List T3:=r.drop 1++r.take 1
def pairsOf(rows:Rows):List (T3×T3):=rows.flatMap fun r=>r.zip (jJ r)
def je(ps:List (T3×T3)):List (T2×T2):=ps.foldl (fun l p=>df l p.1.s p.2.s) []
theorem xK(ps:List (T3×T3)):(je ps).length<=ps.length:=by
 have:∀ (ps:List (T3×T3)) (l:List (T2×T2)),(ps.foldl (fun l p=>df l p.1.s p.2.s) l).length<=l.length+ps.length:=by
  intro ps;induction ps with
  | nil=>intro l; simp
  | cons p ps ih =>
   intro l;rw [bU,ai];have h1:=ih (df l p.1.s p.2.s);have h2:=oO l p.1.s p.2.s;lia
 simpa [je] using this ps []
theorem Jx(ps:List (T3×T3))(p:T3×T3):je (ps++[p])=df (je ps) p.1.s p.2.s:=by unfold je; rw [fy]; rfl
def kI:kC:=fun ds G Q _=>∃ rows:Rows,ds=[enc rows]/\rows.flatten.length<=500/\Q (.iL (aT (je (pairsOf rows)))) G
theorem pairs_len(rows:Rows):(pairsOf rows).length<=rows.flatten.length:=by
 unfold pairsOf;induction rows with
 | nil=>simp
 | cons r rs ih=>simp only [bO,cO,av,hW]; lia
def An:iq :=
 (bY (bB lD (aG 1))
 (bY (dF (ka (au 0)) (aG 2) (dF (Qx (au 2) (br ic (zk (au 2) (nH (dC (.int 1))) ft) (zk (au 2) ft (nH (dC (.int 1)))))) (ig (cL (aG 3) (cL (aG 4) hU))) (bB (zk (au 4) ft (nH (dC (.int 2)))) (kb (au 1) (zk (au 3) ft (nH (dC (.int 2))))))))
 (cE (cJ (au 1)))))
theorem BF(ds:List D)(G:Gp)(Q:DK)(h:kI ds G Q fun _ _=>False):An (fun _ _=>False) (ends Q) (bg 5 ds) G:=by
 obtain⟨rows,rfl,hl,q⟩:=h;unfold An;simp only [ends,bg,ak,aS,ai,aB,aR,aE,aM,cx,bB,lD,gv,aG,aq,aj];intro d hd;refine eG (fun τ G'=>(∃ a b c,τ=[some (enc rows),some (.ref d),a,b,c])/\fh G G'/\G' d=some (.eW (aT (je (pairsOf rows))))) ?_ ?_
 ·intro N hN;simp only [dF,dM,au,aa];refine iQ ?_;refine cX (xs:=rows) (fun pre τ G'=>(∃ a b c,τ=[some (enc rows),some (.ref d),a,b,c])/\fh G G'/\G' d=some (.eW (aT (je (pairsOf pre))))) ⟨⟨_,_,_,rfl⟩,.new hd,ax⟩ (fun _ _ _ _=>trivial) ?_ ?_
  ·rintro pre r post τ G' N2 e ⟨⟨a,b,c,rfl⟩,l,gd⟩ lB;have hr:pre.flatten.length+r.length<=rows.flatten.length:=by
    rw [e]; simp only [lJ,cO,av]; lia
   simp only [aG,dF,Qx,au,aq,aj,ae,aa,br,zk,ft,jE,dC,fU];refine sQ (IsL.enc r) fun p1 h1=>?_;refine sQ (IsL.enc r) fun p2 h2=>?_;have d1:d≠p1:=by rintro rfl; rw [gd] at h1; cases h1
   have l1:=l.trans (fh.new (o:=.lst (cut (r.map enc) (some 1) none)) h1);have d2:d≠p2:=by rintro rfl; rw [cw d1,gd] at h2; cases h2
   have h12:p1≠p2:=by rintro rfl; rw [ax] at h2; cases h2
   refine zD (IsL.ref (by rw [cw h12,ax])) (IsL.ref ax) ?_ fun p3 h3=>?_
   ·rw [oe,oe,ao,ao];have e1:(cut r (some 1) none).length<=r.length:=by unfold cut; rw [eB,cP]; lia
    have e2:(cut r none (some 1)).length<=r.length:=by unfold cut; rw [eB,cP]; lia
    exact Aa (by lia)
   have d3:d≠p3:=by rintro rfl; rw [cw d2,cw d1,gd] at h3; cases h3
   have et:cut (r.map enc) (some 1) none++cut (r.map enc) none (some 1)=(jJ r).map enc:=by
    rw [oe,oe,<-aL];congr 1;cases r with
    | nil=>rfl
    | cons x r=>rw [show (1:Int)=((1:Nat):Int) from rfl,wQ _ _ (by simp),EM _ _ (by simp)]; rfl
   rw [et];generalize hG3:dH (dH (dH G' p1 (.lst (cut (r.map enc) (some 1) none))) p2 (.lst (cut (r.map enc) none (some 1)))) p3 (.lst ((jJ r).map enc))=G3;have g3:G3 p3=some (.lst ((jJ r).map enc)):=by rw [<-hG3,ax]
   have gd3:G3 d=some (.eW (aT (je (pairsOf pre)))):=by rw [<-hG3,cw d3,cw d2,cw d1]; exact gd
   have l3:fh G G3:=by rw [<-hG3]; exact(l1.trans (.new h2)).trans (.new h3)
   unfold va;rw [M8,M7 g3];dsimp only;rw [zZ];refine cX (xs:=r.zip (jJ r)) (fun pp τ G'=>(∃ a b c,τ=[some (enc rows),some (.ref d),a,b,c])/\fh G G'/\G' d=some (.eW (aT (je (pairsOf pre++pp))))/\G' p3=some (.lst ((jJ r).map enc)))
    ⟨⟨_,_,_,rfl⟩,l3,by rw [cj]; exact gd3,g3⟩ (fun _ _ _ h=>⟨trivial,h.2.2.2⟩) ?_ ?_
   ·rintro pp x post τ G4 N3 e4 ⟨⟨a,b,c,rfl⟩,l4,gd4,Ws⟩ Bc;have hz:(pairsOf pre++pp).length<=1000:=by
     have:=pairs_len pre;have h5:pp.length < (r.zip (jJ r)).length:=by rw [e4]; simp
     rw [hW] at h5;rw [av]; lia
    simp only [ig,cL,aG,hU,bB,zk,au,xV,aq,aj,ae,aa,ft,kb,tR,ai,aB,jE,dC,fU,abW];refine⟨by decide,by decide,?_⟩;refine fH (k:=x.1.s) (v:=x.2.s) gd4 (aU (xK _) hz) ?_;refine Bc _ _ ⟨⟨_,_,_,rfl⟩,l4.put hd,?_,by rw [cw (dG d3)]; exact Ws⟩;rw [ax,<-bP,Jx]
   ·rintro τ G4 ⟨⟨a,b,c,rfl⟩,l4,gd4,Ws⟩;refine lB _ _ ⟨⟨_,_,_,rfl⟩,l4,?_⟩;have:pairsOf (pre++[r])=pairsOf pre++r.zip (jJ r):=by unfold pairsOf; simp
    rw [this]; exact gd4
  ·rintro τ G' ⟨⟨a,b,c,rfl⟩,l,gd⟩;exact hN _ _ ⟨⟨_,_,_,rfl⟩,l,gd⟩
 ·rintro _ G' ⟨⟨a,b,c,rfl⟩,l,gd⟩;simp only [cE,cJ,au,ae,aa];exact gu l hd gd q
def WY(s:T2):T3:=⟨s.a,s.b,0⟩
def Zl(s:T2):T3:=⟨s.a,s.b,1⟩
def Vq(ss:List T2):List T3:=ss.flatMap fun s=>[WY s,Zl s]
def og(l:List (T2×T2)):List (T2×T2):=l.foldl (fun c p=>df c ((bH l p.1).getD p.2) p.1) []
def wR(l ps:List (T2×T2)):List (T2×T2):=ps.foldl (fun c p=>df c ((bH l p.1).getD p.2) p.1) []
theorem tK{κ α:Type} [DecidableEq κ] [Enc κ] [DecidableEq α] [Enc α]{l:List (κ×α)}{p:κ×α}(h:p∈l):∃ v,bH l p.1=some v:=by
 unfold bH;cases q:l.find? (fun x=>decide (x.1=p.1)) with
 | none=>rw [fE] at q; exact absurd (by simp) (q p h)
 | some x=>exact⟨_,rfl⟩
def lj:kC:=fun ds G Q _=>∃ rows:Rows,ds=[enc rows]/\rows.flatten.length<=500/\Q (.iL (aT (og (je (pairsOf rows))))) G
def vR:iq :=
 (bY (bB (bC kI (aw (au 0) aQ)) (aG 1))
 (bY (bB lD (aG 2))
 (bY (dF (uJ (au 1)) (aG 3) (bB (au 3) (kb (au 2) (br mD (au 1) (au 3)))))
 (cE (cJ (au 2))))))
theorem HE(l ps:List (T2×T2)):(wR l ps).length<=ps.length:=by
 have:∀ (ps c:List (T2×T2)),(ps.foldl (fun c p=>df c ((bH l p.1).getD p.2) p.1) c).length<=c.length+ps.length:=by
  intro ps;induction ps with
  | nil=>intro c; simp
  | cons p ps ih =>
   intro c;rw [bU,ai];have h1:=ih (df c ((bH l p.1).getD p.2) p.1);have h2:=oO c ((bH l p.1).getD p.2) p.1;lia
 simpa [wR] using this ps []
theorem w9(ds:List D)(G:Gp)(Q:DK)(h:lj ds G Q fun _ _=>False):vR (fun _ _=>False) (ends Q) (bg 4 ds) G:=by
 obtain⟨rows,rfl,hl,q⟩:=h;unfold vR;simp only [ends,bg,ak,aS,ai,aB,aR,aE,aM,cx,bB,bC,aw,au,aa,aQ,aG,aq,aj,lD];refine⟨rows,rfl,hl,?_⟩;simp only [gv];intro c hc;have hn:(je (pairsOf rows)).length<=500:=aU (xK _) (aU (pairs_len rows) hl);generalize hL:je (pairsOf rows)=L at *;refine eG (fun τ G'=>(∃ b,τ=[some (enc rows),some (.iL (aT L)),some (.ref c),b])/\fh G G'/\G' c=some (.eW (aT (wR L L)))) ?_ ?_
 ·intro N hN;simp only [dF,uJ,au,ae,aa,zJ];have ek:(aT L).map (·.1)=L.map fun p=>enc p.1:=by unfold aT; rw [bh]; rfl
  rw [ek];refine cX (xs:=L) (fun pre τ G'=>(∃ b,τ=[some (enc rows),some (.iL (aT L)),some (.ref c),b])/\fh G G'/\G' c=some (.eW (aT (wR L pre)))) ⟨⟨_,rfl⟩,.new hc,ax⟩ (fun _ _ _ _=>trivial) ?_ ?_
  ·rintro pre x post τ G' N2 e ⟨⟨b,rfl⟩,l,gc⟩ lB;have hx:x∈L:=by rw [e]; simp
   obtain⟨v,hv⟩:=tK hx;have Cb:pre.length<=500:=by have:=congrArg cM e; simp at this; lia
   simp only [aG,bB,au,aq,aj,ae,aa,kb,br,tS,mF,hv,mf];refine⟨iP _ _,?_⟩;refine fH (k:=v) (v:=x.1) gc (aU (HE _ _) (by lia)) ?_;refine lB _ _ ⟨⟨_,rfl⟩,l.put hc,?_⟩;rw [ax];unfold wR;rw [fy,bU,List.foldl_nil,hv];rfl
  ·rintro τ G' ⟨⟨b,rfl⟩,l,gc⟩;exact hN _ _ ⟨⟨_,rfl⟩,l,gc⟩
 ·rintro _ G' ⟨⟨b,rfl⟩,l,gc⟩;simp only [cE,cJ,au,ae,aa];exact gu l hc gc q
end P
class inductive Cn {α:Type} (ps:List (α×α)):α->α->Prop
 | refl (x:α):Cn ps x x
 | pair {x y:α}:(x,y)∈ps->Cn ps x y
 | symm {x y:α}:Cn ps x y->Cn ps y x
 | trans {x y z:α}:Cn ps x y->Cn ps y z->Cn ps x z
section
variable {α:Type} {ps:List (α×α)}
theorem Cn.mono{qs:List (α×α)}(h:∀ p∈ps,p∈qs){x y:α}(c:Cn ps x y):Cn qs x y:=by
 induction c with
 | refl x=>exact .refl x
 | pair q=>exact .pair (h _ q)
 | symm _ ih=>exact .symm ih
 | trans _ _ i1 i2=>exact .trans i1 i2
theorem Cn.more{a b x y:α}:Cn (ps++[(a,b)]) x y↔Cn ps x y\/(Cn ps x a/\Cn ps b y)\/(Cn ps x b/\Cn ps a y):=by
 constructor
 ·intro c;induction c with
  | refl x=>exact .inl (.refl x)
  | pair q =>
   rcases List.mem_append.mp q with q | q
   ·exact .inl (.pair q)
   ·have:=List.mem_singleton.mp q;injection this with e1 e2
    subst e1 e2;exact .inr (.inl ⟨.refl _,.refl _⟩)
  | symm _ ih =>
   rcases ih with h | ⟨h1,h2⟩ | ⟨h1,h2⟩
   ·exact .inl h.symm
   ·exact .inr (.inr ⟨h2.symm,h1.symm⟩)
   ·exact .inr (.inl ⟨h2.symm,h1.symm⟩)
  | trans _ _ i1 i2 =>
   rcases i1 with h | ⟨h1,h2⟩ | ⟨h1,h2⟩
   ·rcases i2 with k | ⟨k1,k2⟩ | ⟨k1,k2⟩
    ·exact .inl (h.trans k)
    ·exact .inr (.inl ⟨h.trans k1,k2⟩)
    ·exact .inr (.inr ⟨h.trans k1,k2⟩)
   ·rcases i2 with k | ⟨k1,k2⟩ | ⟨k1,k2⟩
    ·exact .inr (.inl ⟨h1,h2.trans k⟩)
    ·exact .inr (.inl ⟨h1,k2⟩)
    ·exact .inl (h1.trans k2)
   ·rcases i2 with k | ⟨k1,k2⟩ | ⟨k1,k2⟩
    ·exact .inr (.inr ⟨h1,h2.trans k⟩)
    ·exact .inl (h1.trans k2)
    ·exact .inr (.inr ⟨h1,k2⟩)
 ·have up:∀ {u v:α},Cn ps u v->Cn (ps++[(a,b)]) u v:=fun c=>c.mono fun p hp=>cH _ hp;have ab:Cn (ps++[(a,b)]) a b:=.pair (by simp);rintro(h | ⟨h1,h2⟩ | ⟨h1,h2⟩)
  ·exact up h
  ·exact((up h1).trans ab).trans (up h2)
  ·exact((up h1).trans ab.symm).trans (up h2)
theorem Cn.RZ{ms:List α}(h:∀ p∈ps,p.1∈ms/\p.2∈ms){x y:α}(c:Cn ps x y):x∈ms↔y∈ms:=by
 induction c with
 | refl x=>exact Iff.rfl
 | pair q=>exact⟨fun _=>(h _ q).2,fun _=>(h _ q).1⟩
 | symm _ ih=>exact ih.symm
 | trans _ _ i1 i2=>exact i1.trans i2
end
theorem sS{κ α:Type} [DecidableEq κ] [Enc κ] [qf κ] [DecidableEq α] [Enc α]{a:Nat}{l:List (κ×α)}{k:κ}{v:α}{G:Gp}{Q:DK}(h:G a=some (.eW (aT l)))(hv:bH l k=some v)(q:Q (enc v) G):mD (.ref a) (enc k) G Q:=by
 rw [SG h (iP l k) (by rw [mF,hv]; rfl)]; exact q
theorem SH{α:Type} [DecidableEq α] [Enc α]{neg:Bool}{x:α}{xs:List α}{G:Gp}{Q:DK}(hd:Enc.dep α<=7)(q:Q (.bl (if neg then !decide (x∈xs) else decide (x∈xs))) G):Of neg (enc x) (enc xs) G Q:=by
 refine⟨enc x,xs.map enc,Enc.sn _ _ _ (by unfold SN; lia),Jg G 7 hd xs,?_⟩;rw [Me]; exact q
theorem SI{α:Type} [DecidableEq α] [Enc α]{neg:Bool}{x y:α}{G:Gp}{Q:DK}(hd:Enc.dep α<=8)(q:Q (.bl (if neg then !decide (x=y) else decide (x=y))) G):Fg neg (enc x) (enc y) G Q:=by
 refine⟨enc x,enc y,Enc.sn _ _ _ hd,Enc.sn _ _ _ hd,?_⟩;rw [Enc.eqv]; exact q
class yj (α:Type) [DecidableEq α] [Enc α] [bo α] where
 mn:∀ {x:D} {G:Gp} {xs:List α} {Q:DK},itemsOf x G=some (xs.map enc)->xs≠[]->(∀ m∈xs,(∀ y∈xs,BW m y=true)->Q (enc m) G)->TX [x] G Q
theorem lY{α:Type} [DecidableEq α] [Enc α] [bo α]:∀ (r:List α) (a:α),r.foldl (fun m x=>if bo.lt x m=true then x else m) a∈a :: r/\∀ y∈a :: r,BW (r.foldl (fun m x=>if bo.lt x m=true then x else m) a) y=true
 | [],a=>⟨by simp,fun y hy=>by rw [List.mem_singleton.mp hy]; unfold BW; rw [List.foldl_nil,bo.JS]; rfl⟩
 | b :: r,a=>by
  rw [bU];by_cases c:bo.lt b a=true
  ·rw [if_pos c];obtain⟨h1,h2⟩:=lY r b;refine⟨aJ _ h1,fun y hy=>?_⟩;rcases List.mem_cons.mp hy with rfl | hy
   ·refine CY _ _ _ (h2 b (by simp)) ?_;unfold BW;cases q:bo.lt y b with
    | false=>rfl
    | true=>have:=bo.trans _ _ _ q c; rw [bo.JS] at this; cases this
   ·exact h2 y hy
  ·rw [if_neg c];obtain⟨h1,h2⟩:=lY r a;refine⟨?_,fun y hy=>?_⟩
   ·rcases List.mem_cons.mp h1 with h | h
    ·rw [h]; simp
    ·exact aJ _ (aJ _ h)
   ·rcases List.mem_cons.mp hy with rfl | hy
    ·exact h2 y (by simp)
    ·rcases List.mem_cons.mp hy with rfl | hy
     ·refine CY _ _ _ (h2 a (by simp)) ?_;unfold BW; simpa using c
     ·exact h2 y (aJ _ hy)
instance:yj Int where
 mn:=by
  intro x G xs Q hi zh k;cases xs with
  | nil=>exact absurd rfl zh
  | cons a r =>
   obtain⟨h1,h2⟩:=lY r a;refine .inl ⟨a :: r,_,hi,rfl,?_⟩;have:(fun (m x:Int)=>if x < m then x else m)=fun m x=>if bo.lt x m=true then x else m:=by
    funext m x;show (if x < m then x else m)=if decide (x < m)=true then x else m
    simp
   show Q (enc (r.foldl (fun m x=>if x < m then x else m) a)) G;rw [this];exact k _ h1 h2
theorem u4:∀ (x y:List Int),u5 (fun a b=>decide (a < b)) x y=lexLt x y
 | [],[]=>rfl
 | [],_ :: _=>rfl
 | _ :: _,[]=>rfl
 | a :: x,b :: y=>by simp only [xO,lexLt,u4 x y]
instance:yj T3 where
 mn:=by
  intro x G xs Q hi zh k;cases xs with
  | nil=>exact absurd rfl zh
  | cons a r =>
   obtain⟨h1,h2⟩:=lY r a;have ei:itemsOf x G=some (((a :: r).map T3.l).map tI):=by rw [hi,bh]; rfl
   refine .inr ⟨(a :: r).map T3.l,_,ei,rfl,?_⟩;have:∀ (r:List T3) (a:T3),(r.map T3.l).foldl (fun m x=>if lexLt x m=true then x else m) a.l=(r.foldl (fun m x=>if bo.lt x m=true then x else m) a).l:=by
    intro r;induction r with
    | nil=>intro a; rfl
    | cons b r ih =>
     intro a;rw [ak,bU,bU];have e:(if lexLt b.l a.l=true then b.l else a.l)=(if bo.lt b a=true then b else a).l:=by
      have:bo.lt b a=lexLt b.l a.l:=u4 _ _;rw [this];split <;> rfl
     rw [e]; exact ih _
   rw [this r a];exact k _ h1 h2
namespace P
section
variable {α:Type} [DecidableEq α] [Enc α] [bo α] [qf α] [yj α]
def told(ms:List α)(gr:α->List α):List (List α):=K6 ((ms.filter fun m=>(gr m).all fun y=>BW m y).map fun m=>K6 (gr m))
def Uh(α:Type) [DecidableEq α] [Enc α] [bo α] [qf α] [yj α]:kC:=fun ds G Q _=>∃ (ms:List α) (ps:List (α×α)),ds=[enc ms,enc ps]/\(ms.Nodup/\ms.length < 64/\ps.length<=1000/\∀ p∈ps,p.1∈ms/\p.2∈ms)/\(Enc.dep α<=5/\PL (bo.BV α)=true/\PL (bo.BV (List α))=true) /\
 ∀ gr:α->List α,(∀ m∈ms,(gr m).Nodup/\∀ x,x∈gr m↔Cn ps m x)->Q (enc (told ms gr)) G
def uT:iq :=
 (bY (bB lD (aG 2))
 (bY (dF (ka (au 0)) (aG 3) (bB (cJ (gG (aw (au 3) aQ))) (kb (au 2) (au 3))))
 (bY (dF (ka (au 1)) (ig (cL (aG 4) (cL (aG 5) hU))) (jF (jD (br (Of true) (au 5) (br mD (au 2) (au 4)))) (bY (bB (cJ (br ic (br mD (au 2) (au 4)) (br mD (au 2) (au 5)))) (aG 6))
 (dF (ka (au 6)) (aG 3) (bB (cJ (au 6)) (kb (au 2) (au 3))))) fR))
 (cE (cJ (oK pC (aw (gf 1 [2] (ka (au 0)) (aG 0) (some (jD (br (Fg false) (oK TX (aw (br mD (au 1) (au 0)) aQ)) (au 0)))) (cJ (oK pC (aw (br mD (au 1) (au 0)) aQ)))) aQ)))))))
structure GI(ms:List α)(ps:List (α×α))(l:List (α×List α)):Prop where
 len:l.length<=64
 at':∀ m∈ms,∃ g,bH l m=some g/\g.Nodup/\∀ x,x∈g↔Cn ps m x
theorem E2{κ β:Type} [DecidableEq κ]{l:List (κ×β)}{k:κ}{v:β}(h:∃ p∈l,p.1=k):(df l k v).length=l.length:=by
 unfold df;rw [if_pos (by obtain⟨p,h1,h2⟩:=h; exact List.any_eq_true.mpr ⟨p,h1,by simpa using h2⟩),ao]
theorem Rz{κ β:Type} [DecidableEq κ]{l:List (κ×β)}{k:κ}{v:β}(h:bH l k=some v):∃ p∈l,p.1=k:=by
 unfold bH at h;cases q:l.find? (fun p=>decide (p.1=k)) with
 | none=>rw [q] at h; cases h
 | some p=>exact⟨p,fW q,by simpa using qH q⟩
def putAll(l:List (α×List α))(js:List α)(g:List α):List (α×List α):=js.foldl (fun l m=>df l m g) l
theorem HY(l:List (α×List α))(g:List α):∀ (js:List α) (l:List (α×List α)) (k:α),bH (putAll l js g) k=if k∈js then some g else bH l k:=by
 intro js;induction js with
 | nil=>intro l k; simp [putAll]
 | cons j js ih =>
  intro l k;show bH (putAll (df l j g) js g) k=_;rw [ih,md];by_cases h1:k∈js
  ·simp [h1]
  ·by_cases h2:j=k
   ·simp [h2]
   ·have h3:¬ k=j:=fun z=>h2 z.symm;simp [h1,h2,h3]
theorem GI.join{ms:List α}{ps:List (α×α)}{l:List (α×List α)}(gi:GI ms ps l){a b:α}(ha:a∈ms)(hb:b∈ms)(Yk:∀ p∈ps,p.1∈ms/\p.2∈ms){ga gb:List α}(ea:bH l a=some ga)(eb:bH l b=some gb)(hn:b∉ga)(hlen:(putAll l (ga++gb) (ga++gb)).length<=64) :
  GI ms (ps++[(a,b)]) (putAll l (ga++gb) (ga++gb)):=by
 obtain⟨ga',e1,na,ca⟩:=gi.at' a ha;rw [ea] at e1; cases e1;obtain⟨gb',e2,nb,cb⟩:=gi.at' b hb;rw [eb] at e2; cases e2;have nab:¬ Cn ps a b:=fun h=>hn ((ca b).mpr h);refine⟨hlen,fun m hm=>?_⟩;rw [HY l];by_cases hj:m∈ga++gb
 ·rw [if_pos hj];refine⟨_,rfl,?_,fun x=>?_⟩
  ·rw [cy];refine⟨na,nb,fun x hx y hy e=>?_⟩;subst e;exact nab (((ca x).mp hx).trans ((cb x).mp hy).symm)
  ·rw [Cn.more,Il,ca,cb];rcases List.mem_append.mp hj with h | h
   ·have h:=(ca m).mp h;constructor
    ·rintro(k | k)
     ·exact .inl (h.symm.trans k)
     ·exact .inr (.inl ⟨h.symm,k⟩)
    ·rintro(k | ⟨k1,k2⟩ | ⟨k1,k2⟩)
     ·exact .inl (h.trans k)
     ·exact .inr k2
     ·exact .inl k2
   ·have h:=(cb m).mp h;constructor
    ·rintro(k | k)
     ·exact .inr (.inr ⟨h.symm,k⟩)
     ·exact .inl (h.symm.trans k)
    ·rintro(k | ⟨k1,k2⟩ | ⟨k1,k2⟩)
     ·exact .inr (h.trans k)
     ·exact .inr k2
     ·exact .inl k2
 ·rw [if_neg hj];obtain⟨g,e,n,c⟩:=gi.at' m hm;refine⟨g,e,n,fun x=>?_⟩;rw [Il,ca,cb] at hj;rw [c,Cn.more];constructor
  ·exact .inl
  ·rintro(k | ⟨k1,k2⟩ | ⟨k1,k2⟩)
   ·exact k
   ·exact absurd (.inl k1.symm) hj
   ·exact absurd (.inr k1.symm) hj
theorem GI.same{ms:List α}{ps:List (α×α)}{l:List (α×List α)}(gi:GI ms ps l){a b:α}(ha:a∈ms){ga:List α}(ea:bH l a=some ga)(hn:b∈ga):GI ms (ps++[(a,b)]) l:=by
 obtain⟨ga',e1,na,ca⟩:=gi.at' a ha;rw [ea] at e1; cases e1;have ab:=(ca b).mp hn;refine⟨gi.len,fun m hm=>?_⟩;obtain⟨g,e,n,c⟩:=gi.at' m hm;refine⟨g,e,n,fun x=>?_⟩;rw [c,Cn.more];constructor
 ·exact .inl
 ·rintro(k | ⟨k1,k2⟩ | ⟨k1,k2⟩)
  ·exact k
  ·exact(k1.trans ab).trans k2
  ·exact(k1.trans ab.symm).trans k2
theorem uU{g:List α}:∀ (js:List α) (l:List (α×List α)),(∀ j∈js,∃ v,bH l j=some v)->(putAll l js g).length=l.length
 | [],l,_=>rfl
 | j :: js,l,h=>by
  show (putAll (df l j g) js g).length=l.length;rw [uU js (df l j g) (fun k hk=>by
   rw [md];split
   ·exact⟨_,rfl⟩
   ·exact h k (aJ _ hk))]
  obtain⟨v,hv⟩:=h j (by simp);exact E2 (Rz hv)
def mj(ms:List α):List (α×List α):=ms.foldl (fun l m=>df l m [m]) []
theorem Eb(ms:List α)(m:α):mj (ms++[m])=df (mj ms) m [m]:=by unfold mj; rw [fy]; rfl
theorem Gm(ms:List α)(k:α):bH (mj ms) k=if k∈ms then some [k] else none:=by
 have:∀ (ms:List α) (l:List (α×List α)),bH (ms.foldl (fun l m=>df l m [m]) l) k=if k∈ms then some [k] else bH l k:=by
  intro ms;induction ms with
  | nil=>intro l; simp
  | cons m ms ih =>
   intro l;rw [bU,ih,md];by_cases h1:k∈ms
   ·simp [h1]
   ·by_cases h2:m=k
    ·subst h2; simp
    ·have h3:¬ k=m:=fun z=>h2 z.symm;simp [h1,h2,h3]
 have h:=this ms [];simpa [mj,bH] using h
theorem yD(ms:List α):(mj ms).length<=ms.length:=by
 have:∀ (ms:List α) (l:List (α×List α)),(ms.foldl (fun l m=>df l m [m]) l).length<=l.length+ms.length:=by
  intro ms;induction ms with
  | nil=>intro l; simp
  | cons m ms ih =>
   intro l;rw [bU,ai];have h1:=ih (df l m [m]);have h2:=oO l m [m];lia
 simpa [mj] using this ms []
theorem Hy(p:α×α):(enc p:D)=.tup [enc p.1,enc p.2]:=rfl
theorem Y8(ds:List D)(G:Gp)(Q:DK)(h:Uh α ds G Q fun _ _=>False):uT (fun _ _=>False) (ends Q) (bg 7 ds) G:=by
 obtain⟨ms,ps,rfl,⟨hnd,hlen,Cc,Yk⟩,⟨afk,aa7,Wb⟩,q⟩:=h;unfold uT;simp only [ends,bg,ak,aS,ai,aB,aR,aE,aM,cx,bB,lD,gv,aG,aq,aj];intro d hd;refine eG (fun τ G'=>(∃ a b c e,τ=[some (enc ms),some (enc ps),some (.ref d),a,b,c,e])/\fh G G'/\G' d=some (.eW (aT (mj ms)))) ?_ ?_
 ·intro N hN;simp only [dF,dM,au,aa];refine iQ ?_;refine cX (xs:=ms) (fun pre τ G'=>(∃ a b c e,τ=[some (enc ms),some (enc ps),some (.ref d),a,b,c,e])/\fh G G'/\G' d=some (.eW (aT (mj pre)))) ⟨⟨_,_,_,_,rfl⟩,.new hd,ax⟩ (fun _ _ _ _=>trivial) ?_ ?_
  ·rintro pre m post τ G' N2 e ⟨⟨a1,a2,a3,a4,rfl⟩,l,gd⟩ lB;have Cb:pre.length < 64:=by have:=congrArg cM e; simp at this; lia
   simp only [aG,bB,cJ,gG,aw,au,aq,aj,ae,aa,aQ,ai,aB,kb];refine⟨by decide,fun p hp=>?_⟩;have hdp:d≠p:=by rintro rfl; rw [gd] at hp; cases hp
   refine gS (xs:=[m]) (.new hp) hp ax ?_;refine fH (k:=m) (v:=[m]) gd (aU (yD _) (by lia)) ?_;refine lB _ _ ⟨⟨_,_,_,_,rfl⟩,l.put hd,?_⟩;rw [ax,Eb]
  ·rintro τ G' ⟨⟨a1,a2,a3,a4,rfl⟩,l,gd⟩;exact hN _ _ ⟨⟨_,_,_,_,rfl⟩,l,gd⟩
 rintro _ G0 ⟨⟨a1,a2,a3,a4,rfl⟩,l0,gd0⟩;have gi0:GI ms [] (mj ms):=⟨aU (yD _) (by lia),fun m hm=>⟨[m],by rw [Gm,if_pos hm],by simp,fun x=>⟨fun h=>by rw [List.mem_singleton.mp h]; exact .refl _,fun c=>by
  have:∀ {x y:α},Cn ([]:List (α×α)) x y->y=x:=by
   intro x y c;induction c with
   | refl=>rfl
   | pair h=>cases h
   | symm _ ih=>exact ih.symm
   | trans _ _ i1 i2=>rw [i2,i1]
  rw [this c]; simp⟩⟩⟩
 refine eG (fun τ G'=>(∃ a b c e,τ=[some (enc ms),some (enc ps),some (.ref d),a,b,c,e])/\fh G G'/\∃ l,G' d=some (.eW (aT l))/\GI ms ps l) ?_ ?_
 ·intro N hN;simp only [dF,dM,au,ae,aa];refine iQ ?_;refine cX (xs:=ps) (fun pre τ G'=>(∃ a b c e,τ=[some (enc ms),some (enc ps),some (.ref d),a,b,c,e])/\fh G G'/\∃ l,G' d=some (.eW (aT l))/\GI ms pre l) ⟨⟨_,_,_,_,rfl⟩,l0,_,gd0,gi0⟩ (fun _ _ _ _=>trivial) ?_ ?_
  ·rintro pre x post τ G1 N2 e ⟨⟨a1,a2,a3,a4,rfl⟩,l1,L,Tv,gi⟩ lB;have hx:=Yk x (by rw [e]; simp);have Cb:∀ p∈pre,p.1∈ms/\p.2∈ms:=fun p hp=>Yk p (by rw [e]; exact cH _ hp);obtain⟨ga,ea,na,ca⟩:=gi.at' x.1 hx.1;obtain⟨gb,eb,nb,cb⟩:=gi.at' x.2 hx.2;have sub:∀ (z:α) (gz:List α),z∈ms->(∀ y,y∈gz↔Cn pre z y)->∀ y∈gz,y∈ms:=fun z gz hz cz y hy=>(Cn.RZ Cb ((cz y).mp hy)).mp hz;simp only [ig,Hy,cL,aG,hU,jF,aq,aj,cx,bB,cJ,br,au,ae,aa,fR,eD];refine sS Tv ea ?_;refine SH (by lia) ?_;simp only [if_true,b9];by_cases hb:x.2∈ga
   ·simp only [hb,decide_true,bF,ay,if_false];exact lB _ _ ⟨⟨_,_,_,_,rfl⟩,l1,L,Tv,gi.same hx.1 ea hb⟩
   ·simp only [hb,decide_false,di,if_true];refine sS Tv ea (sS Tv eb ?_);have nab:(ga++gb).Nodup:=by
     rw [cy];refine⟨na,nb,fun y hy z hz e=>?_⟩;subst e;exact hb ((ca x.2).mpr (((ca y).mp hy).trans ((cb y).mp hz).symm))
    have hj:∀ y∈ga++gb,y∈ms:=fun y hy=>by
     rcases List.mem_append.mp hy with h | h
     ·exact sub x.1 ga hx.1 ca y h
     ·exact sub x.2 gb hx.2 cb y h
    have W5:(ga++gb).length<=ms.length:=(mU nab hj);refine zD (IsL.enc ga) (IsL.enc gb) (Aa (by rw [av] at W5; simp only [ao]; lia)) fun p hp=>?_;have hdp:d≠p:=by rintro rfl; rw [Tv] at hp; cases hp
    rw [<-aL];refine gS (.new hp) hp ax ?_;simp only [dF,dM,au,ae,aa];refine iQ ?_;refine cX (xs:=ga++gb) (fun js τ G'=>(∃ a,τ=[some (enc ms),some (enc ps),some (.ref d),a,some (enc x.1),some (enc x.2),some (enc (ga++gb))])/\fh G G'/\G' d=some (.eW (aT (putAll L js (ga++gb)))))
     ⟨⟨_,rfl⟩,l1,Tv⟩ (fun _ _ _ _=>trivial) ?_ ?_
    ·rintro js j Pm τ G' N3 e3 ⟨⟨b1,rfl⟩,l,gd⟩ Bc;have hjs:∀ k∈js,∃ v,bH L k=some v:=fun k hk=>by
      obtain⟨g,eg,_⟩:=gi.at' k (hj k (by rw [e3]; exact cH _ hk));exact⟨g,eg⟩
     simp only [aG,bB,cJ,au,aq,aj,ae,aa,kb];refine du ?_;refine fH (k:=j) (v:=ga++gb) gd (by rw [uU js L hjs]; have:=gi.len; lia) ?_;refine Bc _ _ ⟨⟨_,rfl⟩,l.put hd,?_⟩;rw [ax];unfold putAll;rw [fy]; rfl
    ·rintro τ G' ⟨⟨b1,rfl⟩,l,gd⟩;have hjs:∀ k∈ga++gb,∃ v,bH L k=some v:=fun k hk=>by
      obtain⟨g,eg,_⟩:=gi.at' k (hj k hk);exact⟨g,eg⟩
     exact lB _ _ ⟨⟨_,_,_,_,rfl⟩,l,_,gd,gi.join hx.1 hx.2 Cb ea eb hb (by rw [uU _ L hjs]; exact gi.len)⟩
  ·rintro τ G' ⟨⟨a1,a2,a3,a4,rfl⟩,l,gd⟩;exact hN _ _ ⟨⟨_,_,_,_,rfl⟩,l,gd⟩
 rintro _ G1 ⟨⟨a1,a2,a3,a4,rfl⟩,l1,L,Tv,gi⟩;simp only [cE,cJ,oK,aw,gf,aQ,dM,au,aa];refine iQ ⟨Aa (by rw [ao]; lia),?_⟩
 let gr:α->List α:=fun m=>(bH L m).getD []
 have Yv:∀ m∈ms,bH L m=some (gr m)/\(gr m).Nodup/\∀ x,x∈gr m↔Cn ps m x:=fun m hm=>by
  obtain⟨g,e,n,c⟩:=gi.at' m hm;have:gr m=g:=by show (bH L m).getD []=g; rw [e]; rfl
  rw [this]; exact⟨e,n,c⟩
 have grl:∀ m∈ms,(gr m).length < 64:=fun m hm=>by
  obtain⟨_,n,c⟩:=Yv m hm;have:(gr m).length<=ms.length:=mU n fun y hy=>(Cn.RZ Yk ((c y).mp hy)).mp hm;lia
 refine iY (xs:=ms) (fun pre acc τ G'=>G1=G'/\(∃ a,τ=[a,some (.ref d)])/\acc=((pre.filter fun m=>(gr m).all fun y=>BW m y).map fun m=>K6 (gr m)).map enc) ⟨rfl,⟨_,rfl⟩,rfl⟩ (fun _ _ _ _ _=>trivial) ?_ ?_
 ·rintro pre m post acc τ G' N e ⟨rfl,⟨a,rfl⟩,rfl⟩ hN;have hm:m∈ms:=by rw [e]; simp
  obtain⟨eg,ng,cg⟩:=Yv m hm;simp only [aG,aj,cJ,oK,aw,br,au,ae,aa,aQ,eD];refine sS Tv eg ?_;refine yj.mn (xs:=gr m) rfl (fun z=>by
   have:m∈gr m:=(cg m).mpr (.refl m);rw [z] at this; cases this) fun mm ZG hle=>?_
  refine SI (by lia) ?_;simp only [ay,if_false,b9];have key:decide (mm=m)=(gr m).all fun y=>BW m y:=by
   have Wf:m∈gr m:=(cg m).mpr (.refl m);by_cases h:mm=m
   ·subst h;simp only [decide_true];symm; rw [eY]; exact hle
   ·simp only [h,decide_false];symm;cases q:(gr m).all fun y=>BW m y with
    | false=>rfl
    | true =>
     rw [eY] at q;exact absurd (GN _ _ (hle m Wf) (q mm ZG)) h
  rw [key];cases q:(gr m).all fun y=>BW m y with
  | false =>
   simp only [ay,if_false];refine hN _ _ _ ⟨rfl,⟨_,rfl⟩,?_⟩;simp [dU,bD,q]
  | true =>
   simp only [if_true];refine sS Tv eg ?_;refine oN (IsL.enc (gr m)) (grl m hm) (fun p hp=>?_) aa7;refine gS (.new hp) hp ax ?_;refine hN _ _ _ ⟨rfl,⟨_,rfl⟩,?_⟩;simp [dU,bD,q]
 ·rintro acc τ G' ⟨rfl,⟨a,rfl⟩,rfl⟩ p hp;refine oN (IsL.ref ax) (by rw [ao]; exact dW (eA _ _) hlen) (fun p2 qb=>?_) Wb;have l2:=(l1.trans (fh.new (o:=.lst (((ms.filter fun m=>(gr m).all fun y=>BW m y).map fun m=>K6 (gr m)).map enc)) hp));exact gS (l2.trans (.new qb)) (l2.free qb) ax (q gr fun m hm=>(Yv m hm).2)
end
end P
namespace P
theorem kd{κ β:Type} [DecidableEq κ]{l:List (κ×β)}{k:κ}{v:β}(h:k∉l.map (·.1)):df l k v=l++[(k,v)]:=by
 unfold df;rw [if_neg];intro q;obtain⟨p,h1,h2⟩:=List.any_eq_true.mp q;exact h (List.mem_map.mpr ⟨p,h1,by simpa using h2⟩)
theorem Be{κ β γ:Type} [DecidableEq κ](kf:γ->κ)(vf:γ->β):∀ (ps:List γ) (l:List (κ×β)),(l.map (·.1)++ps.map kf).Nodup->ps.foldl (fun l p=>df l (kf p) (vf p)) l=l++ps.map fun p=>(kf p,vf p)
 | [],l,_=>by simp
 | p :: ps,l,h=>by
  rw [bU,kd (fun z=>by
   rw [ak,cy] at h;exact h.2.2 _ z _ (by simp) rfl),Be kf vf ps _ (by simpa using h)]
  simp
theorem tJ{κ β:Type} [DecidableEq κ]:∀ {l:List (κ×β)} {p:κ×β},(l.map (·.1)).Nodup->p∈l->bH l p.1=some p.2
 | q :: l,p,hn,h=>by
  unfold bH;rw [dD];rcases List.mem_cons.mp h with rfl | h
  ·simp
  ·rw [ak,aY] at hn;have:q.1≠p.1:=fun z=>hn.1 (by rw [z]; exact bA h);simp only [this,decide_false];exact tJ hn.2 h
theorem ym(r:List T3):(jJ r).length=r.length:=by unfold jJ; rw [av,cP,eB]; lia
theorem DQ(r:List T3):(jJ r).Perm r:=by
 unfold jJ;exact List.perm_append_comm.trans (by rw [oR])
theorem tZ(rows:Rows):(pairsOf rows).map (·.1)=rows.flatten:=by
 unfold pairsOf;induction rows with
 | nil=>rfl
 | cons r rs ih =>
  rw [bO,aL,ih,cO];congr 1;rw [List.map_fst_zip]; rw [ym]; exact aH _
theorem tY(rows:Rows):((pairsOf rows).map (·.2)).Perm rows.flatten:=by
 unfold pairsOf;induction rows with
 | nil=>exact .refl _
 | cons r rs ih =>
  rw [bO,aL,cO];refine nM ?_ ih;rw [List.map_snd_zip]
  ·exact DQ r
  ·rw [ym]; exact aH _
variable {rows:Rows}
theorem JY(d:Dr rows):((pairsOf rows).map fun p=>p.1.s).Nodup:=by
 have:((pairsOf rows).map fun p=>p.1.s)=rows.flatten.map T3.s:=by rw [<-tZ,bh]; rfl
 rw [this]; exact d.nd
theorem Je(d:Dr rows):((pairsOf rows).map fun p=>p.2.s).Nodup:=by
 have:((pairsOf rows).map fun p=>p.2.s)=((pairsOf rows).map (·.2)).map T3.s:=by rw [bh]; rfl
 rw [this,((tY rows).map T3.s).nodup_iff]; exact d.nd
theorem Gx(d:Dr rows):je (pairsOf rows)=(pairsOf rows).map fun p=>(p.1.s,p.2.s):=by
 unfold je;rw [Be (fun p:T3×T3=>p.1.s) (fun p=>p.2.s) _ _ (by simpa using JY d)]; rfl
theorem Kl(d:Dr rows):og (je (pairsOf rows))=(pairsOf rows).map fun p=>(p.2.s,p.1.s):=by
 rw [Gx d];generalize hL:((pairsOf rows).map fun p=>(p.1.s,p.2.s))=L;have hk:(L.map (·.1)).Nodup:=by rw [<-hL,bh]; exact JY d
 have hv:(L.map (·.2)).Nodup:=by rw [<-hL,bh]; exact Je d
 have e:og L=L.foldl (fun c p=>df c p.2 p.1) []:=by
  unfold og;have:∀ (ps:List (T2×T2)) (c:List (T2×T2)),(∀ p∈ps,p∈L)->ps.foldl (fun c p=>df c ((bH L p.1).getD p.2) p.1) c=ps.foldl (fun c p=>df c p.2 p.1) c:=by
   intro ps;induction ps with
   | nil=>intro c _; rfl
   | cons p ps ih =>
    intro c h;rw [bU,bU,tJ hk (h p (by simp))];exact ih _ fun q hq=>h q (aJ _ hq)
  exact this L [] fun p h=>h
 rw [e,Be (fun p:T2×T2=>p.2) (fun p=>p.1) _ _ (by simpa using hv),<-hL];simp [bh,zr]
def Zn(rows:Rows)(s:T2):T3:=(rows.flatten.find? fun p=>decide (p.s=s)).getD ⟨0,0,0⟩
def nxt(rows:Rows)(s:T2):T2:=(bH ((pairsOf rows).map fun p=>(p.1.s,p.2.s)) s).getD s
def Ri(rows:Rows)(s:T2):T2:=(bH ((pairsOf rows).map fun p=>(p.2.s,p.1.s)) s).getD s
def mt(p:T3):T2:=⟨p.a,1 - p.b⟩
def fst(p:T3):Bool:=decide (p.b=0) == decide (p.c=1)
theorem Lr(d:Dr rows){p:T3}(h:p∈rows.flatten):Zn rows p.s=p:=by
 unfold Zn;cases q:rows.flatten.find? (fun x=>decide (x.s=p.s)) with
 | none=>rw [fE] at q; exact absurd (by simp) (q p h)
 | some x =>
  have h1:=qH q;have h2:=fW q;have h1:x.s=p.s:=by simpa using h1
  have:∀ (L:List T3),(L.map T3.s).Nodup->x∈L->p∈L->x=p:=by
   intro L;induction L with
   | nil=>intro _ h; cases h
   | cons y L ih =>
    intro hn hx hp;rw [ak,aY] at hn;rcases List.mem_cons.mp hx with e1 | Yb
    ·rcases List.mem_cons.mp hp with e2 | qb
     ·rw [e1,e2]
     ·exact absurd (by rw [<-e1,h1]; exact bA qb) hn.1
    ·rcases List.mem_cons.mp hp with e2 | qb
     ·exact absurd (by rw [<-e2,<-h1]; exact bA Yb) hn.1
     ·exact ih hn.2 Yb qb
  exact this _ d.nd h2 h
theorem EO(d:Dr rows){p q:T3}(h:(p,q)∈pairsOf rows):bH ((pairsOf rows).map fun p=>(p.2.s,p.1.s)) q.s=some p.s/\Ri rows q.s=p.s:=by
 have:=tJ (l:=(pairsOf rows).map fun p=>(p.2.s,p.1.s)) (p:=(q.s,p.s)) (by rw [bh]; exact Je d) (List.mem_map.mpr ⟨_,h,rfl⟩);refine⟨this,?_⟩;unfold Ri; rw [this]; rfl
theorem QF{p:T3}(h:p∈rows.flatten):∃ q,(p,q)∈pairsOf rows/\q∈rows.flatten:=by
 rw [<-tZ] at h;obtain⟨x,hx,rfl⟩:=List.mem_map.mp h;exact⟨x.2,hx,(tY rows).mem_iff.mp (bA hx)⟩
theorem Hh{q:T3}(h:q∈rows.flatten):∃ p,(p,q)∈pairsOf rows/\p∈rows.flatten:=by
 rw [<-(tY rows).mem_iff] at h;obtain⟨x,hx,rfl⟩:=List.mem_map.mp h;exact⟨x.1,hx,by rw [<-tZ]; exact bA hx⟩
def om(p:T3):T3:=⟨p.a,1 - p.b,p.c⟩
theorem PJ(d:Dr rows){p:T3}(h:p∈rows.flatten):om p∈rows.flatten:=d.JG p h
theorem Uw(p:T3):om (om p)=p:=by
 unfold om; cases p; simp only [T3.mk.injEq,true_and,and_true]; lia
def step(rows:Rows)(x:T3):T3 :=
 if x.b=2 then x else
 let al:=decide (x.c=0)
 let p:=if al=true then Zn rows (nxt rows x.s) else Zn rows x.s
 if (fst p == al)=true then WY (mt p) else Zl (Ri rows (mt p))
theorem lV{n:Int}:n∈names rows↔∃ p∈rows.flatten,p.b=0/\p.a=n:=by
 unfold names;rw [Ss,List.mem_map];constructor
 ·rintro⟨p,h,rfl⟩;obtain⟨h1,h2⟩:=List.mem_filter.mp h;exact⟨p,h1,by simpa using h2,rfl⟩
 ·rintro⟨p,h1,h2,rfl⟩;exact⟨p,List.mem_filter.mpr ⟨h1,by simpa using h2⟩,rfl⟩
theorem Es(d:Dr rows){p:T3}(h:p∈rows.flatten):handOf rows p.a=p.c:=by
 unfold handOf;cases q:rows.flatten.find? (fun x=>x.a == p.a) with
 | none=>rw [fE] at q; exact absurd (by simp) (q p h)
 | some x =>
  have h1:x.a=p.a:=by simpa using qH q
  have h2:=fW q;show x.c=p.c;have hw:=d.way p h;have ZD:=d.way x h2;by_cases e:x.b=p.b
  ·have:x.s=p.s:=by unfold T3.s; rw [h1,e]
   have e1:=Lr d h2;rw [this,Lr d h] at e1;rw [e1]
  ·have:(om x).s=p.s:=by unfold T3.s om; rw [h1]; congr 1; dsimp only; lia
   have e1:=Lr d (PJ d h2);rw [this,Lr d h] at e1;rw [e1]; rfl
end P
namespace P
variable {rows:Rows}
theorem Ac(rows:Rows):(hX rows 0).length<=rows.flatten.length+rows.length:=by
 have:∀ (rs:Rows) (k:Nat),(hX rs k).length<=rs.flatten.length+rs.length:=by
  intro rs;induction rs with
  | nil=>intro k; simp [hX]
  | cons r rs ih =>
   intro k;have:=ih (k+1);rw [hX,av,cO,av,ai];have:(km r (k:Int)).length<=r.length+1:=by
    unfold km; split <;> simp
   lia
 exact this rows 0
def Xp(rows:Rows):List T3:=Vq (iC rows)
end P
namespace P
variable {rows:Rows}
def Xk(rows:Rows)(s:T2):Nat:=(((rows.zipIdx 0).find? fun p=>decide (s∈km p.1 (p.2:Int))).map (·.2)).getD 0
end P
end K2
end
section
namespace K2
namespace Y
abbrev Po:=List (Int×Int)
def ND(l:Po):Prop:=(l.map (·.1)).Nodup
def c0(l:Po)(k:Int):Int:=(bH l k).getD 0
def g6(l:Po):Po:=l.filter fun p=>p.2 != 0
def plus(a:Po)(p:Int×Int):Po:=df a p.1 (c0 a p.1+p.2)
def uI(l m:Po):Po:=m.foldl plus l
def vX(l m:Po):Po:=g6 (uI l m)
def qu(m:Po)(a:Po)(p:Int×Int):Po:=m.foldl (fun a q=>plus a (p.1+q.1,p.2 * q.2)) a
def pA(l m:Po):Po:=l.foldl (qu m) []
def jY(l m:Po):Po:=g6 (pA l m)
def jw(l:Po)(by_ f:Int):Po:=g6 (l.map fun p=>(p.1+by_,p.2 * f))
def cN(l:Po):Nat->Po
 | 0=>[(0,1)]
 | n+1=>jY (cN l n) l
theorem kd{κ β:Type} [DecidableEq κ]{l:List (κ×β)}{k:κ}{v:β}(h:k∉l.map (·.1)):df l k v=l++[(k,v)]:=by
 unfold df;rw [if_neg];intro q;obtain⟨p,h1,h2⟩:=List.any_eq_true.mp q;exact h (List.mem_map.mpr ⟨p,h1,by simpa using h2⟩)
theorem tH{κ β:Type} [DecidableEq κ]{l:List (κ×β)}{k:κ}{v:β}(h:k∈l.map (·.1)):df l k v=l.map (fun p=>if p.1=k then (p.1,v) else p):=by
 unfold df;rw [if_pos];obtain⟨p,h1,h2⟩:=List.mem_map.mp h;exact List.any_eq_true.mpr ⟨p,h1,by simpa using h2⟩
theorem NS{κ β:Type} [DecidableEq κ](l:List (κ×β))(k:κ)(v:β):(df l k v).map (·.1)=if k∈l.map (·.1) then l.map (·.1) else l.map (·.1)++[k]:=by
 split
 ·rename_i h;rw [tH h,bh];refine dB fun p _=>?_;show (if p.1=k then (p.1,v) else p).1=p.1;split <;> rfl
 ·rename_i h;rw [kd h,aL]; rfl
theorem ND.put{l:Po}(h:ND l)(k v:Int):ND (df l k v):=by
 unfold ND;rw [NS];split
 ·exact h
 ·rename_i hk;rw [cy];exact⟨h,by simp,fun a ha b hb=>by rw [bS] at hb; subst hb; intro z; exact hk (z ▸ ha)⟩
theorem ND.nil:ND []:=cq
theorem ND.one(k v:Int):ND [(k,v)]:=by unfold ND; simp
theorem ND.tail{p:Int×Int}{l:Po}(h:ND (p :: l)):ND l:=by unfold ND at *; rw [ak,aY] at h; exact h.2
theorem ND.head{p:Int×Int}{l:Po}(h:ND (p :: l)):p.1∉l.map (·.1):=by unfold ND at *; rw [ak,aY] at h; exact h.1
theorem ND.g6{l:Po}(h:ND l):ND (g6 l):=by
 unfold ND Y.g6 at *;exact oW (mT _ lK) h
theorem tV{l:Po}(h:ND l)(p:Int×Int):ND (plus l p):=h.put _ _
theorem wD{α:Type}(f:Po->α->Po)(hf:∀ a x,ND a->ND (f a x)):∀ (xs:List α) (a:Po),ND a->ND (xs.foldl f a)
 | [],_,h=>h
 | x :: xs,a,h=>wD f hf xs _ (hf a x h)
theorem Gj{l m:Po}(h:ND l):ND (uI l m):=wD _ (fun a x h=>tV h x) m l h
theorem D4{m a:Po}(h:ND a)(p:Int×Int):ND (qu m a p):=wD _ (fun a x h=>tV h _) m a h
theorem AB(l m:Po):ND (pA l m):=wD _ (fun a x h=>D4 h x) l [] .nil
theorem Ls{l m:Po}(h:ND l):ND (vX l m):=(Gj h).g6
theorem xC(l m:Po):ND (jY l m):=(AB l m).g6
theorem FO{l:Po}(h:ND l)(b f:Int):ND (l.map fun p=>(p.1+b,p.2 * f)):=by
 unfold ND at *;rw [bh];have:(l.map ((fun x:Int×Int=>x.1)∘fun p=>(p.1+b,p.2 * f)))=(l.map (·.1)).map (· + b):=by rw [bh]; rfl
 rw [this];exact List.Pairwise.map _ (fun a c hac z=>hac (by lia)) h
theorem CO{l:Po}(h:ND l)(b f:Int):ND (jw l b f):=(FO h b f).g6
theorem qv(l:Po):∀ n,ND (cN l n)
 | 0=>.one _ _
 | n+1=>xC _ _
theorem Gf(l:Po)(p:Int×Int):(plus l p).length<=l.length+1:=by unfold plus df; split <;> simp
theorem t9{α:Type}(f:Po->α->Po)(c:Nat)(hf:∀ a x,(f a x).length<=a.length+c):∀ (xs:List α) (a:Po),(xs.foldl f a).length<=a.length+xs.length * c
 | [],a=>by simp
 | x :: xs,a=>by
  have:=t9 f c hf xs (f a x);have:=hf a x;rw [bU,ai,Nat.succ_mul]; lia
theorem xG(l m:Po):(uI l m).length<=l.length+m.length:=by
 have:=t9 plus 1 Gf m l;unfold uI; lia
theorem Ge(m a:Po)(p:Int×Int):(qu m a p).length<=a.length+m.length:=by
 have:=t9 (fun a q=>plus a (p.1+q.1,p.2 * q.2)) 1 (fun a q=>Gf a _) m a;unfold qu; lia
theorem sU(l m:Po):(pA l m).length<=l.length * m.length:=by
 have:=t9 (qu m) m.length (fun a p=>Ge m a p) l [];simpa [pA] using this
theorem oq(l:Po):(g6 l).length<=l.length:=eA _ _
theorem PF(l m:Po):(vX l m).length<=l.length+m.length:=aU (oq _) (xG l m)
theorem AA(l m:Po):(jY l m).length<=l.length * m.length:=aU (oq _) (sU l m)
theorem qT(l:Po):∀ n,(cN l n).length<=l.length ^ n
 | 0=>by simp [cN]
 | n+1=>aU (AA _ _) (by rw [xm]; exact iZ _ (qT l n))
def L(g:Int->Int):Po->Int
 | []=>0
 | p :: l=>p.2 * g p.1+L g l
theorem Ih(g:Int->Int):∀ (l m:Po),L g (l++m)=L g l+L g m
 | [],m=>by simp [L]
 | p :: l,m=>by rw [aE,L,L,Ih g l m]; lia
theorem Dy{l:Po}{k:Int}(h:k∉l.map (·.1)):bH l k=none:=by
 unfold bH;have:l.find? (fun p=>decide (p.1=k))=none:=by
  rw [fE];intro p hp z;exact h (List.mem_map.mpr ⟨p,hp,by simpa using z⟩)
 rw [this]; rfl
theorem EY{p:Int×Int}{l:Po}{k:Int}:c0 (p :: l) k=if p.1=k then p.2 else c0 l k:=by
 unfold c0 bH;rw [dD];by_cases h:p.1=k <;> simp [h]
theorem DD(g:Int->Int)(k v:Int):∀ (l:Po),ND l->k∈l.map (·.1)->L g (l.map fun p=>if p.1=k then (p.1,v) else p)=L g l+(v - c0 l k) * g k
 | [],_,h=>by cases h
 | p :: l,hn,h=>by
  rw [ak,EY];by_cases e:p.1=k
  ·rw [if_pos e,if_pos e,L,L];have:l.map (fun p=>if p.1=k then (p.1,v) else p)=l:=by
    conv=>rhs; rw [<-lI l]
    refine dB fun q hq=>?_;rw [if_neg]; rfl;intro z; exact hn.head (by rw [e,<-z]; exact bA hq)
   rw [this];show v * g p.1+L g l=_;rw [e,Int.sub_mul]; lia
  ·rw [if_neg e,if_neg e,L,L,DD g k v l hn.tail (by
    rw [ak,bb] at h;rcases h with h | h
    ·exact absurd h.symm e
    ·exact h)]
   lia
theorem Zb(g:Int->Int){l:Po}(hn:ND l)(k v:Int):L g (df l k v)=L g l+(v - c0 l k) * g k:=by
 by_cases h:k∈l.map (·.1)
 ·rw [tH h]; exact DD g k v l hn h
 ·rw [kd h,Ih];have:c0 l k=0:=by unfold c0; rw [Dy h]; rfl
  rw [this];simp [L]
theorem RC(g:Int->Int){l:Po}(hn:ND l)(p:Int×Int):L g (plus l p)=L g l+p.2 * g p.1:=by
 unfold plus;rw [Zb g hn];congr 1;rw [show c0 l p.1+p.2 - c0 l p.1=p.2 by lia]
theorem zM(g:Int->Int):∀ (l:Po),L g (g6 l)=L g l
 | []=>rfl
 | p :: l=>by
  have ih:=zM g l;unfold g6 at *;rw [bD];by_cases h:p.2=0
  ·rw [if_neg (by simp [h]),ih,L,h]; simp
  ·rw [if_pos (by simp [h]),L,L,ih]
theorem RE(g:Int->Int):∀ (m l:Po),ND l->L g (m.foldl plus l)=L g l+L g m
 | [],l,_=>by simp [L]
 | p :: m,l,h=>by
  rw [bU,RE g m _ (tV h p),RC g h,L]; lia
theorem RD(g:Int->Int){l:Po}(h:ND l)(m:Po):L g (vX l m)=L g l+L g m:=by
 unfold vX uI; rw [zM,RE g m l h]
theorem RB(g:Int->Int)(p:Int×Int):∀ (m a:Po),ND a->L g (qu m a p)=L g a+p.2 * L (fun j=>g (p.1+j)) m
 | [],a,_=>by simp [qu,L]
 | q :: m,a,h=>by
  have ih:=RB g p m (plus a (p.1+q.1,p.2 * q.2)) (tV h _);unfold qu at *;rw [bU,ih,RC g h,L,IL];show L g a+p.2 * q.2 * g (p.1+q.1)+_=_;rw [Int.mul_assoc]; lia
theorem Ie(g:Int->Int)(l m:Po):L g (jY l m)=L (fun i=>L (fun j=>g (i+j)) m) l:=by
 unfold jY pA;rw [zM];have:∀ (l a:Po),ND a->L g (l.foldl (qu m) a)=L g a+L (fun i=>L (fun j=>g (i+j)) m) l:=by
  intro l;induction l with
  | nil=>intro a _; simp [L]
  | cons p l ih =>
   intro a h;rw [bU,ih _ (D4 h p),RB g p m a h,L]; lia
 rw [this l [] .nil]; simp [L]
theorem yZ(g:Int->Int)(b f:Int):∀ (l:Po),L g (l.map fun p=>(p.1+b,p.2 * f))=f * L (fun i=>g (i+b)) l
 | []=>by simp [L]
 | p :: l=>by
  rw [ak,L,yZ g b f l,L,IL];congr 1;show p.2 * f * g (p.1+b)=f * (p.2 * g (p.1+b));rw [Int.mul_comm p.2 f,Int.mul_assoc]
theorem Ig(g:Int->Int)(b f:Int)(l:Po):L g (jw l b f)=f * L (fun i=>g (i+b)) l:=by
 unfold jw; rw [zM,yZ]
theorem U4(g h:Int->Int):∀ (l:Po),L (fun i=>g i+h i) l=L g l+L h l
 | []=>rfl
 | p :: l=>by rw [L,L,L,U4 g h l,IL]; lia
theorem Rp{l:Po}{k:Int}(h:k∉l.map (·.1)):c0 l k=0:=by unfold c0; rw [Dy h]; rfl
theorem Mh{l:Po}(hn:ND l)(k:Int):L (fun i=>if i=k then 1 else 0) l=c0 l k:=by
 induction l with
 | nil=>rfl
 | cons p l ih =>
  rw [L,ih hn.tail,EY];by_cases h:p.1=k
  ·have:c0 l k=0:=Rp (h ▸ hn.head);simp [h,this]
  ·simp [h]
def NZ(l:Po):Prop:=∀ p∈l,p.2≠0
theorem AK(l:Po):NZ (g6 l):=fun p h=>by
 have:=(List.mem_filter.mp h).2;simpa using this
theorem tK{l:Po}(hn:ND l){p:Int×Int}(h:p∈l):bH l p.1=some p.2:=by
 induction l with
 | nil=>cases h
 | cons q l ih =>
  unfold bH;rw [dD];rcases List.mem_cons.mp h with rfl | h
  ·simp
  ·have:q.1≠p.1:=fun z=>hn.head (by rw [z]; exact bA h);simp only [this,decide_false];exact ih hn.tail h
theorem Rq{l:Po}(hn:ND l){p:Int×Int}(h:p∈l):c0 l p.1=p.2:=by unfold c0; rw [tK hn h]; rfl
theorem PW{l:Po}{k:Int}(h:c0 l k≠0):(k,c0 l k)∈l:=by
 unfold c0 at *;unfold bH at *;cases q:l.find? (fun p=>decide (p.1=k)) with
 | none=>rw [q] at h; exact absurd rfl h
 | some p =>
  have h1:=qH q;have h2:=fW q;simp at h1;simp only [mf,uj];rw [<-h1]; exact h2
theorem i7:∀ (xs ys:List Int),xs.Nodup->(∀ x∈xs,x∈ys)->xs.length<=ys.length
 | [],_,_,_=>cp _
 | x :: xs,ys,hn,h=>by
  rw [aY] at hn;have:=i7 xs (ys.erase x) hn.2 fun y hy=>(pR (show y≠x from fun z=>hn.1 (by rw [<-z]; exact hy))).mpr (h y (aJ _ hy));have hx:=h x (by simp);rw [i4 hx] at this;have:=jQ hx;rw [ai]; lia
theorem sub_len{l m:Po}(hl:ND l)(zl:NZ l)(h:∀ k,c0 l k=c0 m k):l.length<=m.length:=by
 have:=i7 (l.map fun p:Int×Int=>p.1) (m.map fun p:Int×Int=>p.1) hl fun k hk=>by
  obtain⟨p,hp,rfl⟩:=List.mem_map.mp hk;have h1:c0 m p.1≠0:=by rw [<-h,Rq hl hp]; exact zl p hp
  exact bA (f:=(·.1)) (PW h1)
 simpa using this
theorem TB{l m:Po}(hl:ND l)(hm:ND m)(zl:NZ l)(zm:NZ m)(h:∀ k,c0 l k=c0 m k):zj l m=true:=by
 unfold zj;rw [aK];refine⟨?_,List.all_eq_true.mpr fun p hp=>?_⟩
 ·have h1:=sub_len hl zl h;have h2:=sub_len hm zm fun k=>(h k).symm;simpa using Nat.le_antisymm h1 h2
 ·have h1:c0 m p.1=p.2:=by rw [<-h,Rq hl hp]
  have h2:c0 m p.1≠0:=by rw [h1]; exact zl p hp
  have:=tK hm (PW h2);rw [h1] at this;simp only at this;rw [this]; simp
theorem EE{l m:Po}(hl:ND l)(hm:ND m)(zl:NZ l)(zm:NZ m)(h:∀ g,L g l=L g m):zj l m=true :=
 TB hl hm zl zm fun k=>by rw [<-Mh hl,<-Mh hm,h]
def fY:Po->Nat
 | []=>0
 | p :: l=>p.2.natAbs+fY l
theorem AP:∀ (l m:Po),fY (l++m)=fY l+fY m
 | [],m=>by simp [fY]
 | p :: l,m=>by rw [aE,fY,fY,AP l m]; lia
theorem Ec{l:Po}{p:Int×Int}(h:p∈l):p.2.natAbs<=fY l:=by
 induction l with
 | nil=>cases h
 | cons q l ih =>
  rw [fY];rcases List.mem_cons.mp h with rfl | h
  ·lia
  ·have:=ih h; lia
theorem yF(k v:Int):∀ (l:Po),ND l->k∈l.map (·.1)->fY (l.map fun p=>if p.1=k then (p.1,v) else p)+(c0 l k).natAbs=fY l+v.natAbs
 | [],_,h=>by cases h
 | p :: l,hn,h=>by
  rw [ak,EY];by_cases e:p.1=k
  ·rw [if_pos e,if_pos e,fY,fY];have:l.map (fun p=>if p.1=k then (p.1,v) else p)=l:=by
    conv=>rhs; rw [<-lI l]
    refine dB fun q hq=>?_;rw [if_neg]; rfl;intro z; exact hn.head (by rw [e,<-z]; exact bA hq)
   rw [this];show v.natAbs+fY l+_=_;lia
  ·have:=yF k v l hn.tail (by
    rw [ak,bb] at h;rcases h with h | h
    ·exact absurd h.symm e
    ·exact h)
   rw [if_neg e,if_neg e,fY,fY];lia
theorem Gr{l:Po}(hn:ND l)(p:Int×Int):fY (plus l p)<=fY l+p.2.natAbs:=by
 unfold plus;by_cases h:p.1∈l.map (·.1)
 ·rw [tH h];have:=yF p.1 (c0 l p.1+p.2) l hn h;have:=Int.natAbs_add_le (c0 l p.1) p.2;lia
 ·rw [kd h,AP,Rp h];simp [fY]
theorem xI(l:Po):fY (g6 l)<=fY l:=by
 induction l with
 | nil=>exact aH _
 | cons p l ih =>
  unfold g6 at *;rw [bD];split
  ·rw [fY,fY]; lia
  ·rw [fY]; lia
theorem Gq(p:Int×Int):∀ (m a:Po),ND a->fY (qu m a p)<=fY a+p.2.natAbs * fY m
 | [],a,_=>by simp [qu,fY]
 | q :: m,a,h=>by
  have ih:=Gq p m (plus a (p.1+q.1,p.2 * q.2)) (tV h _);have:=Gr h (p.1+q.1,p.2 * q.2);unfold qu at *;rw [bU,fY,Nat.mul_add];have e:(p.2 * q.2).natAbs=p.2.natAbs * q.2.natAbs:=Int.natAbs_mul _ _;simp only at this;lia
theorem uY(l m:Po):fY (jY l m)<=fY l * fY m:=by
 refine aU (xI _) ?_;unfold pA;have:∀ (l a:Po),ND a->fY (l.foldl (qu m) a)<=fY a+fY l * fY m:=by
  intro l;induction l with
  | nil=>intro a _; simp [fY]
  | cons p l ih =>
   intro a h;rw [bU];have h1:=ih _ (D4 (m:=m) h p);have h2:=Gq p m a h;rw [fY,Nat.add_mul]; lia
 have:=this l [] .nil;simpa [fY] using this
theorem oG(l:Po):∀ n,fY (cN l n)<=fY l ^ n
 | 0=>by simp [cN,fY]
 | n+1=>aU (uY _ _) (by rw [xm]; exact iZ _ (oG l n))
theorem Gs:∀ (m l:Po),ND l->fY (m.foldl plus l)<=fY l+fY m
 | [],l,_=>by simp [fY]
 | p :: m,l,h=>by
  have h1:=Gs m _ (tV h p);have h2:=Gr h p;rw [bU,fY]; lia
theorem PM{l:Po}(h:ND l)(m:Po):fY (vX l m)<=fY l+fY m:=aU (xI _) (Gs m l h)
theorem MS(l:Po):∀ n,NZ (cN l n)
 | 0=>fun p h=>by
  simp only [cN,bS] at h;subst h; decide
 | n+1=>AK _
end Y
end K2
end
section
namespace K2
open PySem (Str)
open Enc (enc)
namespace Y
structure Pl(G:Gp)(d:D)(l:Po):Prop where
 is:U6 G d l
 nd:ND l
theorem uc{G G1:Gp}{p:Nat}{o:GO}{Q:DK}(l:fh G G1)(hp:G p=none)(h1:G1 p=some o)(q:gv G o Q):Oo G1 (.ref p) Q:=QI l hp h1 (q p hp)
theorem L0(i j:Int):jj (.int i) (.int j)=decide (i=j):=Enc.eqv i j
theorem vW(l m:Po):g6 (l++m)=g6 l++g6 m:=dU _ _
theorem Jq{l:Po}{k:Int}(h:k∈(g6 l).map (·.1)):k∈l.map (·.1):=(mT _ lK).subset h
theorem UB{l pre post:Po}{p:Int×Int}(h:ND l)(e:l=pre++p :: post):p.1∉pre.map (·.1):=by
 subst e;unfold ND at h;rw [aL,ak,cy] at h;intro z;exact h.2.2 _ z _ (by simp) rfl
theorem Jo{l pre post:Po}{p:Int×Int}(h:ND l)(e:l=pre++p :: post)(hz:p.2≠0):df (g6 pre) p.1 p.2=g6 (pre++[p]):=by
 rw [kd fun z=>UB h e (Jq z),vW];congr 1;simp [g6,hz]
theorem Jp{pre:Po}{p:Int×Int}(hz:p.2=0):g6 (pre++[p])=g6 pre:=by
 rw [vW]; simp [g6,hz]
theorem qD(i:Int):(enc i:D)=.int i:=rfl
def da:kC:=fun ds G Q _=>∃ (d:D) (l:Po),ds=[d]/\Pl G d l/\l.length<=SZ/\gv G (.eW (aT (g6 l))) Q
def oE:iq :=
 (bY (bB lD (aG 1))
 (bY (dF (jb (au 0)) (ig (cL (aG 2) (cL (aG 3) hU))) (jF (jD (br (Fg true) (au 3) (dC (.int 0)))) (bB (au 3) (kb (au 1) (au 2))) fR))
 (cE (cJ (au 1)))))
theorem oP(ds:List D)(G:Gp)(Q:DK)(h:da ds G Q fun _ _=>False):oE (fun _ _=>False) (ends Q) (bg 4 ds) G:=by
 obtain⟨d,l,rfl,hd,hl,q⟩:=h;unfold oE;simp only [ends,bg,ak,aS,ai,aB,aR,aE,aM,cx,bB,lD,aG,aq,aj];intro p hp;refine eG (fun τ G'=>(∃ a b,τ=[some d,some (.ref p),a,b])/\fh G G'/\G' p=some (.eW (aT (g6 l)))) ?_ ?_
 ·intro N hN;simp only [dF,jb,au,aa];refine jB hd.is (.new hp) fun ok cu=>?_;refine cX (xs:=l) (fun pre τ G'=>(∃ a b,τ=[some d,some (.ref p),a,b])/\fh G G'/\G' p=some (.eW (aT (g6 pre)))) ⟨⟨_,_,rfl⟩,.new hp,ax⟩ (fun pre τ G' h=>cu G' h.2.1) ?_ ?_
  ·rintro pre x post τ G' N2 e ⟨⟨a,b,rfl⟩,le,gp⟩ lB;have hlen:(g6 pre).length < SZ:=by
    have:=oq pre;have:=congrArg cM e;rw [av,ai] at this; lia
   simp only [ig,cL,aG,hU,aq,aj];refine⟨_,_,.int _,.int _,?_⟩;simp only [L0,if_true,bB,au,ae,aa,kb,fR];by_cases hz:x.2=0
   ·simp only [hz,decide_true,bF];exact lB _ _ ⟨⟨_,_,rfl⟩,le,by rw [Jp hz]; exact gp⟩
   ·simp only [hz,decide_false,di];refine fH (α:=Int) gp hlen ?_;exact lB _ _ ⟨⟨_,_,rfl⟩,le.put hp,by rw [ax,<-Jo hd.nd e hz]⟩
  ·rintro τ G' ⟨⟨a,b,rfl⟩,le,gp⟩;exact hN _ _ ⟨⟨_,_,rfl⟩,le,gp⟩
 ·rintro _ G' ⟨⟨a,b,rfl⟩,le,gp⟩;simp only [cE,cJ,au,ae,aa];exact uc le hp gp q
theorem UC{G:Gp}{d:D}{l:Po}{i:Int}{Q:DK}(h:vn G d l)(k:Q (.int (c0 l i)) G):M5 d [.int i,.int 0] G Q:=Te (α:=Int) (e:=0) h k
theorem gP{α:Type}{l pre post:List α}{x:α}(e:l=pre++x :: post):pre.length < l.length:=by
 have:=congrArg cM e;rw [av,ai] at this; lia
def ju:kC:=fun ds G Q _=>∃ (d e:D) (l m:Po),ds=[d,e]/\Pl G d l/\Pl G e m/\l.length+m.length<=SZ/\gv G (.eW (aT (vX l m))) Q
def FZ:iq :=
 (bY (bB (oK HQ (aw (au 0) aQ)) (aG 2))
 (bY (dF (jb (au 1)) (ig (cL (aG 3) (cL (aG 4) hU))) (bB (br ic (r8 RS M5 (au 2) (aw (au 3) (aw (dC (.int 0)) aQ))) (au 4)) (kb (au 2) (au 3))))
 (cE (cJ (bC da (aw (cJ (au 2)) aQ))))))
theorem Ib(ds:List D)(G:Gp)(Q:DK)(h:ju ds G Q fun _ _=>False):FZ (fun _ _=>False) (ends Q) (bg 5 ds) G:=by
 obtain⟨d,e,l,m,rfl,hd,he,hl,q⟩:=h;unfold FZ;simp only [ends,bg,ak,aS,ai,aB,aR,aE,aM,cx,bB,oK,aw,au,aa,aQ,aG,aq,aj];refine Ro hd.is.p (by lia) fun p hp=>?_;refine eG (fun τ G'=>(∃ a b,τ=[some d,some e,some (.ref p),a,b])/\fh G G'/\G' p=some (.eW (aT (uI l m)))) ?_ ?_
 ·intro N hN;simp only [dF,jb,au,ae,aa];refine jB he.is (.new hp) fun ok cu=>?_;refine cX (xs:=m) (fun pre τ G'=>(∃ a b,τ=[some d,some e,some (.ref p),a,b])/\fh G G'/\G' p=some (.eW (aT (uI l pre)))) ⟨⟨_,_,rfl⟩,.new hp,ax⟩ (fun pre τ G' h=>cu G' h.2.1) ?_ ?_
  ·rintro pre x post τ G' N2 e2 ⟨⟨a,b,rfl⟩,le,gp⟩ lB;have hlen:(uI l pre).length < SZ:=by
    have:=xG l pre;have:=gP e2; lia
   simp only [ig,cL,aG,hU,bB,br,r8,au,aq,aj,ae,aa,qQ,aw,dC,aQ,kb];refine⟨OK (vn.ref gp),UC (vn.ref gp) ?_⟩;simp only [qD,dq];refine fH (α:=Int) gp hlen ?_;refine lB _ _ ⟨⟨_,_,rfl⟩,le.put hp,?_⟩;rw [ax];unfold uI plus;rw [fy]; rfl
  ·rintro τ G' ⟨⟨a,b,rfl⟩,le,gp⟩;exact hN _ _ ⟨⟨_,_,rfl⟩,le,gp⟩
 ·rintro _ G' ⟨⟨a,b,rfl⟩,le,gp⟩;simp only [cE,cJ,bC,aw,au,ae,aa,aQ];refine gu le hp gp ?_;refine⟨_,uI l m,rfl,⟨rfl,Gj hd.nd⟩,by have:=xG l m; lia,fun p2 qb=>?_⟩;exact uc (.new qb) qb ax q
def fT:kC:=fun ds G Q _=>∃ (d:D) (l:Po) (b f:Int),ds=[d,.int b,.int f]/\Pl G d l/\l.length<=SZ/\(fY l < o3/\f.natAbs < o3)/\gv G (.eW (aT (jw l b f))) Q
def Aj:iq :=
 (bY (bB lD (aG 3))
 (bY (dF (jb (au 0)) (ig (cL (aG 4) (cL (aG 5) hU))) (bB (br Ld (au 5) (au 2)) (kb (au 3) (br ic (au 4) (au 1)))))
 (cE (cJ (bC da (aw (cJ (au 3)) aQ))))))
def O3(b f:Int)(l:Po):Po:=l.map fun p=>(p.1+b,p.2 * f)
theorem Jh{l pre post:Po}{p:Int×Int}(b f:Int)(h:ND l)(e:l=pre++p :: post):df (O3 b f pre) (p.1+b) (p.2 * f)=O3 b f (pre++[p]):=by
 rw [kd,O3,O3,aL]; rfl;intro z;unfold O3 at z;rw [bh] at z;obtain⟨r,hr,er⟩:=List.mem_map.mp z;have:r.1=p.1:=by have:r.1+b=p.1+b:=er; lia
 exact UB h e (this ▸ bA hr)
theorem BD(ds:List D)(G:Gp)(Q:DK)(h:fT ds G Q fun _ _=>False):Aj (fun _ _=>False) (ends Q) (bg 6 ds) G:=by
 obtain⟨d,l,b,f,rfl,hd,hl,⟨hb,hf⟩,q⟩:=h;unfold Aj;simp only [ends,bg,ak,aS,ai,aB,aR,aE,aM,cx,bB,lD,aG,aq,aj];intro p hp;refine eG (fun τ G'=>(∃ u v,τ=[some d,some (.int b),some (.int f),some (.ref p),u,v])/\fh G G'/\G' p=some (.eW (aT (O3 b f l)))) ?_ ?_
 ·intro N hN;simp only [dF,jb,au,aa];refine jB hd.is (.new hp) fun ok cu=>?_;refine cX (xs:=l) (fun pre τ G'=>(∃ u v,τ=[some d,some (.int b),some (.int f),some (.ref p),u,v])/\fh G G'/\G' p=some (.eW (aT (O3 b f pre)))) ⟨⟨_,_,rfl⟩,.new hp,ax⟩ (fun pre τ G' h=>cu G' h.2.1) ?_ ?_
  ·rintro pre x post τ G' N2 e ⟨⟨u,v,rfl⟩,le,gp⟩ lB;have hlen:(O3 b f pre).length < SZ:=by
    have:=gP e;unfold O3; rw [ao]; lia
   have hx:x.2.natAbs < o3:=dW (Ec (by rw [e]; simp)) hb;simp only [ig,cL,aG,hU,bB,br,au,aq,aj,qD,ae,aa,kb,dq,qr];refine⟨⟨hx,hf⟩,?_⟩;refine fH (α:=Int) gp hlen ?_;exact lB _ _ ⟨⟨_,_,rfl⟩,le.put hp,by rw [ax,<-Jh b f hd.nd e]⟩
  ·rintro τ G' ⟨⟨u,v,rfl⟩,le,gp⟩;exact hN _ _ ⟨⟨_,_,rfl⟩,le,gp⟩
 ·rintro _ G' ⟨⟨u,v,rfl⟩,le,gp⟩;simp only [cE,cJ,bC,aw,au,ae,aa,aQ];refine gu le hp gp ?_;refine⟨_,O3 b f l,rfl,⟨rfl,FO hd.nd b f⟩,by unfold O3; rw [ao]; exact hl,fun p2 qb=>?_⟩;exact uc (.new qb) qb ax q
def jo:kC:=fun ds G Q _=>∃ (d e:D) (l m:Po),ds=[d,e]/\Pl G d l/\Pl G e m/\l.length * m.length<=SZ/\(fY l < o3/\fY m < o3)/\gv G (.eW (aT (jY l m))) Q
def FW:iq :=
 (bY (bB lD (aG 2))
 (bY (dF (jb (au 0)) (ig (cL (aG 3) (cL (aG 4) hU))) (dF (jb (au 1)) (ig (cL (aG 5) (cL (aG 6) hU))) (bY (bB (br ic (au 3) (au 5)) (aG 7))
 (bB (br ic (r8 RS M5 (au 2) (aw (au 7) (aw (dC (.int 0)) aQ))) (br Ld (au 4) (au 6))) (kb (au 2) (au 7))))))
 (cE (cJ (bC da (aw (cJ (au 2)) aQ))))))
theorem Tc{l pre post:Po}{x:Int×Int}{m mp mq:Po}{y:Int×Int}(e:l=pre++x :: post)(e2:m=mp++y :: mq)(a:Po)(ha:a.length<=pre.length * m.length):(qu mp a x).length < l.length * m.length:=by
 have h1:=Ge mp a x;have h2:=gP e;have h3:=gP e2;have h4:(pre.length+1) * m.length<=l.length * m.length:=iZ _ h2;rw [Nat.succ_mul] at h4;lia
theorem NG(m:Po):∀ (l:Po),(l.foldl (qu m) []).length<=l.length * m.length:=fun l=>sU l m
theorem HZ(ds:List D)(G:Gp)(Q:DK)(h:jo ds G Q fun _ _=>False):FW (fun _ _=>False) (ends Q) (bg 8 ds) G:=by
 obtain⟨d,e,l,m,rfl,hd,he,hl,⟨hb,hf⟩,q⟩:=h;unfold FW;simp only [ends,bg,ak,aS,ai,aB,aR,aE,aM,cx,bB,lD,aG,aq,aj];intro p hp;refine eG (fun τ G'=>(∃ a1 a2 a3 a4 a5,τ=[some d,some e,some (.ref p),a1,a2,a3,a4,a5])/\fh G G'/\G' p=some (.eW (aT (pA l m)))) ?_ ?_
 ·intro N hN;simp only [dF,jb,au,aa];refine jB hd.is (.new hp) fun ok cu=>?_;refine cX (xs:=l) (fun pre τ G'=>(∃ a1 a2 a3 a4 a5,τ=[some d,some e,some (.ref p),a1,a2,a3,a4,a5])/\fh G G'/\G' p=some (.eW (aT (pre.foldl (qu m) [])))) ⟨⟨_,_,_,_,_,rfl⟩,.new hp,ax⟩ (fun pre τ G' h=>cu G' h.2.1) ?_ ?_
  ·rintro pre x post τ G' N2 e1 ⟨⟨a1,a2,a3,a4,a5,rfl⟩,le,gp⟩ lB;have hx:x.2.natAbs < o3:=dW (Ec (by rw [e1]; simp)) hb;simp only [ig,cL,aG,hU,dF,jb,au,aq,aj,qD,ae,aa];refine jB he.is le fun XH Wb=>?_;refine cX (xs:=m) (fun mp τ G'=>(∃ a3 a4 a5,τ=[some d,some e,some (.ref p),some (.int x.1),some (.int x.2),a3,a4,a5])/\fh G G'/\G' p=some (.eW (aT (qu mp (pre.foldl (qu m) []) x)))) ⟨⟨_,_,_,rfl⟩,le,gp⟩ (fun pre τ G' h=>Wb G' h.2.1) ?_ ?_
   ·rintro mp y mq τ G2 N3 e2 ⟨⟨b3,b4,b5,rfl⟩,GP,Hi⟩ Bc;have hlen:=bK (Tc e1 e2 (pre.foldl (qu m) []) (NG m pre)) hl;have hy:y.2.natAbs < o3:=dW (Ec (by rw [e2]; simp)) hf;simp only [ig,cL,aG,hU,aq,aj,qD,cx,bB,br,au,ae,aa,r8,qQ,aw,dC,aQ,kb,qr,dq];refine⟨OK (vn.ref Hi),UC (vn.ref Hi) ?_⟩;simp only [dq];refine⟨⟨hx,hy⟩,?_⟩;refine fH (α:=Int) Hi hlen ?_;refine Bc _ _ ⟨⟨_,_,_,rfl⟩,GP.put hp,?_⟩;rw [ax]
    conv=>rhs; rw [qu,fy]
    rfl
   ·rintro τ G2 ⟨⟨b3,b4,b5,rfl⟩,GP,Hi⟩;refine lB _ _ ⟨⟨_,_,_,_,_,rfl⟩,GP,?_⟩;rw [Hi,fy]; rfl
  ·rintro τ G' ⟨⟨a1,a2,a3,a4,a5,rfl⟩,le,gp⟩;exact hN _ _ ⟨⟨_,_,_,_,_,rfl⟩,le,gp⟩
 ·rintro _ G' ⟨⟨a1,a2,a3,a4,a5,rfl⟩,le,gp⟩;simp only [cE,cJ,bC,aw,au,ae,aa,aQ];refine gu le hp gp ?_;refine⟨_,pA l m,rfl,⟨rfl,AB l m⟩,aU (sU l m) hl,fun p2 qb=>?_⟩;exact uc (.new qb) qb ax q
def gB:kC:=fun ds G Q _=>∃ (d:D) (l:Po) (n:Nat),ds=[d,.int n]/\Pl G d l/\(n<=1000/\∀ k,k < n->l.length ^ k * l.length<=SZ/\fY l ^ k < o3)/\fY l < o3/\gv G (.eW (aT (cN l n))) Q
def CK:iq :=
 (bY (bB (Dp (dC (.int 0)) (dC (.int 1))) (aG 2))
 (bY (dF (A7 (au 1)) (aG 3) (bB (bC jo (aw (cJ (au 2)) (aw (cJ (au 0)) aQ))) (aG 2)))
 (cE (cJ (au 2)))))
theorem DA(ds:List D)(G:Gp)(Q:DK)(h:gB ds G Q fun _ _=>False):CK (fun _ _=>False) (ends Q) (bg 4 ds) G:=by
 obtain⟨d,l,n,rfl,hd,⟨hn,hk⟩,hb,q⟩:=h;unfold CK;simp only [ends,bg,ak,aS,ai,aB,aR,aE,aM,cx,bB,Dp,dC,aG,aq,aj];refine⟨rfl,fun p0 Oh=>?_⟩;refine eG (fun τ G'=>(∃ a p,τ=[some d,some (.int n),some (.ref p),a]/\G p=none/\G' p=some (.eW (aT (cN l n))))/\fh G G') ?_ ?_
 ·intro N hN;simp only [dF,qA,au,ae,aa,oj];refine⟨by lia,by lia,?_⟩;rw [eF];refine QJ (fun pre τ G'=>(∃ a p,τ=[some d,some (.int n),some (.ref p),a]/\G p=none/\G' p=some (.eW (aT (cN l pre.length))))/\fh G G') ⟨⟨_,p0,rfl,Oh,ax⟩,.new Oh⟩ (fun _ _ _ _=>trivial) ?_ ?_
  ·rintro pre x post τ G' N2 e1 ⟨⟨a,p,rfl,hp,gp⟩,le⟩ lB;obtain⟨rfl,A9⟩:=Jk e1;obtain⟨h1,h2⟩:=hk pre.length A9;simp only [aG,bB,bC,aw,cJ,au,aq,aj,ae,aa,aQ];refine gu le hp gp (du ?_);refine⟨_,d,cN l pre.length,l,rfl,⟨rfl,qv _ _⟩,hd,aU (iZ _ (qT l _)) h1,⟨dW (oG l _) h2,hb⟩,fun p2 qb=>?_⟩;refine lB _ _ ⟨⟨_,p2,rfl,qb,?_⟩,.new qb⟩;rw [ax,av]; rfl
  ·rintro τ G' ⟨⟨a,p,rfl,hp,gp⟩,le⟩;rw [show (ja 0 n).length=n by simp [ja]] at gp;exact hN _ _ ⟨⟨_,p,rfl,hp,gp⟩,le⟩
 ·rintro _ G' ⟨⟨a,p,rfl,hp,gp⟩,le⟩;simp only [cE,cJ,au,ae,aa];exact uc le hp gp q
end Y
namespace Y
def sN:iq :=
 (bY (jF (jD (br Zm (au 1) (oK sd (aw (au 0) aQ)))) (cE (cJ (br mD (au 0) (au 1)))) fR)
 (cE (cJ (dC (.int 0)))))
def kX(ns:List Int)(k:Int):Int:=ns.getD k.toNat 0
def b8:kC:=fun ds G Q _=>∃ (ns:List Int) (k:Int),ds=[.dN (ns.map D.int),.int k]/\0<=k/\Q (.int (kX ns k)) G
theorem tO(ds:List D)(G:Gp)(Q:DK)(h:b8 ds G Q fun _ _=>False):sN (fun _ _=>False) (ends Q) (bg 2 ds) G:=by
 obtain⟨ns,k,rfl,h0,q⟩:=h;unfold sN;simp only [bY,jF,bg,ak,aS,ai,aB,aE,aM,cE,cJ,br,au,aa,ae,ends,mC,fR,dC,eD,oK,aw,aQ,tG,zB,b9];split
 ·rename_i h;have h1:k < (ns.map D.int).length:=by simpa using h
  rw [ue _ h0 h1];simp only [o9];rw [ao] at h1;have e:kX ns k=ns[k.toNat]:=by unfold kX; rw [cT,aC (by lia)]; rfl
  rw [<-e]; exact du q
 ·rename_i h;have h1:¬ k < (ns.map D.int).length:=by simpa using h
  rw [ao] at h1;have e:kX ns k=0:=by unfold kX; rw [cT,oT (by lia)]; rfl
  rw [<-e]; exact du q
def vO:iq :=
 (cE (cJ (HB (Q9 "int" (au 0)) (Q6 (Q9 "bool" (au 0))))))
def eM:kC:=fun ds G Q _=>∃ i:Int,ds=[.int i]/\Q (.bl true) G
theorem w7(ds:List D)(G:Gp)(Q:DK)(h:eM ds G Q fun _ _=>False):vO (fun _ _=>False) (ends Q) (bg 1 ds) G:=by
 obtain⟨i,rfl,q⟩:=h;unfold vO;simp only [cE,cJ,bg,ak,aS,ai,aB,aE,aM,ends,tE,wN,wO,au,aa,wm,b9];simpa using du q
def yy:iq :=
 (cE (cJ (br sR (br sR (br DW (au 0) (dC (.int 48271))) (au 1)) (au 2))))
def pick(c p m:Int):Int:=c * 48271 % p % m
def cW:kC:=fun ds G Q _=>∃ c p m:Int,ds=[.int c,.int p,.int m]/\(0 < p/\0 < m)/\Q (.int (pick c p m)) G
theorem yX(ds:List D)(G:Gp)(Q:DK)(h:cW ds G Q fun _ _=>False):yy (fun _ _=>False) (ends Q) (bg 3 ds) G:=by
 obtain⟨c,p,m,rfl,⟨hp,hm⟩,q⟩:=h;unfold yy;simp only [cE,cJ,br,au,bg,ak,aS,ai,aB,aE,aM,aa,dC,ae,ends,qp,iU];exact⟨.inr ⟨by decide,by decide⟩,hp,hm,du q⟩
theorem ko(c p:Int){m:Int}(h:0 < m):0<=pick c p m:=kE _ (by lia)
theorem kr(c p:Int){m:Int}(h:0 < m):pick c p m < m:=iH _ h
def yx:iq :=
 (bY (jF (uq (jD (Q9 "dict" (au 0)))) (cE (cJ (dC (.bl false)))) fR)
 (bY (dF (uJ (au 0)) (aG 1) (jF (Oi (uq (jD (bC eM (aw (au 1) aQ)))) (Oi (uq (jD (bC eM (aw (br mD (au 0) (au 1)) aQ)))) (jD (br (Fg false) (br mD (au 0) (au 1)) (dC (.int 0)))))) (cE (cJ (dC (.bl false)))) fR))
 (cE (cJ (dC (.bl true))))))
def iK:kC:=fun ds G Q _=>∃ (d:D) (l:Po),ds=[d]/\Pl G d l/\NZ l/\Q (.bl true) G
theorem yW(ds:List D)(G:Gp)(Q:DK)(h:iK ds G Q fun _ _=>False):yx (fun _ _=>False) (ends Q) (bg 2 ds) G:=by
 obtain⟨d,l,rfl,hd,hz,q⟩:=h;unfold yx;refine eG (fun τ G'=>τ=[some d,none]/\G=G') ?_ ?_
 ·intro N hN;simp only [jF,uq,bg,ak,aS,ai,aB,aR,aE,aM,cE,cJ,dC,ends,fR,eD,wO,au,aa];refine Qs (G:=G) hd.is.p ?_;simp only [beq_self_eq_true,b9,bF,ay,if_false];exact hN _ _ ⟨rfl,rfl⟩
 rintro _ _ ⟨rfl,rfl⟩;refine eG (fun τ G'=>(∃ a,τ=[some d,a])/\G=G') ?_ ?_
 ·intro N hN;simp only [dF,uJ,au,aa,ends];refine JU hd.is (.refl _) fun ok cu=>?_;refine cX (xs:=l) (fun pre τ G'=>(∃ a,τ=[some d,a])/\G=G') ⟨⟨_,rfl⟩,rfl⟩ (fun pre τ G' h=>cu G' (by rw [<-h.2]; exact .refl _)) ?_ ?_
  ·rintro pre x post τ G' N2 e ⟨⟨a,rfl⟩,rfl⟩ lB;have hm:x∈l:=by rw [e]; simp
   have hx:=tK hd.nd hm;simp only [aG,jF,Oi,uq,aq,aj,cE,cJ,dC,fR,if_true,eD,br,au,aa,ae,bC,aw,aQ];refine⟨_,rfl,?_⟩;simp only [b9,bF,ay,if_false];refine Uq hd.is.p hx ⟨x.2,rfl,?_⟩;simp only [b9,bF,ay,if_false];refine Uq hd.is.p hx ⟨_,_,.int _,.int _,?_⟩;simp only [ay,L0,hz x hm,decide_false,di,if_false,b9];exact lB _ _ ⟨⟨_,rfl⟩,rfl⟩
  ·rintro τ G' ⟨⟨a,rfl⟩,rfl⟩;exact hN _ _ ⟨⟨_,rfl⟩,rfl⟩
 ·rintro _ _ ⟨⟨a,rfl⟩,rfl⟩;simp only [cE,cJ,dC,ends];exact du q
end Y
namespace Ii
open K2.T
open K2.P (names handOf Xk km gx ib)
open K2.Y (kX pick ko kr b8 eM cW i7 gP)
theorem iW{α:Type} [DecidableEq α] [Enc α](rs:List (List α)):(enc rs:D)=.dN ((rs.map fun r=>r.map enc).map D.dN):=by
 show D.dN _=_;rw [bh]; rfl
def pj:iq :=
 (cE (cJ (gf 1 [] (ka (au 0)) (aG 0) none (oK wW (aw (au 0) aQ)))))
def fA:kC:=fun ds G Q _=>∃ rs:List (List D),ds=[.dN (rs.map D.dN)]/\rs.length<=1000/\∀ G' p0 as,HL G G' p0 as rs->Q (.ref p0) G'
theorem pH(ds:List D)(G:Gp)(Q:DK)(h:fA ds G Q fun _ _=>False):pj (fun _ _=>False) (ends Q) (bg 1 ds) G:=by
 obtain⟨rs,rfl,hl,q⟩:=h;unfold pj;simp only [cE,cJ,gf,bg,ak,aS,ai,aB,aE,aM,ends,dM,au,aa,nT];refine⟨Aa (by rw [ao]; exact hl),?_⟩;refine iY (xs:=rs) (fun pre acc τ G'=>(∃ a,τ=[a])/\∃ as:List Nat,acc=as.map D.ref/\fh G G'/\as.Nodup/\(∀ a∈as,G a=none)/\as.length=pre.length/\(∀ (i a:Nat) (r:List D),as[i]?=some a->pre[i]?=some r->G' a=some (.lst r))) ?_ (fun _ _ _ _ _=>trivial) ?_ ?_
 ·exact⟨⟨_,rfl⟩,[],rfl,.refl G,cq,fun _ h=>by(cases h),rfl,fun i a r h=>by simp at h⟩
 ·rintro pre r post acc τ G' N e ⟨⟨a,rfl⟩,as,rfl,le,nd,fr,ln,NB⟩ hN;simp only [aG,oK,aw,au,aj,aa,aQ];refine HN (IsL.dN) fun p hp=>?_;have hna:p∉as:=fun z=>by
   obtain⟨i,hi⟩:=pT z;have h1:i < pre.length:=by rw [<-ln]; exact(List.getElem?_eq_some_iff.mp hi).1
   have:=NB i p pre[i] hi (aC h1);rw [hp] at this; cases this
  refine hN _ _ _ ⟨⟨_,rfl⟩,as++[p],by simp,le.trans (.new hp),?_,fun b hb=>?_,by rw [av,av,ln]; rfl,fun i b r2 h1 h2=>?_⟩
  ·rw [cy];exact⟨nd,by simp,fun x hx y hy=>by rw [bS] at hy; subst hy; intro z; exact hna (z ▸ hx)⟩
  ·rcases List.mem_append.mp hb with z | z
   ·exact fr b z
   ·rw [bS] at z; rw [z]; exact le.free hp
  ·by_cases hi:i < as.length
   ·rw [cY hi] at h1;rw [cY (by rw [<-ln]; exact hi)] at h2;have:=NB i b r2 h1 h2;exact(fh.new hp) _ _ this
   ·rw [cD (by lia)] at h1;rw [cD (by lia)] at h2;have:i - as.length=0:=by
     have:=(List.getElem?_eq_some_iff.mp h1).1;simp at this; lia
    rw [this] at h1;rw [show i - pre.length=0 by lia] at h2;simp at h1 h2;subst h1 h2;exact ax
 ·rintro acc τ G' ⟨⟨a,rfl⟩,as,rfl,le,nd,fr,ln,NB⟩ p hp;have hna:p∉as:=fun z=>by
   obtain⟨i,hi⟩:=pT z;have h1:i < rs.length:=by rw [<-ln]; exact(List.getElem?_eq_some_iff.mp hi).1
   have:=NB i p rs[i] hi (aC h1);rw [hp] at this; cases this
  refine du (q _ p as ⟨le.trans (.new hp),le.free hp,ax,hna,nd,fr,ln,fun i b r h1 h2=>?_⟩);exact(fh.new hp) _ _ (NB i b r h1 h2)
def ph:iq :=
 (bY (Ki (jD (br (Of false) (au 1) (au 0))) (bB (br ic (br sR (au 1) (dC (.int 999))) (dC (.int 1))) (aG 1)))
 (cE (cJ (au 1))))
def ZL(n:Int):Int:=n % 999+1
def fit(n:Int):Nat->Int
 | 0=>n
 | k+1=>ZL (fit n k)
theorem Bl{n:Int}(h1:1<=n)(h2:n<=999):∀ k:Nat,fit n k=(n - 1+k) % 999+1
 | 0=>by show n=_; lia
 | k+1=>by
  show ZL (fit n k)=_;rw [Bl h1 h2 k];unfold ZL;lia
theorem QQ{n:Int}{ns:List Int}(h1:1<=n)(h2:n<=999)(hl:ns.length<=500):∃ k,k<=ns.length/\fit n k∉ns:=by
 apply ip;intro We;have xS:∀ k,k<=ns.length->fit n k∈ns:=fun k hk=>ip fun z=>We ⟨k,hk,z⟩;have nd:((i0 (ns.length+1)).map fun k=>fit n k).Nodup:=by
  refine List.pairwise_iff_getElem.mpr fun i j hi hj Nx=>?_;simp only [ao,CC] at hi hj;rw [o9,o9,rX,rX,Bl h1 h2,Bl h1 h2];lia
 have:=i7 _ ns nd fun x hx=>by
  obtain⟨k,hk,rfl⟩:=List.mem_map.mp hx;exact xS k (by have:=List.mem_range.mp hk; lia)
 simp at this;lia
def gX:kC:=fun ds G Q _=>∃ (d:D) (ns:List Int) (n:Int),ds=[d,.int n]/\IsL G d (ns.map D.int)/\(ns.length<=500/\1<=n/\n<=999)/\∀ m:Int,m∉ns->1<=m->m<=999->Q (.int m) G
theorem Ga{G:Gp}{d:D}{ns:List Int}{i:Int}{Q:DK}(h:IsL G d (ns.map D.int))(k:Q (.bl (decide (i∈ns))) G):Of false (.int i) d G Q:=by
 have e:(ns.map D.int).any (fun x=>jj x (.int i))=decide (i∈ns):=Me ns i;rcases h with rfl | ⟨a,rfl,g⟩
 ·refine⟨.int i,ns.map D.int,.int _,Sn.rI ns,?_⟩;simp only [ay,if_false];rw [e]; exact k
 ·unfold Of;simp only [g];refine⟨.int i,ns.map D.int,.int _,Sn.rI ns,?_⟩;simp only [ay,if_false];rw [e]; exact k
theorem pG(ds:List D)(G:Gp)(Q:DK)(h:gX ds G Q fun _ _=>False):ph (fun _ _=>False) (ends Q) (bg 2 ds) G:=by
 obtain⟨d,ns,n,rfl,hd,⟨hl,h1,h2⟩,q⟩:=h;unfold ph;refine eG (fun τ G'=>G=G'/\∃ m:Int,(m∉ns/\1<=m/\m<=999)/\τ=[some d,some (.int m)]) ?_ ?_
 ·intro N hN;obtain⟨k,hk,rL⟩:=QQ h1 h2 hl;have main:∀ (j:Nat),j<=k->FG (jD (br (Of false) (au 1) (au 0))) (bB (br ic (br sR (au 1) (dC (.int 999))) (dC (.int 1))) (aG 1)) (j+1) (fun _ _=>False) { ends Q with nx:=N } [some d,some (.int (fit n (k - j)))] G:=by
   intro j;induction j with
   | zero =>
    intro _;show FG _ _ (0+1) _ _ _ _;rw [FG];simp only [bB,br,au,ae,aa,dC,aG,ends,aq,aj,iU,dq,eD];refine Ga hd ?_;simp only [Nat.sub_zero,rL,decide_false,b9,ay,if_false];have:=Bl h1 h2 k;exact hN _ _ ⟨rfl,_,⟨rL,by lia,by lia⟩,rfl⟩
   | succ j ih =>
    intro hj;rw [FG];simp only [bB,br,au,ae,aa,dC,aG,ends,aq,aj,iU,dq,eD];refine Ga hd ?_;have hb:=Bl h1 h2 (k - (j+1));by_cases hm:fit n (k - (j+1))∈ns
    ·simp only [hm,decide_true,b9,if_true];refine⟨by decide,?_⟩;have e:fit n (k - (j+1)) % 999+1=fit n (k - j):=by
      rw [show k - j=(k - (j+1))+1 by lia]; rfl
     rw [e];exact ih (by lia)
    ·simp only [hm,decide_false,b9,ay,if_false];exact hN _ _ ⟨rfl,_,⟨hm,by lia,by lia⟩,rfl⟩
  have:=main k (aH _);rw [Nat.sub_self] at this;exact⟨k+1,this⟩
 ·rintro _ _ ⟨rfl,m,⟨m1,m2,m3⟩,rfl⟩;simp only [cE,cJ,au,ae,aa,ends];exact du (q m m1 m2 m3)
abbrev dT(t:Tb):List (List D):=t.map fun r=>r.map D.int
end Ii
namespace Ii
open K2.T
open K2.P (names handOf Xk km gx ib)
open K2.Y (kX pick ko kr b8 eM cW i7 gP)
structure AL(G G':Gp)(as:List Nat)(rs:List (List D)):Prop where
 le:fh G G'
 nd:as.Nodup
 fr:∀ a∈as,G a=none
 len:as.length=rs.length
 at':∀ (i a:Nat) (r:List D),as[i]?=some a->rs[i]?=some r->G' a=some (.lst r)
theorem AL.nil(G:Gp):AL G G [] []:=⟨.refl G,cq,fun _ h=>by(cases h),rfl,fun i a r h=>by simp at h⟩
theorem AL.new{G G':Gp}{as:List Nat}{rs:List (List D)}(h:AL G G' as rs){p:Nat}(hp:G' p=none):p∉as:=fun z=>by
 obtain⟨i,hi⟩:=pT z;have h1:i < rs.length:=by rw [<-h.len]; exact(List.getElem?_eq_some_iff.mp hi).1
 have:=h.at' i p rs[i] hi (aC h1);rw [hp] at this; cases this
theorem AL.push{G G':Gp}{as:List Nat}{rs:List (List D)}(h:AL G G' as rs){p:Nat}(hp:G' p=none)(r:List D):AL G (dH G' p (.lst r)) (as++[p]) (rs++[r]):=by
 refine⟨h.le.trans (.new hp),?_,fun b hb=>?_,by rw [av,av,h.len]; rfl,fun i b r2 h1 h2=>?_⟩
 ·rw [cy];exact⟨h.nd,by simp,fun x hx y hy=>by rw [bS] at hy; subst hy; intro z; exact h.new hp (z ▸ hx)⟩
 ·rcases List.mem_append.mp hb with z | z
  ·exact h.fr b z
  ·rw [bS] at z; rw [z]; exact h.le.free hp
 ·by_cases hi:i < as.length
  ·rw [cY hi] at h1;rw [cY (by rw [<-h.len]; exact hi)] at h2;exact(fh.new hp) _ _ (h.at' i b r2 h1 h2)
  ·have ln:=h.len;rw [cD (by lia)] at h1;rw [cD (by lia)] at h2;have:i - as.length=0:=by
    have:=(List.getElem?_eq_some_iff.mp h1).1;simp at this; lia
   rw [this] at h1;rw [show i - rs.length=0 by lia] at h2;simp at h1 h2;subst h1 h2;exact ax
theorem AL.top{G G':Gp}{as:List Nat}{rs:List (List D)}(h:AL G G' as rs){p:Nat}(hp:G' p=none):HL G (dH G' p (.lst (as.map D.ref))) p as rs :=
 ⟨h.le.trans (.new hp),h.le.free hp,ax,h.new hp,h.nd,h.fr,h.len,fun i b r h1 h2=>(fh.new hp) _ _ (h.at' i b r h1 h2)⟩
theorem nZ{i:Nat}{t:iq}{E:nA}{K:mK}{τ:jc}{G:Gp}:EK i t E K τ G=t E { K with nx:=fun qO G1=>match qO[i]? with
 | some (some d)=>Oo G1 d fun t G2=>K.nx (qO.set i (some t)) G2
 | _=>False } τ G:=rfl
end Ii
namespace Mj
open K2.P
section
variable {α β:Type} [DecidableEq α] [DecidableEq β]
structure Tr(V:List α)(R:α->α->Prop)(A:List α):Prop where
 pw:A.Pairwise fun a b=>¬ R a b
 WB:∀ v∈V,∃ a∈A,R v a
 RZ:∀ a∈A,a∈V
def Nc(V:List α)(R:α->α->Prop)(k:Nat):Prop:=∃ A,Tr V R A/\A.length=k
structure Eqv(R:α->α->Prop):Prop where
 rf:∀ x,R x x
 sy:∀ {x y},R x y->R y x
 tr:∀ {x y z},R x y->R y z->R x z
theorem Oj(ps:List (α×α)):Eqv (Cn ps):=⟨fun x=>.refl x,fun h=>h.symm,fun h k=>h.trans k⟩
variable {V:List α} {R:α->α->Prop}
theorem Ur{A:List α}(e:Eqv R)(h:A.Pairwise fun a b=>¬ R a b){a b:α}(ha:a∈A)(hb:b∈A)(r:R a b):a=b:=by
 induction A with
 | nil=>cases ha
 | cons x A ih =>
  rw [List.pairwise_cons] at h;rcases List.mem_cons.mp ha with rfl | ha2
  ·rcases List.mem_cons.mp hb with rfl | hb
   ·rfl
   ·exact absurd r (h.1 b hb)
  ·rcases List.mem_cons.mp hb with rfl | hb
   ·exact absurd (e.sy r) (h.1 a ha2)
   ·exact ih h.2 ha2 hb
theorem Pe(e:Eqv R):∀ (A B:List α),A.Pairwise (fun a b=>¬ R a b)->(∀ a∈A,∃ b∈B,R a b)->A.length<=B.length
 | [],_,_,_=>cp _
 | a :: A,B,h,hb=>by
  rw [List.pairwise_cons] at h;obtain⟨b,hbm,Wl⟩:=hb a (by simp);have:=Pe e A (B.erase b) h.2 fun a' ha'=>by
   obtain⟨b',Hg,r⟩:=hb a' (aJ _ ha');refine⟨b',(pR fun z=>?_).mpr Hg,r⟩;subst z;exact h.1 a' ha' (e.tr Wl (e.sy r))
  rw [i4 hbm] at this;have:=jQ hbm;rw [ai]; lia
theorem Nc.uniq(e:Eqv R){k l:Nat}(h1:Nc V R k)(h2:Nc V R l):k=l:=by
 obtain⟨A,a,rfl⟩:=h1;obtain⟨B,b,rfl⟩:=h2;exact Nat.le_antisymm (Pe e A B a.pw fun x hx=>b.WB x (a.RZ x hx)) (Pe e B A b.pw fun x hx=>a.WB x (b.RZ x hx))
open Classical in
theorem Nc.ex(e:Eqv R):∀ V:List α,∃ k,Nc V R k
 | []=>⟨0,[],⟨.nil,by simp,by simp⟩,rfl⟩
 | v :: V=>by
  obtain⟨k,A,a,ea⟩:=Nc.ex e V;by_cases h:∃ b∈A,R v b
  ·refine⟨k,A,⟨a.pw,fun x hx=>?_,fun x hx=>aJ _ (a.RZ x hx)⟩,ea⟩;rcases List.mem_cons.mp hx with rfl | hx
   ·exact h
   ·exact a.WB x hx
  ·refine⟨k+1,v :: A,⟨List.pairwise_cons.mpr ⟨fun b hb r=>h ⟨b,hb,r⟩,a.pw⟩,fun x hx=>?_,fun x hx=>?_⟩,by rw [ai,ea]⟩
   ·rcases List.mem_cons.mp hx with rfl | hx
    ·exact⟨_,by simp,e.rf _⟩
    ·obtain⟨b,hb,r⟩:=a.WB x hx;exact⟨b,aJ _ hb,r⟩
   ·rcases List.mem_cons.mp hx with rfl | hx
    ·simp
    ·exact aJ _ (a.RZ x hx)
theorem Nc.congr{R':α->α->Prop}(h:∀ x y,R x y↔R' x y){k:Nat}(n:Nc V R k):Nc V R' k:=by
 have:R=R':=by funext x y; exact propext (h x y)
 rw [<-this]; exact n
theorem Nc.join{ps:List (α×α)}{x y:α}(hx:x∈V)(hy:y∈V){k l:Nat}(h1:Nc V (Cn ps) k)(h2:Nc V (Cn (ps++[(x,y)])) l):(Cn ps x y->l=k)/\(¬ Cn ps x y->k=l+1):=by
 constructor
 ·intro c;refine Nc.uniq (Oj (ps++[(x,y)])) h2 (h1.congr fun a b=>⟨fun q=>q.mono fun p hp=>cH _ hp,fun q=>?_⟩);rcases Cn.more.mp q with q | ⟨q1,q2⟩ | ⟨q1,q2⟩
  ·exact q
  ·exact(q1.trans c).trans q2
  ·exact(q1.trans c.symm).trans q2
 ·intro nc;obtain⟨A,a,rfl⟩:=h1;obtain⟨b,hb,rb⟩:=a.WB y hy;have e:=Oj ps;have nd:A.Nodup:=a.pw.imp fun {u v} q (z:u=v)=>q (z ▸ Cn.refl _);have:Nc V (Cn (ps++[(x,y)])) (A.erase b).length:=by
   refine⟨A.erase b,⟨?_,fun v hv=>?_,fun w hw=>a.RZ w (List.mem_of_mem_erase hw)⟩,rfl⟩
   ·refine(a.pw.sublist List.erase_sublist).imp_of_mem fun {u v} hu hv q r=>?_;have Fi:=(nd.mem_erase_iff.mp hu);have Yc:=(nd.mem_erase_iff.mp hv);rcases Cn.more.mp r with r | ⟨r1,r2⟩ | ⟨r1,r2⟩
    ·exact q r
    ·exact Yc.1 (Ur e a.pw Yc.2 hb (r2.symm.trans rb))
    ·exact Fi.1 (Ur e a.pw Fi.2 hb (r1.trans rb))
   ·obtain⟨u,hu,ru⟩:=a.WB v hv;by_cases z:u=b
    ·subst z;obtain⟨w,hw,rH⟩:=a.WB x hx;refine⟨w,nd.mem_erase_iff.mpr ⟨fun z=>?_,hw⟩,Cn.more.mpr (.inr (.inr ⟨ru.trans rb.symm,rH⟩))⟩;subst z;exact nc (rH.trans rb.symm)
    ·exact⟨u,nd.mem_erase_iff.mpr ⟨z,hu⟩,Cn.more.mpr (.inl ru)⟩
  have:=Nc.uniq (Oj _) h2 this;rw [i4 hb] at this;have:=jQ hb;lia
def it(f:α->α):Nat->α->α
 | 0,a=>a
 | n+1,a=>f (it f n a)
variable {f:α->α}
theorem PU:∀ (xs ys:List α),xs.Nodup->(∀ x∈xs,x∈ys)->xs.length<=ys.length
 | [],_,_,_=>cp _
 | x :: xs,ys,hn,h=>by
  rw [aY] at hn;have:=PU xs (ys.erase x) hn.2 fun y hy=>(pR (show y≠x from fun z=>hn.1 (by rw [<-z]; exact hy))).mpr (h y (aJ _ hy));have hx:=h x (by simp);rw [i4 hx] at this;have:=jQ hx;rw [ai]; lia
def gr(V:List α)(f:α->α):List (α×α):=V.map fun a=>(a,f a)
end
end Mj
namespace Mj
open K2.P
variable {rows:Rows}
def flp(z:T3):T3:=⟨z.a,z.b,1 - z.c⟩
def swp(off:List T2)(z:T3):T3:=if z.s∈off then flp z else z
def phi(rows:Rows)(off:List T2)(a:T3):T3:=swp off (step rows a)
def abZ(rows:Rows):List T2:=rows.flatten.map T3.s
def abS(rows:Rows):List T2:=(iC rows).filter fun s=>decide (s.b=2)
def pr(s:T2):T3×T3:=(WY s,Zl s)
def base(rows:Rows):List (T3×T3):=gr (Xp rows) (phi rows (abZ rows))++(abS rows).map pr
end Mj
namespace Om
open K2.P
theorem GL{r:List T3}:∀ {rs:Rows},r∈rs->r.length<=rs.flatten.length
 | a :: rs,h=>by
  rw [cO,av];rcases List.mem_cons.mp h with rfl | h
  ·lia
  ·have:=GL h; lia
end Om
namespace K13
open K2.P K2.Om
variable {rows:Rows}
theorem JT{c:yf}{a b:iq}{E:nA}{K:mK}{τ:jc}{G:Gp}:jF c a b E K τ G=c E τ G fun k G1=>if k=true then a E K τ G1 else b E K τ G1:=rfl
end K13
namespace K13
open K2.P K2.Om
variable {rows:Rows}
end K13
namespace Mj
open K2.P
variable {rows:Rows}
theorem So{α:Type} [DecidableEq α] [Enc α] [bo α]{ms:List α}{ps:List (α×α)}{gr:α->List α}(hn:ms.Nodup)(h:∀ m∈ms,∀ x,x∈gr m↔Cn ps m x)(UQ:∀ p∈ps,p.1∈ms/\p.2∈ms):Nc ms (Cn ps) (told ms gr).length:=by
 refine⟨ms.filter fun m=>(gr m).all fun y=>BW m y,⟨?_,fun v hv=>?_,fun a ha=>(List.mem_filter.mp ha).1⟩,by unfold told; rw [vD,ao]⟩
 ·refine(hn.filter _).imp_of_mem fun {x y} hx hy q r=>q ?_;obtain⟨hx1,Yb⟩:=List.mem_filter.mp hx;obtain⟨hy1,hy2⟩:=List.mem_filter.mp hy;rw [eY] at Yb hy2;exact GN _ _ (Yb y ((h x hx1 y).mpr r)) (hy2 x ((h y hy1 x).mpr r.symm))
 ·have hv2:=(h v hv v).mpr (.refl v);cases q:gr v with
  | nil=>rw [q] at hv2; cases hv2
  | cons a r =>
   obtain⟨h1,h2⟩:=lY r a;generalize r.foldl (fun m x=>if bo.lt x m=true then x else m) a=m at h1 h2;rw [<-q] at h1 h2;have hm:=(h v hv m).mp h1;have ZG:=(Cn.RZ UQ hm).mp hv;refine⟨m,List.mem_filter.mpr ⟨ZG,List.all_eq_true.mpr fun y hy=>h2 y ((h v hv y).mpr (hm.trans ((h m ZG y).mp hy)))⟩,hm⟩
theorem twice(d:Dr rows):rows.flatten.length=2 * (names rows).length:=by
 have e0:(names rows).length=(rows.flatten.filter fun p=>p.b == 0).length:=by unfold names; rw [vD,ao]
 have nd:rows.flatten.Nodup:=by
  have:=d.nd;unfold List.Nodup at this;rw [kQ] at this;exact this.imp fun {u v} q z=>q (by rw [z])
 have h1:rows.flatten.length=(rows.flatten.filter fun p=>p.b == 0).length+(rows.flatten.filter fun p=>!(p.b == 0)).length:=by
  rw [<-Fx,<-Fx];rw [List.length_eq_countP_add_countP (fun p:T3=>p.b == 0) (l:=rows.flatten)];congr 1;refine List.countP_congr fun x _=>?_;simp
 have Ux:∀ {L:List T3},L.Nodup->(L.map om).Nodup:=by
  intro L h;unfold List.Nodup;rw [kQ];exact h.imp fun {u v} q z=>q (by rw [<-Uw u,z,Uw])
 have a1:=PU ((rows.flatten.filter fun p=>p.b == 0).map om) (rows.flatten.filter fun p=>!(p.b == 0)) (Ux (nd.filter _)) fun x hx=>by
  obtain⟨p,hp,rfl⟩:=List.mem_map.mp hx;obtain⟨h1,h2⟩:=List.mem_filter.mp hp;have h2:p.b=0:=by simpa using h2
  refine List.mem_filter.mpr ⟨PJ d h1,?_⟩;show (!(1 - p.b == 0))=true;rw [h2]; rfl
 have a2:=PU ((rows.flatten.filter fun p=>!(p.b == 0)).map om) (rows.flatten.filter fun p=>p.b == 0) (Ux (nd.filter _)) fun x hx=>by
  obtain⟨p,hp,rfl⟩:=List.mem_map.mp hx;obtain⟨h1,h2⟩:=List.mem_filter.mp hp;have h2:p.b≠0:=by simpa using h2
  have h3:=(d.way p h1).resolve_left h2;refine List.mem_filter.mpr ⟨PJ d h1,?_⟩;show (1 - p.b == 0)=true;rw [h3]; rfl
 rw [ao] at a1 a2;lia
end Mj
namespace xi
open K2.P K2.Mj
section
variable {α:Type} [DecidableEq α]
def dd(l:List α):List α:=l.foldl (fun acc x=>if x∈acc then acc else acc++[x]) []
end
def wX:Rows->Nat->List T2
 | [],_=>[]
 | r :: rs,k=>(if r=[] then [⟨(k:Int),2⟩] else [])++wX rs (k+1)
theorem gV:∀ (rs:Rows) (k:Nat),(hX rs k).Perm (rs.flatten.map T3.s++wX rs k)
 | [],_=>.refl _
 | r :: rs,k=>by
  show (km r (k:Int)++hX rs (k+1)).Perm _;rw [cO,aL];unfold km wX;by_cases c:r=[]
  ·rw [if_pos c,if_pos c,c,aS,aM];refine((gV rs (k+1)).append_left _).trans ?_;rw [<-bP,<-bP];exact List.perm_append_comm.append_right _
  ·rw [if_neg c,if_neg c,aM,bP];exact(gV rs (k+1)).append_left _
theorem BA:∀ (rs:Rows) (k:Nat),∀ s∈wX rs k,s.b=2/\(k:Int)<=s.a
 | [],_,_,h=>by cases h
 | r :: rs,k,s,h=>by
  rcases List.mem_append.mp h with z | z
  ·by_cases c:r=[]
   ·rw [if_pos c,bS] at z; subst z; exact⟨rfl,Int.le_refl _⟩
   ·rw [if_neg c] at z; cases z
  ·have:=BA rs (k+1) s z;exact⟨this.1,by have:=this.2; lia⟩
theorem HR:∀ (rs:Rows) (k:Nat),(wX rs k).Nodup
 | [],_=>cq
 | r :: rs,k=>by
  unfold wX;rw [cy];refine⟨by split <;> simp,HR rs (k+1),fun x hx y hy e=>?_⟩;by_cases c:r=[]
  ·rw [if_pos c,bS] at hx;have:=(BA rs (k+1) y hy).2;subst hx; subst e;simp at this; lia
  ·rw [if_neg c] at hx; cases hx
def HS(rs:Rows):Nat:=(rs.filter fun r=>decide (r=[])).length
theorem Dx:∀ (rs:Rows) (k:Nat),(wX rs k).length=HS rs
 | [],_=>rfl
 | r :: rs,k=>by
  unfold wX HS;rw [av,Dx rs (k+1),bD];by_cases c:r=[]
  ·rw [if_pos c,if_pos (decide_eq_true c),ai]; unfold HS; simp; lia
  ·rw [if_neg c,if_neg (by simpa using c)]; unfold HS; simp
variable {rows:Rows}
theorem T1(d:Dr rows):∀ s∈wX rows 0,s∉rows.flatten.map T3.s:=fun s hs z=>by
 obtain⟨p,hp,rfl⟩:=List.mem_map.mp z;have h1:=(BA rows 0 _ hs).1;have h2:=d.way p hp;have h1:p.b=2:=h1;lia
end xi
instance:yj T2 where
 mn:=by
  intro x G xs Q hi zh k;cases xs with
  | nil=>exact absurd rfl zh
  | cons a r =>
   obtain⟨h1,h2⟩:=lY r a;have ei:itemsOf x G=some (((a :: r).map T2.l).map tI):=by rw [hi,bh]; rfl
   refine .inr ⟨(a :: r).map T2.l,_,ei,rfl,?_⟩;have:∀ (r:List T2) (a:T2),(r.map T2.l).foldl (fun m x=>if lexLt x m=true then x else m) a.l=(r.foldl (fun m x=>if bo.lt x m=true then x else m) a).l:=by
    intro r;induction r with
    | nil=>intro a; rfl
    | cons b r ih =>
     intro a;rw [ak,bU,bU];have e:(if lexLt b.l a.l=true then b.l else a.l)=(if bo.lt b a=true then b else a).l:=by
      have:bo.lt b a=lexLt b.l a.l:=u4 _ _;rw [this];split <;> rfl
     rw [e]; exact ih _
   rw [this r a];exact k _ h1 h2
namespace xi
open K2.P K2.Mj K2.T
open K2.Y (gP)
def lR:kC:=Uh T2
theorem BJ(ds:List D)(G:Gp)(Q:DK)(h:lR ds G Q fun _ _=>False):uT (fun _ _=>False) (ends Q) (bg 7 ds) G:=Y8 ds G Q h
theorem y0(ds:List D)(G:Gp)(Q:DK)(E:nA)(h:lR ds G Q E):ds.length=2:=by
 obtain⟨_,_,rfl,_⟩:=h;rfl
def Nl(n w:Int):List (T3×T3):=if w=0 then [(⟨n,0,0⟩,⟨n,1,1⟩),(⟨n,1,0⟩,⟨n,0,1⟩)] else [(⟨n,0,0⟩,⟨n,1,0⟩),(⟨n,0,1⟩,⟨n,1,1⟩)]
def CM:iq :=
 (bY (jF (jD (br (Fg false) (au 1) (dC (.int 0)))) (cE (cJ (gG (aw (ij (aw (ij (aw (au 0) (aw (dC (.int 0)) (aw (dC (.int 0)) aQ)))) (aw (ij (aw (au 0) (aw (dC (.int 1)) (aw (dC (.int 1)) aQ)))) aQ))) (aw (ij (aw (ij (aw (au 0) (aw (dC (.int 1)) (aw (dC (.int 0)) aQ)))) (aw (ij (aw (au 0) (aw (dC (.int 0)) (aw (dC (.int 1)) aQ)))) aQ))) aQ))))) fR)
 (cE (cJ (gG (aw (ij (aw (ij (aw (au 0) (aw (dC (.int 0)) (aw (dC (.int 0)) aQ)))) (aw (ij (aw (au 0) (aw (dC (.int 1)) (aw (dC (.int 0)) aQ)))) aQ))) (aw (ij (aw (ij (aw (au 0) (aw (dC (.int 0)) (aw (dC (.int 1)) aQ)))) (aw (ij (aw (au 0) (aw (dC (.int 1)) (aw (dC (.int 1)) aQ)))) aQ))) aQ))))))
def i6:kC:=fun ds G Q _=>∃ n w:Int,ds=[.int n,.int w]/\Q (enc (Nl n w)) G
theorem DC(ds:List D)(G:Gp)(Q:DK)(h:i6 ds G Q fun _ _=>False):CM (fun _ _=>False) (ends Q) (bg 2 ds) G:=by
 obtain⟨n,w,rfl,q⟩:=h;unfold CM;simp only [bY,jF,bg,ak,aS,ai,aB,aE,aM,cE,cJ,gG,aw,ij,au,aa,dC,aQ,ends,fR,eD,br,ae];refine⟨_,_,.int _,.int _,?_⟩;simp only [ay,nk,if_false,b9];by_cases c:w=0
 ·subst c;simp only [beq_self_eq_true,if_true];refine⟨by decide,by decide,by decide,by decide,by decide,by decide,by decide,fun p hp=>?_⟩;exact gS (xs:=Nl n 0) (.new hp) hp ax q
 ·have:(w == 0)=false:=by simpa using c
  simp only [this,ay,if_false];refine⟨by decide,by decide,by decide,by decide,by decide,by decide,by decide,fun p hp=>?_⟩;refine gS (xs:=Nl n w) (.new hp) hp ?_ q;rw [ax];unfold Nl;rw [if_neg c]; rfl
def yu:iq :=
 (cE (cJ (YU (jD (br (Fg false) (au 1) (dC (.int 0)))) (au 0) (W8 Vy (au 0)))))
def Pd(h w:Int):Int:=if w=0 then h else -h
def gw:kC:=fun ds G Q _=>∃ h w:Int,ds=[.int h,.int w]/\Q (.int (Pd h w)) G
theorem yU(ds:List D)(G:Gp)(Q:DK)(h:gw ds G Q fun _ _=>False):yu (fun _ _=>False) (ends Q) (bg 2 ds) G:=by
 obtain⟨n,w,rfl,q⟩:=h;unfold yu;simp only [cE,cJ,YU,bg,ak,aS,ai,aB,aE,aM,au,aa,ends,W8,vT,eD,br,ae,dC];refine⟨_,_,.int _,.int _,?_⟩;simp only [ay,nk,if_false,b9];by_cases c:w=0
 ·subst c;simp only [beq_self_eq_true,if_true];exact du q
 ·have:(w == 0)=false:=by simpa using c
  simp only [this,ay,if_false];refine du ?_;have e:Pd n w=-n:=if_neg c;rw [<-e]; exact q
def uF:iq :=
 (bY (bB (zk (au 1) ft (nH (dC (.int 2)))) (aG 2))
 (cE (cJ (YU (jD (br (Fg false) (br mD (au 1) (dC (.int 2))) (dC (.int 0)))) (br mD (au 0) (au 2)) (au 2)))))
def i5:kC:=fun ds G Q _=>∃ (l:List (T2×T2)) (e:T3) (s:T2),ds=[.iL (aT l),enc e]/\((e.c=0->bH l e.s=some s)/\(e.c≠0->s=e.s))/\Q (enc s) G
theorem uL(ds:List D)(G:Gp)(Q:DK)(h:i5 ds G Q fun _ _=>False):uF (fun _ _=>False) (ends Q) (bg 3 ds) G:=by
 obtain⟨l,e,s,rfl,⟨h1,h2⟩,q⟩:=h;unfold uF;simp only [ends,bg,xV,ak,aS,ai,aB,aR,aE,aM,cx,bB,zk,au,ae,aa,ft,aG,cE,cJ,YU,aq,aj,br,eD,dC,jv,tR,jE,fU,YV];refine⟨by decide,?_⟩;show Fg false (D.int e.c) (.int 0) G _;refine⟨_,_,.int _,.int _,?_⟩;simp only [ay,nk,if_false,b9];by_cases c:e.c=0
 ·rw [c];simp only [beq_self_eq_true,if_true];show mD (.iL (aT l)) (enc e.s) G _;simp only [tS,mF,h1 c,mf];exact⟨iP _ _,du q⟩
 ·have:(e.c == 0)=false:=by simpa using c
  simp only [this,ay,if_false];refine du ?_;have:=h2 c;subst this;exact q
variable {rows:Rows}
def jps(rows:Rows)(n w:Int):List (T2×T2):=if w=0 then [(Ri rows ⟨n,0⟩,⟨n,1⟩),(Ri rows ⟨n,1⟩,⟨n,0⟩)] else [(Ri rows ⟨n,0⟩,Ri rows ⟨n,1⟩),(⟨n,0⟩,⟨n,1⟩)]
def zE(rows:Rows)(ch:List (Int×Int)):List (T2×T2):=ch.flatMap fun p=>jps rows p.1 p.2
theorem ER(d:Dr rows){s:T2}(h:s∈rows.flatten.map T3.s):bH (og (je (pairsOf rows))) s=some (Ri rows s)/\Ri rows s∈rows.flatten.map T3.s:=by
 obtain⟨q,hq,rfl⟩:=List.mem_map.mp h;obtain⟨p,hp,hpf⟩:=Hh hq;rw [Kl d];have:=EO d hp;exact⟨by rw [this.2]; exact this.1,by rw [this.2]; exact bA hpf⟩
theorem Lz(d:Dr rows){n:Int}(h:n∈names rows){w:Int}(hw:w=0\/w=1):(⟨n,w⟩:T2)∈rows.flatten.map T3.s:=by
 obtain⟨p,hp,e1,e2⟩:=lV.mp h;rcases hw with rfl | rfl
 ·exact List.mem_map.mpr ⟨p,hp,by rw [<-e2,<-e1]; rfl⟩
 ·have:=d.JG p hp;refine List.mem_map.mpr ⟨_,this,?_⟩;rw [e1,e2]; rfl
theorem V2(d:Dr rows){n w:Int}(h:n∈names rows):∀ p∈jps rows n w,p.1∈rows.flatten.map T3.s/\p.2∈rows.flatten.map T3.s:=by
 have h0:=Lz d h (.inl rfl);have h1:=Lz d h (.inr rfl);have c0:=(ER d h0).2;have c1:=(ER d h1).2;intro p hp;unfold jps at hp;split at hp
 ·rcases List.mem_cons.mp hp with rfl | hp
  ·exact⟨c0,h1⟩
  ·rw [bS] at hp; subst hp; exact⟨c1,h0⟩
 ·rcases List.mem_cons.mp hp with rfl | hp
  ·exact⟨c0,c1⟩
  ·rw [bS] at hp; subst hp; exact⟨h0,h1⟩
theorem Pj(d:Dr rows){ch:List (Int×Int)}(h:∀ p∈ch,p.1∈names rows):∀ p∈zE rows ch,p.1∈rows.flatten.map T3.s/\p.2∈rows.flatten.map T3.s:=by
 intro p hp;obtain⟨c,hc,q⟩:=List.mem_flatMap.mp hp;exact V2 d (h c hc) p q
theorem Tj(rows:Rows)(n w:Int):(jps rows n w).length=2:=by unfold jps; split <;> rfl
theorem D1(rows:Rows):∀ ch:List (Int×Int),(zE rows ch).length=2 * ch.length
 | []=>rfl
 | p :: ch=>by
  show (jps rows p.1 p.2++zE rows ch).length=_;rw [av,Tj,D1 rows ch,ai]; lia
theorem FN(d:Dr rows):(iC rows).Nodup:=by
 unfold iC;rw [(jm _).nodup_iff,(gV rows 0).nodup_iff,cy];exact⟨d.nd,HR rows 0,fun x hx y hy e=>T1 d y hy (e ▸ hx)⟩
def cv(rows:Rows)(e:T3):T2:=if e.c=0 then Ri rows e.s else e.s
theorem V3(rows:Rows)(n w:Int):(Nl n w).map (fun p=>(cv rows p.1,cv rows p.2))=jps rows n w:=by
 unfold Nl jps;split <;> rfl
theorem Ti{n w:Int}{p:T3×T3}(h:p∈Nl n w):(p.1.a=n/\(p.1.b=0\/p.1.b=1))/\(p.2.a=n/\(p.2.b=0\/p.2.b=1)):=by
 unfold Nl at h;split at h
 ·rcases List.mem_cons.mp h with rfl | h
  ·exact⟨⟨rfl,.inl rfl⟩,⟨rfl,.inr rfl⟩⟩
  ·rw [bS] at h; subst h; exact⟨⟨rfl,.inr rfl⟩,⟨rfl,.inl rfl⟩⟩
 ·rcases List.mem_cons.mp h with rfl | h
  ·exact⟨⟨rfl,.inl rfl⟩,⟨rfl,.inr rfl⟩⟩
  ·rw [bS] at h; subst h; exact⟨⟨rfl,.inl rfl⟩,⟨rfl,.inr rfl⟩⟩
theorem UY(d:Dr rows){e:T3}{n:Int}(hn:n∈names rows)(ha:e.a=n)(hb:e.b=0\/e.b=1):(e.c=0->bH (og (je (pairsOf rows))) e.s=some (cv rows e))/\(e.c≠0->cv rows e=e.s):=by
 have h:e.s∈rows.flatten.map T3.s:=by subst ha; exact Lz d hn hb
 unfold cv;exact⟨fun c=>by rw [if_pos c]; exact(ER d h).1,fun c=>by rw [if_neg c]⟩
def FX:iq :=
 (bY (bB (bC lj (aw (au 0) aQ)) (aG 2))
 (bY (bB (gG aQ) (aG 3))
 (bY (dF (jb (au 1)) (ig (cL (aG 4) (cL (aG 5) hU))) (dF (ka (bC i6 (aw (au 4) (aw (au 5) aQ)))) (ig (cL (aG 6) (cL (aG 7) hU))) (jg (r8 DO mr (au 3) (aw (ij (aw (bC i5 (aw (au 2) (aw (au 6) aQ))) (aw (bC i5 (aw (au 2) (aw (au 7) aQ))) aQ))) aQ)))))
 (cE (cJ (oK sd (aw (bC lR (aw (cJ (bC mB (aw (au 0) aQ))) (aw (cJ (au 3)) aQ))) aQ)))))))
def oA:kC:=fun ds G Q _=>∃ (rows:Rows) (ch:List (Int×Int)),ds=[enc rows,.iL (aT ch)]/\(Dr rows/\ch.length<=24/\∀ p∈ch,p.1∈names rows)/\∀ k:Nat,Nc (iC rows) (Cn (zE rows ch)) k->Q (.int (k:Int)) G
theorem H0(ds:List D)(G:Gp)(Q:DK)(h:oA ds G Q fun _ _=>False):FX (fun _ _=>False) (ends Q) (bg 8 ds) G:=by
 obtain⟨rows,ch,rfl,⟨d,hl,hc⟩,q⟩:=h;have EA:=d.EA;have str:=d.str;unfold FX;simp only [ends,bg,ak,aS,ai,aB,aR,aE,aM,cx,bB,bC,aw,au,aa,aQ,aG,aq,aj,gG];refine⟨rows,rfl,by lia,?_⟩;simp only [cJ,bg,ends,eD,br,W8,au,oK,r8,aw,aQ,cE,Q5,jg,bB,aG,dC,fR,ij,gG,lD,wO,WA,Oi,uq,tE,EJ,wN,zk,jE,ft,dM,qA,bC,gf,dq,vV,sT,qt,sP,qp,iU,jK,vT,zB,DX,zC,DZ,jv,mC,tR,zy,zA,tG,Bz,yb,iM,kU,sY,ni,k7,qQ,DN,DM,true_and,and_true,nT,wy,fU,b9,oj,wm,Ek,A6,ak,aS,aE,aM,aa,ae,aj,aq,ai,aB,aR,if_true,if_false,bF,di,ay,cx,vJ,kb,jb,uJ,Ax,qr,Dp,ig,cL,hU];refine⟨by decide,fun p hp=>?_⟩;refine eG (fun τ G'=>(∃ a b c e,τ=[some (enc rows),some (.iL (aT ch)),some (.iL (aT (og (je (pairsOf rows))))),some (.ref p),a,b,c,e])/\fh G G'/\G' p=some (.lst ((zE rows ch).map enc))) ?_ ?_
 ·intro N hN;simp only [dF,jb,au,ae,aa];refine jB (l:=ch) (G0:=G) rfl (.new hp) fun ok cu=>?_;refine cX (xs:=ch) (fun pre τ G'=>(∃ a b c e,τ=[some (enc rows),some (.iL (aT ch)),some (.iL (aT (og (je (pairsOf rows))))),some (.ref p),a,b,c,e])/\fh G G'/\G' p=some (.lst ((zE rows pre).map enc))) ⟨⟨_,_,_,_,rfl⟩,.new hp,ax⟩ (fun pre τ G' h=>cu _ h.2.1) ?_ ?_
  ·rintro pre x post τ G' N2 e ⟨⟨a,b,c,e',rfl⟩,le,gp⟩ lB;simp only [ig,cL,aG,hU,dF,aq,aj,wK,dM,bC,aw,au,ae,aa,aQ];have hx:x.1∈names rows:=hc x (by rw [e]; simp);have Cb:=gP e;refine⟨x.1,x.2,rfl,iQ ?_⟩;refine cX (xs:=Nl x.1 x.2) (fun sV τ G2=>(∃ c e,τ=[some (enc rows),some (.iL (aT ch)),some (.iL (aT (og (je (pairsOf rows))))),some (.ref p),some (.int x.1),some (.int x.2),c,e])/\fh G G2/\G2 p=some (.lst ((zE rows pre++sV.map fun p=>(cv rows p.1,cv rows p.2)).map enc))) ⟨⟨_,_,rfl⟩,le,by rw [aS,cj]; exact gp⟩ (fun _ _ _ _=>trivial) ?_ ?_
   ·rintro sV y Pm τ G2 N3 e2 ⟨⟨c,e',rfl⟩,GP,Hi⟩ Bc;have hy:y∈Nl x.1 x.2:=by rw [e2]; simp
    obtain⟨⟨y1,y2⟩,y3,y4⟩:=Ti hy;have h2:=gP e2;have hj:(Nl x.1 x.2).length=2:=by unfold Nl; split <;> rfl
    simp only [ig,Hy,cL,aG,hU,jg,r8,au,aq,aj,ae,aa,k7,Hi,aw,ij,bC,aQ,ai,aB,iM,true_and];refine⟨_,y.1,cv rows y.1,rfl,UY d hx y1 y2,?_⟩;refine⟨_,y.2,cv rows y.2,rfl,UY d hx y3 y4,?_⟩;refine⟨by decide,?_⟩;simp only [Hi];refine⟨ME (by rw [ao,av,ao,D1]; lia),?_⟩;refine Bc _ _ ⟨⟨_,_,rfl⟩,GP.put hp,?_⟩;rw [ax];simp only [aL,ak,aS,bP];rfl
   ·rintro τ G2 ⟨⟨c,e',rfl⟩,GP,Hi⟩;refine lB _ _ ⟨⟨_,_,_,_,rfl⟩,GP,?_⟩;rw [Hi,V3];show some (GO.lst ((zE rows pre++jps rows x.1 x.2).map enc))=_;unfold zE;rw [List.flatMap_append,nJ]
  ·rintro τ G' ⟨⟨a,b,c,e,rfl⟩,le,gp⟩;exact hN _ _ ⟨⟨_,_,_,_,rfl⟩,le,gp⟩
 ·rintro _ G' ⟨⟨a,b,c,e,rfl⟩,le,gp⟩;simp only [cE,cJ,oK,aw,bC,au,aa,aQ,ae];have sl:=Ac rows;refine⟨rows,rfl,⟨by lia,fun r hr=>?_⟩,du (gS le hp gp ?_)⟩
  ·have:r.length<=rows.flatten.length:=by
    obtain⟨l,m,e⟩:=List.append_of_mem hr;rw [e,lJ,cO,av,av]; lia
   lia
  have sn:=FN d;have Zz:∀ p∈zE rows ch,p.1∈iC rows/\p.2∈iC rows:=fun p hp=>by
   have:=Pj d hc p hp;unfold iC;rw [(jm _).mem_iff,(jm _).mem_iff,(gV rows 0).mem_iff,(gV rows 0).mem_iff];exact⟨cH _ this.1,cH _ this.2⟩
  refine⟨iC rows,zE rows ch,rfl,⟨sn,by unfold iC; rw [vD]; lia,by rw [D1]; lia,Zz⟩,⟨by decide,by decide,by decide⟩,fun gr Yv=>?_⟩;have nc:=So sn (fun m hm=>(Yv m hm).2) Zz;have:(enc (told (iC rows) gr):D)=.dN ((told (iC rows) gr).map enc):=rfl;rw [this];simp only [tG,ao];exact du (q _ nc)
def FY:iq :=
 (cE (cJ (oK WH (aw (gf 2 [0] (jb (au 1)) (ig (cL (aG 0) (cL (aG 1) hU))) none (bC gw (aw (bC ib (aw (au 2) (aw (au 0) aQ))) (aw (au 1) aQ)))) aQ))))
def MP(rows:Rows)(ch:List (Int×Int)):Int:=(ch.map fun p=>Pd (handOf rows p.1) p.2).sum
def oB:kC:=fun ds G Q _=>∃ (rows:Rows) (ch:List (Int×Int)),ds=[enc rows,.iL (aT ch)]/\(Dr rows/\ch.length<=24/\∀ p∈ch,p.1∈names rows)/\Q (.int (MP rows ch)) G
theorem YB(d:Dr rows){n:Int}(h:n∈names rows):(handOf rows n=1\/handOf rows n=-1)/\∃ p∈rows.flatten,p.a=n:=by
 obtain⟨p,hp,_,e⟩:=lV.mp h;subst e;rw [Es d hp];exact⟨d.hand p hp,p,hp,rfl⟩
theorem Ia(ds:List D)(G:Gp)(Q:DK)(h:oB ds G Q fun _ _=>False):FY (fun _ _=>False) (ends Q) (bg 2 ds) G:=by
 obtain⟨rows,ch,rfl,⟨d,hl,hc⟩,q⟩:=h;have EA:=d.EA;unfold FY;simp only [cE,cJ,oK,aw,gf,jb,au,bg,ak,aS,ai,aB,aE,aM,ae,aa,aQ,ends];refine jB (l:=ch) (G0:=G) rfl (.refl G) fun ok cu=>?_;refine⟨Aa (by rw [ao]; lia),?_⟩;refine iY (xs:=ch) (fun pre acc τ G'=>G=G'/\(∃ a b,τ=[a,b,some (enc rows)])/\acc=(pre.map fun p=>Pd (handOf rows p.1) p.2).map D.int) ⟨rfl,⟨_,_,rfl⟩,rfl⟩ (fun _ _ _ _ h=>cu _ (h.1 ▸ .refl _)) ?_ ?_
 ·rintro pre n post acc τ G' N e ⟨rfl,⟨a,b,rfl⟩,rfl⟩ hN;have hn:n.1∈names rows:=hc n (by rw [e]; simp);simp only [ig,cL,aG,hU,bC,aw,au,aj,wK,aq,ae,aa,aQ];refine⟨rows,n.1,rfl,⟨by lia,(YB d hn).2⟩,?_⟩;refine⟨_,_,rfl,?_⟩;refine hN _ _ _ ⟨rfl,⟨_,_,rfl⟩,?_⟩;rw [aL,aL]; rfl
 ·rintro acc τ G' ⟨rfl,⟨a,b,rfl⟩,rfl⟩ p hp;refine⟨ch.map fun p:Int×Int=>Pd (handOf rows p.1) p.2,OJ (IsL.ref ax),rg (IsL.ref ax),⟨by rw [ao]; lia,fun n hn=>?_⟩,wB (.new hp) q⟩;obtain⟨m,hm,rfl⟩:=List.mem_map.mp hn;have:=(YB d (hc m hm)).1;unfold Pd;split <;> lia
end xi
namespace xi
open K2.P K2.T
open K2.Ii (AL fA ZL iW nZ)
open K2.Y (kX pick ko kr b8 eM cW i7 gP)
theorem JT{c:yf}{a b:iq}{E:nA}{K:mK}{τ:jc}{G:Gp}:jF c a b E K τ G=c E τ G fun k G1=>if k=true then a E K τ G1 else b E K τ G1:=rfl
theorem eq_int(i j:Int):jj (.int i) (.int j)=decide (i=j):=Enc.eqv i j
def yC(L:List T3):List Int:=(L.filter fun p=>p.b == 0).map (·.a)
def gW:kC:=Sv (fun rows:Rows=>rows.flatten.length<=500) fun rows=>yC rows.flatten
def vP:iq :=
 (bY (bB (gG aQ) (aG 1))
 (bY (dF (ka (au 0)) (aG 2) (dF (ka (au 2)) (aG 3) (jF (jD (br (Fg false) (br mD (au 3) (dC (.int 1))) (dC (.int 0)))) (jg (r8 DO mr (au 1) (aw (br mD (au 3) (dC (.int 0))) aQ))) fR)))
 (cE (cJ (au 1)))))
theorem qV(L:List T3):(yC L).length<=L.length:=by unfold yC; rw [ao]; exact eA _ _
theorem S7(a b:List T3):yC (a++b)=yC a++yC b:=by unfold yC; rw [dU,aL]
theorem w8(ds:List D)(G:Gp)(Q:DK)(h:gW ds G Q fun _ _=>False):vP (fun _ _=>False) (ends Q) (bg 4 ds) G:=by
 obtain⟨rows,rfl,hl,q⟩:=h;unfold vP;simp only [ends,bg,ak,aS,ai,aB,aR,aE,aM,cx,bB,gG,aQ,aG,aq,aj];refine⟨by decide,fun p hp=>?_⟩;refine eG (fun τ G'=>(∃ a b,τ=[some (enc rows),some (.ref p),a,b])/\fh G G'/\G' p=some (.lst ((yC rows.flatten).map enc))) ?_ ?_
 ·intro N hN;simp only [dF,dM,au,aa];refine iQ ?_;refine cX (xs:=rows) (fun pre τ G'=>(∃ a b,τ=[some (enc rows),some (.ref p),a,b])/\fh G G'/\G' p=some (.lst ((yC pre.flatten).map enc))) ⟨⟨_,_,rfl⟩,.new hp,ax⟩ (fun _ _ _ _=>trivial) ?_ ?_
  ·rintro pre r post τ G' N2 e ⟨⟨a,b,rfl⟩,l,gp⟩ lB;have hlen:pre.flatten.length+r.length<=rows.flatten.length:=by
    rw [e]; simp only [lJ,cO,av]; lia
   simp only [aG,dF,aq,aj,dM,au,ae,aa];refine iQ ?_;refine cX (xs:=r) (fun pp τ G'=>(∃ a b,τ=[some (enc rows),some (.ref p),a,b])/\fh G G'/\G' p=some (.lst ((yC (pre.flatten++pp)).map enc))) ⟨⟨_,_,rfl⟩,l,by rw [cj]; exact gp⟩ (fun _ _ _ _=>trivial) ?_ ?_
   ·rintro pp t pt τ G4 N3 e4 ⟨⟨a,b,rfl⟩,l4,Ws⟩ Bc;have hpp:pp.length < r.length:=by have:=congrArg cM e4; simp at this; lia
    have hz:=qV (pre.flatten++pp);rw [av] at hz;simp only [aG,xV,aq,aj,JT,jg,r8,au,ae,aa,k7,aw,br,dC,aQ,iM,jv,W9,fR,eD,Rx];refine⟨_,_,.int _,.int _,?_⟩;rw [eq_int];have eu:yC (pre.flatten++(pp++[t]))=yC (pre.flatten++pp)++yC [t]:=by rw [<-bP,S7]
    by_cases hb:t.b=0
    ·simp only [ay,hb,decide_true,bF,if_false,b9,Ws,true_and,if_true];refine⟨ME (by rw [ao]; lia),Bc _ _ ⟨⟨_,_,rfl⟩,l4.put hp,?_⟩⟩;rw [ax,eu,aL];have:yC [t]=[t.a]:=by simp [yC,hb]
     rw [this]; rfl
    ·simp only [ay,hb,decide_false,di,if_false,b9];refine Bc _ _ ⟨⟨_,_,rfl⟩,l4,?_⟩;have:yC [t]=[]:=by simp [yC,hb]
     rw [eu,this,cj]; exact Ws
   ·rintro τ G4 ⟨⟨a,b,rfl⟩,l4,Ws⟩;refine lB _ _ ⟨⟨_,_,rfl⟩,l4,?_⟩;have:(pre++[r]).flatten=pre.flatten++r:=by simp
    rw [this]; exact Ws
  ·rintro τ G' ⟨⟨a,b,rfl⟩,l,gp⟩;exact hN _ _ ⟨⟨_,_,rfl⟩,l,gp⟩
 ·rintro _ G' ⟨⟨a,b,rfl⟩,l,gp⟩;simp only [cE,cJ,au,ae,aa];exact gS l hp gp q
theorem Em{G G2:Gp}{d:D}{ds:List D}{R:List D->(Gp->Prop)->Gp->Prop}(h:IsL G d ds)(l:fh G G2)(k:∀ ok:Gp->Prop,(∀ G',fh G G'->ok G')->R ds ok G2):R0 d G2 R:=by
 rcases h with rfl | ⟨a,rfl,e⟩
 ·exact k _ fun _ _=>trivial
 ·rw [En (l _ _ e)];exact k _ fun G' le=>le _ _ e
end xi
namespace Om
open K2.P
variable {rows:Rows}
end Om
namespace Om
open K2.P
variable {rows:Rows}
def z3:T3:=⟨0,0,0⟩
def prv(r:List T3)(k:Nat):T3:=if k=0 then r.getD (r.length - 1) z3 else r.getD (k - 1) z3
def pr1(r:List T3)(ks:List Nat):List (T3×T3):=ks.map fun k=>(prv r k,r.getD k z3)
def prs(rows:Rows):List (T3×T3):=rows.flatMap fun r=>pr1 r (i0 r.length)
end Om
namespace xi
open K2.P K2.T
open K2.Mj (Nc)
open K2.Om (prv pr1 prs z3)
open K2.Ii (nZ)
open K2.Y (gP)
variable {rows:Rows}
def ks(rows:Rows):List T2:=(prs rows).map fun p=>p.2.s
end xi
namespace xi
open K2.P K2.T
open K2.Mj (Nc Oj)
open K2.Ii (nZ iW fA)
open K2.Y (kX pick ko kr b8 eM cW gP)
variable {rows:Rows}
theorem xH(rows:Rows):(yC rows.flatten).Perm (names rows):=by
 unfold names yC;exact(jm _).symm
end xi
namespace B0
open K2.P K2.T
open K2.Mj (Nc Oj)
open K2.Y
open K2.xi (zE jps MP Pd)
variable {rows:Rows}
abbrev Ch:=List (Int×Int)
def two(n:Int)(c:Ch):List Ch:=[c++[(n,0)],c++[(n,1)]]
def L8(l:List Int):List Ch:=l.foldl (fun acc n=>acc.flatMap (two n)) [[]]
def Ue(a:List Int):List (List Int):=[a++[0],a++[1]]
def Od:Nat->List (List Int)
 | 0=>[[]]
 | k+1=>(Od k).flatMap Ue
theorem zx:∀ (k:Nat),(Od k).length=2 ^ k
 | 0=>rfl
 | k+1=>by
  have go:∀ l:List (List Int),(l.flatMap Ue).length=2 * l.length:=fun l=>by
   induction l with
   | nil=>rfl
   | cons a l ih=>rw [bO,av,ih,ai]; show 2+_=_; lia
  show ((Od k).flatMap Ue).length=_;rw [go,zx k,xm]; lia
theorem vF:∀ (k:Nat) (a:List Int),a∈Od k->a.length=k
 | 0,a,h=>by rw [List.mem_singleton.mp h]; rfl
 | k+1,a,h=>by
  obtain⟨b,hb,hm⟩:=List.mem_flatMap.mp h;have:=vF k b hb;rcases List.mem_cons.mp hm with rfl | hm
  ·rw [av,this]; rfl
  ·rw [List.mem_singleton.mp hm,av,this]; rfl
theorem Bt(l:List Int)(n:Int):L8 (l++[n])=(L8 l).flatMap (two n):=by
 unfold L8; rw [fy]; rfl
theorem snoc_ind{P:List Int->Prop}(h0:P [])(h1:∀ l n,P l->P (l++[n])):∀ l,P l:=fun l=>by
 have:∀ m:List Int,P m.reverse:=fun m=>by
  induction m with
  | nil=>exact h0
  | cons a m ih=>rw [List.reverse_cons]; exact h1 _ _ ih
 have:=this l.reverse
 rwa [List.reverse_reverse] at this
theorem L6:∀ l:List Int,L8 l=(Od l.length).map fun a=>l.zip a:=by
 refine snoc_ind rfl fun l n ih=>?_;rw [Bt,ih,av,cU];show _=((Od l.length).flatMap Ue).map _;have go:∀ s:List (List Int),(∀ a∈s,a.length=l.length)->(s.map fun a=>l.zip a).flatMap (two n)=(s.flatMap Ue).map fun a=>(l++[n]).zip a:=fun s=>by
  induction s with
  | nil=>intro _; rfl
  | cons a s ih =>
   intro h;rw [ak,bO,bO,aL,ih fun b hb=>h b (aJ _ hb)];congr 1;have e:=h a cA;show [l.zip a++[(n,0)],l.zip a++[(n,1)]]=[(l++[n]).zip (a++[0]),(l++[n]).zip (a++[1])];rw [List.zip_append e.symm,List.zip_append e.symm]; rfl
 exact go _ (vF _)
theorem L7(l:List Int):(L8 l).length=2 ^ l.length:=by rw [L6,ao,zx]
theorem Rl:∀ (l:List Int) (c:Ch),c∈L8 l->c.map (·.1)=l/\∀ p∈c,p.2=0\/p.2=1:=by
 refine snoc_ind (fun c h=>?_) fun l n ih c h=>?_
 ·rw [List.mem_singleton.mp h]; exact⟨rfl,fun p hp=>by cases hp⟩
 ·rw [Bt] at h;obtain⟨b,hb,hm⟩:=List.mem_flatMap.mp h;obtain⟨h1,h2⟩:=ih b hb;have go:∀ w:Int,(w=0\/w=1)->c=b++[(n,w)]->c.map (·.1)=l++[n]/\∀ p∈c,p.2=0\/p.2=1:=fun w hw e=>by
   subst e;refine⟨by rw [aL,h1]; rfl,fun p hp=>?_⟩;rcases List.mem_append.mp hp with hp | hp
   ·exact h2 p hp
   ·rw [List.mem_singleton.mp hp]; exact hw
  rcases List.mem_cons.mp hm with e | hm
  ·exact go 0 (.inl rfl) e
  ·exact go 1 (.inr rfl) (List.mem_singleton.mp hm)
def SS:List Int->(Ch->Int)->Int
 | [],F=>F []
 | n :: l,F=>SS l (fun c=>F ((n,0) :: c))+SS l fun c=>F ((n,1) :: c)
theorem E7:∀ (l:List Int) (n:Int) (F:Ch->Int),SS (l++[n]) F=SS l fun c=>F (c++[(n,0)])+F (c++[(n,1)])
 | [],n,F=>rfl
 | m :: l,n,F=>by
  show SS (l++[n]) _+SS (l++[n]) _=SS l _+SS l _;rw [E7 l,E7 l]; rfl
theorem vC:∀ (a b:List Int),(a++b).sum=a.sum+b.sum
 | [],b=>by simp
 | x :: a,b=>by rw [aE,uB,uB,vC a b]; lia
theorem K4(n:Int)(F:Ch->Int):∀ s:List Ch,((s.flatMap (two n)).map F).sum=(s.map fun c=>F (c++[(n,0)])+F (c++[(n,1)])).sum
 | []=>rfl
 | c :: s=>by
  rw [bO,aL,vC,K4 n F s,ak,uB];show (F (c++[(n,0)])+(F (c++[(n,1)])+0))+_=_;lia
theorem Sr:∀ (l:List Int) (F:Ch->Int),((L8 l).map F).sum=SS l F:=by
 refine snoc_ind (fun F=>?_) fun l n ih F=>?_
 ·show F []+0=F []; lia
 ·rw [Bt,K4,ih,E7]
open Classical in
noncomputable def R(rows:Rows)(c:Ch):Nat:=if h:∃ k,Nc (iC rows) (Cn (zE rows c)) k then Classical.choose h else 0
theorem Y6{c:Ch}{k:Nat}(h:Nc (iC rows) (Cn (zE rows c)) k):R rows c=k:=by
 unfold R;rw [dif_pos ⟨k,h⟩];exact Nc.uniq (Oj _) (IQ (⟨k,h⟩:∃ k,Nc (iC rows) (Cn (zE rows c)) k)) h
def LP:Po:=[(2,-1),(-2,-1)]
noncomputable def term(rows:Rows)(g:Int->Int)(c:Ch):Int:=L (fun i=>g (i+MP rows c)) (cN LP (R rows c))
noncomputable def BS(rows:Rows)(l:List Int)(g:Int->Int):Int:=SS l (term rows g)
def cn(h:T2->Int)(l:List (T2×Int)):Int:=(l.map fun p=>p.2 * h p.1).sum
theorem Rh(h:T2->Int)(k:T2)(v:Int):∀ (l:List (T2×Int)),(l.map (·.1)).Nodup->k∈l.map (·.1)->cn h (l.map fun p=>if p.1=k then (p.1,v) else p)=cn h l+(v - (bH l k).getD 0) * h k
 | [],_,m=>by cases m
 | p :: l,nd,m=>by
  rw [ak,aY] at nd;have ag:bH (p :: l) k=if p.1=k then some p.2 else bH l k:=by
   unfold bH; rw [dD]; by_cases c:p.1=k <;> simp [c]
  by_cases c:p.1=k
  ·have same:(l.map fun q=>if q.1=k then (q.1,v) else q)=l:=by
    conv=>rhs; rw [<-lI l]
    refine dB fun q hq=>?_;rw [if_neg fun z=>nd.1 (by rw [c,<-z]; exact bA hq)]; rfl
   rw [ak,same,ag,if_pos c,if_pos c];show v * h p.1+cn h l=(p.2 * h p.1+cn h l)+(v - p.2) * h k;rw [c,Int.sub_mul]; lia
  ·have m':k∈l.map (·.1):=by
    rw [ak] at m;rcases List.mem_cons.mp m with e | m
    ·exact absurd e.symm c
    ·exact m
   rw [ak,ag,if_neg c,if_neg c];show p.2 * h p.1+cn h (l.map fun p=>if p.1=k then (p.1,v) else p)=(p.2 * h p.1+cn h l)+_;rw [Rh h k v l nd.2 m']; lia
theorem T4{l:List (T2×Int)}{k:T2}(h:k∉l.map (·.1)):bH l k=none:=by
 unfold bH;rw [Option.map_eq_none_iff,fE];intro p hp z;exact h (by rw [<-of_decide_eq_true z]; exact bA hp)
def Rf(l:List (T2×Int))(k:T2):List (T2×Int):=df l k ((bH l k).getD 0+1)
theorem WE(h:T2->Int){l:List (T2×Int)}(nd:(l.map (·.1)).Nodup)(k:T2):cn h (Rf l k)=cn h l+h k:=by
 unfold Rf;by_cases m:k∈l.map (·.1)
 ·rw [tH m,Rh h k _ l nd m,Fd _ 1,Int.add_sub_cancel,Int.one_mul]
 ·rw [Y.kd m,T4 m];unfold cn;rw [aL,vC];show _+((0+1) * h k+0)=_;lia
structure Ct(l:List (T2×Int))(n:Nat)(B:Nat):Prop where
 nd:(l.map (·.1)).Nodup
 len:l.length<=n
 num:∀ p∈l,p.2.natAbs<=n
 key:∀ p∈l,∃ k:Nat,p.1.b=k/\k<=B
theorem Ct.nil(B:Nat):Ct [] 0 B:=⟨cq,aH _,(fun p h=>by cases h),(fun p h=>by cases h)⟩
theorem w4{l:List (T2×Int)}{k:T2}{v:Int}(h:bH l k=some v):∃ p∈l,p.2=v:=by
 unfold bH at h;obtain⟨p,hp,e⟩:=Option.map_eq_some_iff.mp h;exact⟨p,fW hp,e⟩
theorem Ct.put{l:List (T2×Int)}{n B:Nat}(c:Ct l n B){k:T2}(hk:∃ j:Nat,k.b=j/\j<=B):Ct (Rf l k) (n+1) B:=by
 have hv:((bH l k).getD 0+1).natAbs<=n+1:=by
  cases e:bH l k with
  | none=>show (0+1:Int).natAbs<=n+1; lia
  | some v =>
   obtain⟨p,hp,ev⟩:=w4 e;have:=c.num p hp;rw [ev] at this;show (v+1).natAbs<=n+1;lia
 unfold Rf;by_cases m:k∈l.map (·.1)
 ·rw [tH m];refine⟨?_,by rw [ao]; exact DG c.len,fun p hp=>?_,fun p hp=>?_⟩
  ·rw [bh];have:(((·.1):T2×Int->T2)∘fun p=>if p.1=k then (p.1,(bH l k).getD 0+1) else p)=(·.1):=by
    funext p; show (if p.1=k then (p.1,(bH l k).getD 0+1) else p).1=p.1; split <;> rfl
   rw [this]; exact c.nd
  ·obtain⟨q,hq,rfl⟩:=List.mem_map.mp hp;by_cases z:q.1=k
   ·rw [if_pos z]; exact hv
   ·rw [if_neg z]; exact DG (c.num q hq)
  ·obtain⟨q,hq,rfl⟩:=List.mem_map.mp hp;by_cases z:q.1=k
   ·rw [if_pos z,z]; exact hk
   ·rw [if_neg z]; exact c.key q hq
 ·rw [Y.kd m];refine⟨?_,by rw [av]; exact pP c.len,fun p hp=>?_,fun p hp=>?_⟩
  ·rw [aL,cy];refine⟨c.nd,by simp,fun a ha b hb e=>?_⟩;rw [List.mem_singleton.mp hb] at e;have e:a=k:=e;exact m (e ▸ ha)
  ·rcases List.mem_append.mp hp with hp | hp
   ·exact DG (c.num p hp)
   ·rw [List.mem_singleton.mp hp]; exact hv
  ·rcases List.mem_append.mp hp with hp | hp
   ·exact c.key p hp
   ·rw [List.mem_singleton.mp hp]; exact hk
end B0
end K2
end
section
set_option maxHeartbeats 1000000
namespace K2
namespace J
section
variable {α:Type} [DecidableEq α]
def Iv(f:α->α):Prop:=∀ e,f (f e)=e
def jn(f:α->α)(x y:α):α->α:=fun e=>if e=x\/e=y then e else if e=f x then f y else if e=f y then f x else f e
def cl(f:α->α)(x y:α):Nat:=if f x=y then 1 else 0
theorem X5{f:α->α}(h:Iv f){x y:α}(hx:f x≠x)(hy:f y≠y)(W0:x≠y):Iv (jn f x y):=by
 intro e;have h1:=h x;have h2:=h y;have h3:=h e;unfold jn
 grind (splits:=40)
theorem Ql{f:α->α}(h:Iv f){x y e:α}(W0:x≠y)(he:jn f x y e=e):e=x\/e=y\/f e=e:=by
 have h1:=h x;have h2:=h y;unfold jn at he
 grind (splits:=40)
theorem X4{f:α->α}{x y:α}:jn f x y x=x:=by unfold jn; grind
theorem X3{f:α->α}{x y:α}:jn f x y y=y:=by unfold jn; grind
theorem Tn{f:α->α}(h:Iv f){x y z w:α}(hx:f x≠x)(hy:f y≠y)(hz:f z≠z)(hw:f w≠w)(xy:x≠y)(xz:x≠z)(xw:x≠w)(yz:y≠z)(yw:y≠w)(zw:z≠w):jn (jn f x y) z w=jn (jn f z w) x y:=by
 funext e;have h1:=h x;have h2:=h y;have h3:=h z;have h4:=h w;have h5:=h e;unfold jn
 grind (splits:=40)
theorem TN{f:α->α}(h:Iv f){x y z w:α}(hx:f x≠x)(hy:f y≠y)(hz:f z≠z)(hw:f w≠w)(xy:x≠y)(xz:x≠z)(xw:x≠w)(yz:y≠z)(yw:y≠w)(zw:z≠w):cl f x y+cl (jn f x y) z w=cl f z w+cl (jn f z w) x y:=by
 have h1:=h x;have h2:=h y;have h3:=h z;have h4:=h w;unfold cl jn
 grind (splits:=40)
end
end J
end K2
end
section
set_option maxHeartbeats 1000000
namespace K2
namespace J
section
variable {α:Type} [DecidableEq α]
abbrev Pr(α:Type):=List (α×α)
def mV(f:α->α):Pr α->α->α
 | []=>f
 | p :: ps=>mV (jn f p.1 p.2) ps
def cls(f:α->α):Pr α->Nat
 | []=>0
 | p :: ps=>cl f p.1 p.2+cls (jn f p.1 p.2) ps
def es:Pr α->List α
 | []=>[]
 | p :: ps=>p.1 :: p.2 :: es ps
structure Ok(f:α->α)(ps:Pr α):Prop where
 iv:Iv f
 nd:(es ps).Nodup
 dm:∀ e∈es ps,f e≠e
theorem wG{ps qs:Pr α}(h:ps.Perm qs):(es ps).Perm (es qs):=by
 induction h with
 | nil=>exact .nil
 | cons x _ ih=>exact(ih.cons _).cons _
 | swap x y l =>
  show (y.1 :: y.2 :: x.1 :: x.2 :: es l).Perm (x.1 :: x.2 :: y.1 :: y.2 :: es l);have:∀ (a b c d:α) (l:List α),(a :: b :: c :: d :: l).Perm (c :: d :: a :: b :: l):=fun a b c d l=>by
   refine((vm c b _).cons a).trans ?_;refine(vm c a _).trans ?_;refine DI c ?_;refine((vm d b _).cons a).trans ?_;exact vm d a _
  exact this _ _ _ _ _
 | trans _ _ a b=>exact a.trans b
theorem qC(ps qs:Pr α):es (ps++qs)=es ps++es qs:=by
 induction ps with
 | nil=>rfl
 | cons p ps ih=>rw [aE,es,es,ih]; rfl
theorem Kd(ps:Pr α):(es ps).length=2 * ps.length:=by
 induction ps with
 | nil=>rfl
 | cons p ps ih=>rw [es,ai,ai,ih,ai]; lia
theorem pY{ps:Pr α}{e:α}:e∈es ps↔∃ p∈ps,e=p.1\/e=p.2:=by
 induction ps with
 | nil=>simp [es]
 | cons p ps ih =>
  rw [es,bb,bb,ih];constructor
  ·rintro(h | h | ⟨q,h,z⟩)
   ·exact⟨p,by simp,.inl h⟩
   ·exact⟨p,by simp,.inr h⟩
   ·exact⟨q,aJ _ h,z⟩
  ·rintro⟨q,h,z⟩;rcases List.mem_cons.mp h with rfl | h
   ·rcases z with z | z
    ·exact .inl z
    ·exact .inr (.inl z)
   ·exact .inr (.inr ⟨q,h,z⟩)
theorem Ok.perm{f:α->α}{ps qs:Pr α}(h:ps.Perm qs)(o:Ok f ps):Ok f qs :=
 ⟨o.iv,(wG h).nodup_iff.mp o.nd,fun e he=>o.dm e ((wG h).mem_iff.mpr he)⟩
theorem Ok.hd{f:α->α}{p:α×α}{ps:Pr α}(o:Ok f (p :: ps)):p.1≠p.2/\f p.1≠p.1/\f p.2≠p.2:=by
 have n:=o.nd;rw [es,aY] at n;exact⟨fun z=>n.1 (by rw [z]; exact cA),o.dm _ (by simp [es]),o.dm _ (by simp [es])⟩
theorem Ok.tl{f:α->α}{p:α×α}{ps:Pr α}(o:Ok f (p :: ps)):Ok (jn f p.1 p.2) ps:=by
 obtain⟨h1,h2,h3⟩:=o.hd;have n:=o.nd;rw [es,aY,aY] at n;refine⟨X5 o.iv h2 h3 h1,n.2.2,fun e he z=>?_⟩;rcases Ql o.iv h1 z with z | z | z
 ·exact n.1 (by rw [<-z]; exact aJ _ he)
 ·exact n.2.1 (by rw [<-z]; exact he)
 ·exact o.dm e (by simp [es,he]) z
theorem Ok.left{f:α->α}{ps qs:Pr α}(o:Ok f (ps++qs)):Ok (mV f ps) qs:=by
 induction ps generalizing f with
 | nil=>exact o
 | cons p ps ih=>exact ih o.tl
theorem Ok.pre{f:α->α}{ps qs:Pr α}(o:Ok f (ps++qs)):Ok f ps :=
 ⟨o.iv,by have:=o.nd; rw [qC] at this; exact(List.nodup_append.mp this).1,fun e he=>o.dm e (by rw [qC]; exact cH _ he)⟩
theorem u7(f:α->α)(ps qs:Pr α):mV f (ps++qs)=mV (mV f ps) qs:=by
 induction ps generalizing f with
 | nil=>rfl
 | cons p ps ih=>exact ih _
theorem rz(f:α->α)(ps qs:Pr α):cls f (ps++qs)=cls f ps+cls (mV f ps) qs:=by
 induction ps generalizing f with
 | nil=>simp [cls,mV]
 | cons p ps ih=>rw [aE,cls,cls,ih,mV,qk]
theorem Qj{f:α->α}{ps qs:Pr α}(h:ps.Perm qs)(o:Ok f ps):mV f ps=mV f qs/\cls f ps=cls f qs:=by
 induction h generalizing f with
 | nil=>exact⟨rfl,rfl⟩
 | cons x _ ih =>
  obtain⟨a,b⟩:=ih o.tl;exact⟨a,by rw [cls,cls,b]⟩
 | swap x y l =>
  have n:=o.nd;simp only [es,aY,bb,not_or] at n;have d:∀ e,e=y.1\/e=y.2\/e=x.1\/e=x.2->f e≠e:=fun e he=>o.dm e (by
   simp only [es,bb];rcases he with h | h | h | h <;> simp [h])
  have a:=Tn o.iv (d y.1 (by simp)) (d y.2 (by simp)) (d x.1 (by simp)) (d x.2 (by simp)) n.1.1 n.1.2.1 n.1.2.2.1 n.2.1.1 n.2.1.2.1 n.2.2.1.1;have b:=TN o.iv (d y.1 (by simp)) (d y.2 (by simp)) (d x.1 (by simp)) (d x.2 (by simp)) n.1.1 n.1.2.1 n.1.2.2.1 n.2.1.1 n.2.1.2.1 n.2.2.1.1;refine⟨?_,?_⟩
  ·show mV (jn (jn f y.1 y.2) x.1 x.2) l=mV (jn (jn f x.1 x.2) y.1 y.2) l;rw [a]
  ·show cl f y.1 y.2+(cl (jn f y.1 y.2) x.1 x.2+cls (jn (jn f y.1 y.2) x.1 x.2) l)=cl f x.1 x.2+(cl (jn f x.1 x.2) y.1 y.2+cls (jn (jn f x.1 x.2) y.1 y.2) l);rw [a]; lia
 | trans h1 h2 i1 i2 =>
  obtain⟨a,b⟩:=i1 o;obtain⟨c,d⟩:=i2 (o.perm h1);exact⟨a.trans c,b.trans d⟩
end
end J
end K2
end
section
set_option maxHeartbeats 1000000
namespace K2
namespace J
abbrev Fn:=Int->Int
def lp(g:Fn):Fn:=fun i=>-(g (i+2)) - g (i - 2)
def sh(b:Int)(g:Fn):Fn:=fun i=>g (i+b)
def kL:Nat->Fn->Fn
 | 0,g=>g
 | n+1,g=>lp (kL n g)
theorem Ei(n m:Nat)(g:Fn):kL (n+m) g=kL n (kL m g):=by
 induction n with
 | zero=>rw [xl]; rfl
 | succ n ih=>rw [Nat.succ_add,kL,kL,ih]
theorem XY(b:Int)(g:Fn):lp (sh b g)=sh b (lp g):=by
 funext i;unfold lp sh;rw [show i+2+b=i+b+2 by lia,show i - 2+b=i+b - 2 by lia]
theorem u3(n:Nat)(b:Int)(g:Fn):kL n (sh b g)=sh b (kL n g):=by
 induction n with
 | zero=>rfl
 | succ n ih=>rw [kL,kL,ih,XY]
theorem O2(a b:Int)(g:Fn):sh a (sh b g)=sh (a+b) g:=by
 funext i;unfold sh;rw [Int.add_assoc]
theorem Lb(g:Fn):sh 0 g=g:=by
 funext i;unfold sh;rw [xq]
def pl(g k:Fn):Fn:=fun i=>g i+k i
def sc(c:Int)(g:Fn):Fn:=fun i=>c * g i
theorem X0(g k:Fn):lp (pl g k)=pl (lp g) (lp k):=by
 funext i;show -(g (i+2)+k (i+2)) - (g (i - 2)+k (i - 2))=(-(g (i+2)) - g (i - 2))+(-(k (i+2)) - k (i - 2));lia
theorem XZ(c:Int)(g:Fn):lp (sc c g)=sc c (lp g):=by
 funext i;unfold lp sc;rw [Int.mul_sub,Int.mul_neg]
theorem P6(n:Nat)(g k:Fn):kL n (pl g k)=pl (kL n g) (kL n k):=by
 induction n with
 | zero=>rfl
 | succ n ih=>rw [kL,kL,kL,ih,X0]
theorem P5(n:Nat)(c:Int)(g:Fn):kL n (sc c g)=sc c (kL n g):=by
 induction n with
 | zero=>rfl
 | succ n ih=>rw [kL,kL,ih,XZ]
theorem Uj(b:Int)(g k:Fn):sh b (pl g k)=pl (sh b g) (sh b k):=rfl
theorem Ui(b c:Int)(g:Fn):sh b (sc c g)=sc c (sh b g):=rfl
def js(n:Int)(w:Bool):Pr T3:=if w=false then [(⟨n,0,0⟩,⟨n,1,1⟩),(⟨n,1,0⟩,⟨n,0,1⟩)] else [(⟨n,0,0⟩,⟨n,1,0⟩),(⟨n,0,1⟩,⟨n,1,1⟩)]
def Br:(T3->T3)->List (Int×Int)->Fn->Int
 | _,[],g=>g 0
 | f,p :: ps,g=>Br (mV f (js p.1 false)) ps (kL (cls f (js p.1 false)) (sh p.2 g))+Br (mV f (js p.1 true)) ps (kL (cls f (js p.1 true)) (sh (-p.2) g))
theorem RM:∀ (ps:List (Int×Int)) (f:T3->T3) (g k:Fn),Br f ps (pl g k)=Br f ps g+Br f ps k
 | [],_,_,_=>rfl
 | p :: ps,f,g,k=>by
  rw [Br,Br,Br,Uj,Uj,P6,P6,RM,RM]; lia
theorem Mm:∀ (ps:List (Int×Int)) (f:T3->T3) (c:Int) (g:Fn),Br f ps (sc c g)=c * Br f ps g
 | [],_,_,_=>rfl
 | p :: ps,f,c,g=>by
  rw [Br,Br,Ui,Ui,P5,P5,Mm,Mm,IL]
def lM(n:Int):List T3:=[⟨n,0,0⟩,⟨n,1,1⟩,⟨n,1,0⟩,⟨n,0,1⟩]
theorem kB(n:Int)(w:Bool):(es (js n w)).Perm (lM n):=by
 cases w with
 | false=>exact .refl _
 | true =>
  show [(⟨n,0,0⟩:T3),⟨n,1,0⟩,⟨n,0,1⟩,⟨n,1,1⟩].Perm _;refine DI _ ?_;refine(oS (l₁:=[(⟨n,1,0⟩:T3),⟨n,0,1⟩]) (l₂:=[⟨n,1,1⟩]))
structure Dm(f:T3->T3)(ns:List Int):Prop where
 iv:Iv f
 nd:ns.Nodup
 dm:∀ n∈ns,∀ e∈lM n,f e≠e
theorem Dm.perm{f:T3->T3}{ns ms:List Int}(h:ns.Perm ms)(d:Dm f ns):Dm f ms:=⟨d.iv,h.nodup_iff.mp d.nd,fun n hn=>d.dm n (h.mem_iff.mpr hn)⟩
theorem wJ(n:Int):(lM n).Nodup:=by
 unfold lM;simp
theorem pB{n:Int}{e:T3}(h:e∈lM n):e.a=n:=by
 unfold lM at h;simp only [bb,bG,or_false] at h;rcases h with rfl | rfl | rfl | rfl <;> rfl
theorem Dm.ok{f:T3->T3}{n:Int}{ns:List Int}(d:Dm f (n :: ns))(w:Bool):Ok f (js n w) :=
 ⟨d.iv,(kB n w).nodup_iff.mpr (wJ n),fun e he=>d.dm n (by simp) e ((kB n w).mem_iff.mp he)⟩
theorem Dm.XH{f:T3->T3}{n m:Int}{ns:List Int}(d:Dm f (n :: m :: ns))(w v:Bool):Ok f (js n w++js m v):=by
 have Yp:n≠m:=fun z=>(List.nodup_cons.mp d.nd).1 (by rw [z]; exact cA);refine⟨d.iv,?_,fun e he=>?_⟩
 ·rw [qC,cy];refine⟨(kB n w).nodup_iff.mpr (wJ n),(kB m v).nodup_iff.mpr (wJ m),fun a ha b hb z=>?_⟩;have h1:=pB ((kB n w).mem_iff.mp ha);have h2:=pB ((kB m v).mem_iff.mp hb);rw [z] at h1;exact Yp (h1.symm.trans h2)
 ·rw [qC,Il] at he;rcases he with he | he
  ·exact d.dm n (by simp) e ((kB n w).mem_iff.mp he)
  ·exact d.dm m (by simp) e ((kB m v).mem_iff.mp he)
theorem LJ{f:T3->T3}:∀ {ps:Pr T3},Ok f ps->∀ {e:T3},mV f ps e=e->e∈es ps\/f e=e:=by
 intro ps;induction ps generalizing f with
 | nil=>intro o e h; exact .inr h
 | cons p ps ih =>
  intro o e h;rcases ih o.tl h with z | z
  ·exact .inl (by simp [es,z])
  ·rcases Ql o.iv o.hd.1 z with z | z | z
   ·exact .inl (by simp [es,z])
   ·exact .inl (by simp [es,z])
   ·exact .inr z
theorem Qk{f:T3->T3}:∀ {ps:Pr T3},Ok f ps->Iv (mV f ps):=by
 intro ps;induction ps generalizing f with
 | nil=>intro o; exact o.iv
 | cons p ps ih=>intro o; exact ih o.tl
theorem Dm.step{f:T3->T3}{n:Int}{ns:List Int}(d:Dm f (n :: ns))(w:Bool):Dm (mV f (js n w)) ns:=by
 have nn:=List.nodup_cons.mp d.nd;refine⟨Qk (d.ok w),nn.2,fun m hm e he z=>?_⟩;rcases LJ (d.ok w) z with z | z
 ·have h1:=pB ((kB n w).mem_iff.mp z);have h2:=pB he;exact nn.1 (by rw [<-h1,h2]; exact hm)
 ·exact d.dm m (aJ _ hm) e he z
theorem Ud{f:T3->T3}{p q:Int×Int}{ps:List (Int×Int)}(d:Dm f (p.1 :: q.1 :: ps.map (·.1)))(g:Fn):Br f (p :: q :: ps) g=Br f (q :: p :: ps) g:=by
 have key:∀ (w v:Bool),mV (mV f (js p.1 w)) (js q.1 v)=mV (mV f (js q.1 v)) (js p.1 w)/\cls (mV f (js p.1 w)) (js q.1 v)+cls f (js p.1 w)=cls (mV f (js q.1 v)) (js p.1 w)+cls f (js q.1 v):=fun w v=>by
  obtain⟨a,b⟩:=Qj (oS) (d.XH w v);rw [u7,u7] at a;rw [rz,rz] at b;exact⟨a,by lia⟩
 have kk:∀ (w v:Bool) (x y:Int),Br (mV (mV f (js p.1 w)) (js q.1 v)) ps (kL (cls (mV f (js p.1 w)) (js q.1 v)) (sh x (kL (cls f (js p.1 w)) (sh y g))))=Br (mV (mV f (js q.1 v)) (js p.1 w)) ps (kL (cls (mV f (js q.1 v)) (js p.1 w)) (sh y (kL (cls f (js q.1 v)) (sh x g)))):=fun w v x y=>by
  obtain⟨a,b⟩:=key w v;have z:∀ (m n:Nat) (x y:Int),kL m (sh x (kL n (sh y g)))=sh (x+y) (kL (m+n) g):=fun m n x y=>by rw [u3,u3,u3,O2,Ei]
  rw [a,z,z,b,Fd x y]
 show (Br _ ps _+Br _ ps _)+(Br _ ps _+Br _ ps _)=(Br _ ps _+Br _ ps _)+(Br _ ps _+Br _ ps _);rw [kk,kk,kk,kk];lia
theorem Mn{ps qs:List (Int×Int)}(h:ps.Perm qs):∀ {f:T3->T3},Dm f (ps.map (·.1))->∀ g,Br f ps g=Br f qs g:=by
 induction h with
 | nil=>intro f d g; rfl
 | cons x _ ih=>intro f d g; rw [Br,Br,ih (d.step false),ih (d.step true)]
 | swap x y l=>intro f d g; exact Ud d g
 | trans h1 h2 i1 i2=>intro f d g; rw [i1 d,i2 (d.perm (h1.map _))]
end J
end K2
end
section
set_option maxHeartbeats 1000000
namespace K2
namespace J
abbrev Pn:=List (Nat×Nat)
section
variable {α:Type} [DecidableEq α] (v:Nat->α)
abbrev mp(ps:Pn):Pr α:=ps.map fun p=>(v p.1,v p.2)
variable {v}
end
end J
end K2
end
section
set_option maxHeartbeats 1000000
end
section
set_option maxHeartbeats 1000000
namespace K2
namespace J
def vv(nm:Nat->Int)(i:Nat):T3:=⟨nm (i / 4),((i / 2 % 2:Nat):Int),((i % 2:Nat):Int)⟩
def jN(i:Nat)(w:Bool):Pn:=if w=false then [(4 * i,4 * i+3),(4 * i+2,4 * i+1)] else [(4 * i,4 * i+2),(4 * i+1,4 * i+3)]
theorem xJ{α β:Type}{v:α->β}:∀ {l:List α},l.Nodup->(∀ i∈l,∀ j∈l,v i=v j->i=j)->(l.map v).Nodup
 | [],_,_=>cq
 | a :: l,h,hi=>by
  rw [aY] at h;rw [ak,aY];refine⟨fun z=>?_,xJ h.2 fun i Ts j hj=>hi i (aJ _ Ts) j (aJ _ hj)⟩;obtain⟨b,hb,e⟩:=List.mem_map.mp z;have:=hi a (by simp) b (aJ _ hb) e.symm;exact h.1 (this ▸ hb)
end J
end K2
end
section
set_option maxHeartbeats 1000000
namespace K2
namespace J
def pt:Pr T3->T3->T3
 | [],e=>e
 | p :: r,e=>if e=p.1 then p.2 else if e=p.2 then p.1 else pt r e
theorem tT{P:Pr T3}{e:T3}(h:e∉es P):pt P e=e:=by
 induction P with
 | nil=>rfl
 | cons p r ih =>
  rw [es,bb,bb,not_or,not_or] at h;rw [pt,if_neg h.1,if_neg h.2.1,ih h.2.2]
theorem pX{P:Pr T3}(nd:(es P).Nodup){p:T3×T3}(h:p∈P):pt P p.1=p.2/\pt P p.2=p.1:=by
 induction P with
 | nil=>cases h
 | cons q r ih =>
  rw [es,aY,aY,bb,not_or] at nd;rcases List.mem_cons.mp h with rfl | h
  ·refine⟨by rw [pt,if_pos rfl],?_⟩;rw [pt,if_neg (fun z=>nd.1.1 z.symm),if_pos rfl]
  ·obtain⟨a,b⟩:=ih nd.2.2 h;have m1:p.1∈es r:=pY.mpr ⟨p,h,.inl rfl⟩;have m2:p.2∈es r:=pY.mpr ⟨p,h,.inr rfl⟩;have ne:∀ e∈es r,e≠q.1/\e≠q.2:=fun e he=>⟨fun z=>nd.1.2 (z ▸ he),fun z=>nd.2.1 (z ▸ he)⟩;exact⟨by rw [pt,if_neg (ne _ m1).1,if_neg (ne _ m1).2,a],by rw [pt,if_neg (ne _ m2).1,if_neg (ne _ m2).2,b]⟩
theorem Us{P:Pr T3}(nd:(es P).Nodup){f:T3->T3}(h1:∀ p∈P,f p.1=p.2/\f p.2=p.1)(h2:∀ e,e∉es P->f e=e):pt P=f:=by
 funext e;by_cases he:e∈es P
 ·obtain⟨p,hp,z⟩:=pY.mp he;rcases z with rfl | rfl
  ·rw [(pX nd hp).1,(h1 p hp).1]
  ·rw [(pX nd hp).2,(h1 p hp).2]
 ·rw [tT he,h2 e he]
theorem SK{P P':Pr T3}(h:P.Perm P')(nd:(es P).Nodup):pt P=pt P':=by
 refine Us nd (fun p hp=>pX ((wG h).nodup_iff.mp nd) (h.mem_iff.mp hp)) fun e he=>tT fun z=>he ((wG h).mem_iff.mpr z)
theorem Ph{P:Pr T3}(nd:(es P).Nodup):Iv (pt P):=by
 intro e;by_cases he:e∈es P
 ·obtain⟨p,hp,z⟩:=pY.mp he;rcases z with rfl | rfl
  ·rw [(pX nd hp).1,(pX nd hp).2]
  ·rw [(pX nd hp).2,(pX nd hp).1]
 ·rw [tT he,tT he]
theorem Ut{P:Pr T3}(nd:(es P).Nodup){p:T3×T3}(h:p∈P):p.1≠p.2:=by
 induction P with
 | nil=>cases h
 | cons q r ih =>
  rw [es,aY,aY,bb,not_or] at nd;rcases List.mem_cons.mp h with rfl | h
  ·exact nd.1.1
  ·exact ih nd.2.2 h
theorem uV{P:Pr T3}(nd:(es P).Nodup){e:T3}:pt P e≠e↔e∈es P:=by
 refine⟨fun h=>ip fun z=>h (tT z),fun he=>?_⟩;obtain⟨p,hp,z⟩:=pY.mp he;rcases z with rfl | rfl
 ·rw [(pX nd hp).1]; exact(Ut nd hp).symm
 ·rw [(pX nd hp).2]; exact Ut nd hp
theorem VA{P:Pr T3}(nd:(es P).Nodup)(h:∀ e,pt P e=e):P=[]:=by
 cases P with
 | nil=>rfl
 | cons p r=>exact absurd (h p.1) (uV nd |>.mpr (by simp [es]))
structure Mk(l:List (T3×T3))(f:T3->T3):Prop where
 nd:(l.map (·.1)).Nodup
 at':∀ e,bH l e=if f e=e then none else some (f e)
theorem tL{κ β:Type} [DecidableEq κ]{l:List (κ×β)}{k j:κ}:bH (l.filter fun p=>decide (p.1≠k)) j=if j=k then none else bH l j:=by
 induction l with
 | nil=>simp [bH]
 | cons p r ih =>
  unfold bH at *;rw [bD];by_cases h:p.1=k
  ·rw [if_neg (by simp [h]),ih];by_cases hj:j=k
   ·rw [if_pos hj,if_pos hj]
   ·rw [if_neg hj,if_neg hj,cC (by simp [h]; exact fun z=>hj z.symm)]
  ·rw [if_pos (by simp [h])];by_cases Ym:p.1=j
   ·rw [cB (by simp [Ym]),cB (by simp [Ym]),if_neg (fun z=>h (Ym.trans z))]
   ·rw [cC (by simp [Ym]),cC (by simp [Ym]),ih]
def EG(l:List (T3×T3))(k:T3):List (T3×T3):=l.filter fun p=>decide (p.1≠k)
theorem rC{κ β:Type} [DecidableEq κ]{l:List (κ×β)}{k:κ}{v:β}(h:(l.map (·.1)).Nodup):((df l k v).map (·.1)).Nodup:=by
 unfold df;split
 ·rw [bh];have:(l.map ((fun x:κ×β=>x.1)∘fun p=>if p.1=k then (p.1,v) else p))=l.map (·.1):=by
   refine dB fun p _=>?_;show (if p.1=k then (p.1,v) else p).1=p.1;split <;> rfl
  rw [this]; exact h
 ·rename_i hk;rw [aL,cy];refine⟨h,by simp,fun a ha b hb z=>?_⟩;rw [rW,bS] at hb;obtain⟨p,hp,e⟩:=List.mem_map.mp ha;exact hk (List.any_eq_true.mpr ⟨p,hp,by simp; rw [e,z,hb]⟩)
theorem Mk.join{l:List (T3×T3)}{f:T3->T3}(h:Mk l f)(iv:Iv f){x y:T3}(xy:x≠y)(hx:f x≠x)(hy:f y≠y) :
  bH l x=some (f x)/\bH (EG l x) y=some (f y)/\(f x=y->Mk (EG (EG l x) y) (jn f x y))/\(f x≠y->Mk (df (df (EG (EG l x) y) (f x) (f y)) (f y) (f x)) (jn f x y)):=by
 have a1:bH l x=some (f x):=by rw [h.at',if_neg hx]
 have a2:bH (EG l x) y=some (f y):=by unfold EG; rw [tL,if_neg (fun z=>xy z.symm),h.at',if_neg hy]
 have nd2:((EG (EG l x) y).map (·.1)).Nodup:=oW (mT _ (List.filter_sublist.trans lK)) h.nd;have d2:∀ e,bH (EG (EG l x) y) e=if e=x\/e=y then none else if f e=e then none else some (f e):=fun e=>by
  unfold EG;rw [tL,tL,h.at']
  grind
 have ix:=iv x;have iy:=iv y;refine⟨a1,a2,fun e=>⟨nd2,fun z=>?_⟩,fun e=>⟨rC (rC nd2),fun z=>?_⟩⟩
 ·have iz:=iv z;rw [d2];unfold jn
  grind (splits:=30)
 ·have iz:=iv z;rw [md,md,d2];unfold jn
  grind (splits:=30)
end J
end K2
end
section
set_option maxHeartbeats 1000000
namespace K2
open Enc (enc)
instance {α β:Type} [DecidableEq α] [Enc α] [bo α] [DecidableEq β] [Enc β] [bo β]:bo (α×β) where
 lt:=fun x y=>if x.1=y.1 then bo.lt x.2 y.2 else bo.lt x.1 y.1
 BV:=.tup [bo.BV α,bo.BV β]
 Er:=fun x=>by
  show (cZ _ (enc x.1)&&(cZ _ (enc x.2)&&true))=true;rw [bo.Er,bo.Er]; rfl
 Tf:=fun x y=>by
  show nR [enc x.1,enc x.2] [enc y.1,enc y.2]=_;rw [oI,oI,Enc.eqv,Enc.eqv,bo.Tf,bo.Tf,show nR [] []=false from rfl];by_cases h:x.1=y.1
  ·simp only [h,decide_true,if_true];by_cases h2:x.2=y.2
   ·simp only [h2,decide_true,if_true]; exact(bo.JS _).symm
   ·simp only [h2,decide_false,ay,if_false]
  ·simp only [h,decide_false,ay,if_false]
 JS:=fun x=>by simp only [if_true]; exact bo.JS _
 trans:=fun x y z h1 h2=>by
  by_cases e1:x.1=y.1
  ·rw [if_pos e1] at h1;by_cases e2:y.1=z.1
   ·rw [if_pos e2] at h2;rw [if_pos (e1.trans e2)];exact bo.trans _ _ _ h1 h2
   ·rw [if_neg e2] at h2;rw [if_neg (fun q=>e2 (e1.symm.trans q)),e1]; exact h2
  ·rw [if_neg e1] at h1;by_cases e2:y.1=z.1
   ·rw [if_neg (fun q=>e1 (q.trans e2.symm)),<-e2]; exact h1
   ·rw [if_neg e2] at h2;have h3:=bo.trans _ _ _ h1 h2;rw [if_neg (fun q=>by rw [q,bo.JS] at h3; cases h3)]; exact h3
 pg:=fun x y h1 h2=>by
  by_cases e1:x.1=y.1
  ·rw [if_pos e1] at h1;rw [if_pos e1.symm] at h2;exact Prod.ext e1 (bo.pg _ _ h1 h2)
  ·rw [if_neg e1] at h1;rw [if_neg (fun q=>e1 q.symm)] at h2;exact absurd (bo.pg _ _ h1 h2) e1
namespace J
def MU(l:List (T3×T3)):Pr T3:=K6 (l.filter fun p=>bo.lt p.1 p.2)
theorem AV{κ β:Type} [DecidableEq κ]:∀ {l:List (κ×β)},(l.map (·.1)).Nodup->∀ {p:κ×β},p∈l->bH l p.1=some p.2
 | [],_,_,h=>by cases h
 | q :: l,nd,p,h=>by
  rw [ak,aY] at nd;unfold bH;rcases List.mem_cons.mp h with rfl | h
  ·rw [cB (by simp)]; rfl
  ·have:¬ q.1=p.1:=fun z=>nd.1 (by rw [z]; exact bA h);rw [cC (by simpa using this)];exact AV nd.2 h
theorem w4{κ β:Type} [DecidableEq κ]{l:List (κ×β)}{k:κ}{v:β}(h:bH l k=some v):(k,v)∈l:=by
 unfold bH at h;obtain⟨p,h1,h2⟩:=Option.map_eq_some_iff.mp h;have h3:=qH h1;have h4:=fW h1;simp at h3;rw [<-h3,<-h2]; exact h4
theorem Mk.mem{l:List (T3×T3)}{f:T3->T3}(h:Mk l f){p:T3×T3}(hp:p∈l):f p.1=p.2/\f p.1≠p.1:=by
 have a:=AV h.nd hp;rw [h.at'] at a;split at a
 ·cases a
 ·rename_i z; exact⟨ba a,z⟩
theorem Th{α:Type} [DecidableEq α] [Enc α] [bo α]{a b:α}(h1:bo.lt a b=true)(h2:bo.lt b a=true):False:=by
 have:=bo.trans _ _ _ h1 h2;rw [bo.JS] at this; cases this
theorem LY{f:T3->T3}(iv:Iv f):∀ {l:List (T3×T3)},(l.map (·.1)).Nodup->(∀ p∈l,f p.1=p.2)->(es (l.filter fun p=>bo.lt p.1 p.2)).Nodup
 | [],_,_=>cq
 | p :: l,nd,h=>by
  rw [ak,aY] at nd;have ih:=LY iv nd.2 fun q hq=>h q (aJ _ hq);rw [bD];split
  ·rename_i hl;have fp:=h p (by simp);rw [es,aY,aY,bb,not_or];have out:∀ q∈l.filter (fun p=>bo.lt p.1 p.2),p.1≠q.1/\p.1≠q.2/\p.2≠q.1/\p.2≠q.2:=fun q hq=>by
    have UM:=List.mem_filter.mp hq;have fq:=h q (aJ _ UM.1);have n1:p.1≠q.1:=fun z=>nd.1 (by rw [z]; exact bA UM.1);have n2:p.1=q.2->p.2=q.1:=fun z=>by rw [<-fp,z,<-fq,iv]
    have n3:p.2=q.1->p.1=q.2:=fun z=>by rw [<-fq,<-z,<-fp,iv]
    have UZ:¬ (p.1=q.2/\p.2=q.1):=fun ⟨a,b⟩=>Th hl (by rw [a,b]; exact UM.2);refine⟨n1,fun z=>UZ ⟨z,n2 z⟩,fun z=>UZ ⟨n3 z,z⟩,fun z=>n1 ?_⟩;have:=congrArg f z;rw [<-fp,<-fq,iv,iv] at this;exact this
   have ne:p.1≠p.2:=fun z=>by rw [z,bo.JS] at hl; cases hl
   refine⟨⟨ne,fun z=>?_⟩,fun z=>?_,ih⟩
   ·obtain⟨q,hq,e⟩:=pY.mp z;rcases e with e | e
    ·exact(out q hq).1 e
    ·exact(out q hq).2.1 e
   ·obtain⟨q,hq,e⟩:=pY.mp z;rcases e with e | e
    ·exact(out q hq).2.2.1 e
    ·exact(out q hq).2.2.2 e
  ·exact ih
theorem Lj{l:List (T3×T3)}{f:T3->T3}(h:Mk l f)(iv:Iv f):(es (MU l)).Nodup/\pt (MU l)=f:=by
 have sp:=jm (l.filter fun p=>bo.lt p.1 p.2);have nd0:=LY iv h.nd fun p hp=>(h.mem hp).1;have nd:(es (MU l)).Nodup:=(wG sp).nodup_iff.mpr nd0;refine⟨nd,Us nd (fun p hp=>?_) fun e he=>?_⟩
 ·have xP:=(List.mem_filter.mp (sp.mem_iff.mp hp)).1;have:=(h.mem xP).1;exact⟨this,by rw [<-this,iv]⟩
 ·refine ip fun z=>he ?_;have a1:bH l e=some (f e):=by rw [h.at',if_neg z]
  have z2:f (f e)≠f e:=fun q=>z (by rw [iv] at q; exact q.symm);have a2:bH l (f e)=some e:=by rw [h.at',if_neg z2,iv]
  have m1:=w4 a1;have m2:=w4 a2;rw [pY];by_cases hl:bo.lt e (f e)=true
  ·exact⟨(e,f e),sp.mem_iff.mpr (List.mem_filter.mpr ⟨m1,hl⟩),.inl rfl⟩
  ·by_cases rh:bo.lt (f e) e=true
   ·exact⟨(f e,e),sp.mem_iff.mpr (List.mem_filter.mpr ⟨m2,rh⟩),.inr rfl⟩
   ·exact absurd (bo.pg _ _ (by simpa using rh) (by simpa using hl)) z
def Ka(P:Pr T3):List (T3×T3):=P.foldl (fun l p=>df (df l p.1 p.2) p.2 p.1) []
theorem LX:∀ {P:Pr T3},(es P).Nodup->Mk (Ka P) (pt P):=by
 have main:∀ (P:Pr T3) (l:List (T3×T3)) (f:T3->T3),Mk l f->(es P).Nodup->(∀ e∈es P,f e=e)->Mk (P.foldl (fun l p=>df (df l p.1 p.2) p.2 p.1) l) (fun e=>if e∈es P then pt P e else f e):=by
  intro P;induction P with
  | nil =>
   intro l f h _ _;have:(fun e=>if e∈es ([]:Pr T3) then pt [] e else f e)=f:=by funext e; simp [es]
   rw [this]; exact h
  | cons p P ih =>
   intro l f h nd hf;rw [es,aY,aY,bb,not_or] at nd;have f1:f p.1=p.1:=hf _ (by simp [es]);have f2:f p.2=p.2:=hf _ (by simp [es]);have h2:Mk (df (df l p.1 p.2) p.2 p.1) (fun e=>if e=p.1 then p.2 else if e=p.2 then p.1 else f e):=by
    refine⟨rC (rC h.nd),fun e=>?_⟩;rw [md,md,h.at'];have:=nd.1.1
    grind
   have:=ih _ _ h2 nd.2.2 fun e he=>by
    have m1:e≠p.1:=fun z=>nd.1.2 (z ▸ he);have m2:e≠p.2:=fun z=>nd.2.1 (z ▸ he);simp only [if_neg m1,if_neg m2];exact hf e (by simp [es,he])
   rw [bU];have e2:(fun e=>if e∈es (p :: P) then pt (p :: P) e else f e)=fun e=>if e∈es P then pt P e else if e=p.1 then p.2 else if e=p.2 then p.1 else f e:=by
    funext e;rw [es,pt];by_cases he:e∈es P
    ·have m1:e≠p.1:=fun z=>nd.1.2 (z ▸ he);have m2:e≠p.2:=fun z=>nd.2.1 (z ▸ he);rw [if_pos (by simp [he]),if_neg m1,if_neg m2,if_pos he]
    ·rw [if_neg he];by_cases m1:e=p.1
     ·rw [if_pos (by simp [m1]),if_pos m1,if_pos m1]
     ·by_cases m2:e=p.2
      ·rw [if_pos (by simp [m2]),if_neg m1,if_pos m2,if_neg m1,if_pos m2]
      ·rw [if_neg (by simp [m1,m2,he]),if_neg m1,if_neg m2]
   rw [e2]; exact this
 intro P nd;have:=main P [] (fun e=>e) ⟨cq,fun e=>by simp [bH]⟩ nd (fun _ _=>rfl);have e2:(fun e=>if e∈es P then pt P e else e)=pt P:=by
  funext e;by_cases he:e∈es P
  ·rw [if_pos he]
  ·rw [if_neg he,tT he]
 rw [e2] at this; exact this
theorem LW(P:Pr T3):(Ka P).length<=2 * P.length:=by
 have:∀ (P:Pr T3) (l:List (T3×T3)),(P.foldl (fun l p=>df (df l p.1 p.2) p.2 p.1) l).length<=l.length+2 * P.length:=by
  intro P;induction P with
  | nil=>intro l; simp
  | cons p P ih =>
   intro l;have h1:=ih (df (df l p.1 p.2) p.2 p.1);have h2:=oO (df l p.1 p.2) p.2 p.1;have h3:=oO l p.1 p.2;rw [bU,ai]; lia
 have:=this P [];simpa [Ka] using this
end J
end K2
end
section
set_option maxHeartbeats 1000000
namespace K2
open Enc (enc)
namespace J
open Y (Po L ND NZ fY vX jY jw cN)
def pW(P:Pr T3):PK:=P.map fun p=>[p.1.l,p.2.l]
def abV:List (List Int)->T3×T3
 | [[a,b,c],[x,y,z]]=>(⟨a,b,c⟩,⟨x,y,z⟩)
 | _=>(⟨0,0,0⟩,⟨0,0,0⟩)
def dec(k:PK):Pr T3:=k.map abV
theorem Kh(P:Pr T3):dec (pW P)=P:=by
 unfold dec pW;rw [bh]
 conv=>rhs; rw [<-lI P]
 rfl
theorem Pt(P:Pr T3):rJ (pW P)=.tup (P.map enc):=by
 unfold rJ pW;rw [bh];rfl
abbrev Su:=List (PK×Po)
def iR(S:Su):List (PK×D):=S.map fun p=>(p.1,D.iL (aT p.2))
theorem xN(S:Su)(k:PK):qx (iR S) k=(bH S k).map fun l=>D.iL (aT l):=by
 unfold qx bH iR;rw [List.find?_map,Option.map_map,Option.map_map];rfl
theorem Pg(S:Su)(k:PK)(l:Po):Az (iR S) k (.iL (aT l))=iR (df S k l):=by
 unfold Az df iR;rw [List.any_map];split
 ·rename_i h;rw [if_pos (by simpa [zr] using h),bh,bh];refine dB fun p _=>?_;simp only [Function.comp];split <;> rfl
 ·rename_i h;rw [if_neg (by simpa [zr] using h),aL]; rfl
def pg(ns:List (Int×Int))(g:Fn):Su->Int
 | []=>0
 | p :: S=>L (fun j=>Br (pt (dec p.1)) ns (sh j g)) p.2+pg ns g S
theorem KZ(ns:List (Int×Int))(g:Fn)(S S':Su):pg ns g (S++S')=pg ns g S+pg ns g S':=by
 induction S with
 | nil=>simp [pg]
 | cons p S ih=>rw [aE,pg,pg,ih]; lia
theorem Sm(ns:List (Int×Int))(g:Fn)(k:PK)(l:Po):∀ {S:Su},(S.map (·.1)).Nodup->pg ns g (df S k l)=pg ns g S+(L (fun j=>Br (pt (dec k)) ns (sh j g)) l - L (fun j=>Br (pt (dec k)) ns (sh j g)) ((bH S k).getD []))
 | S,nd=>by
  unfold df;split
  ·rename_i h;have main:∀ {S:Su},(S.map (·.1)).Nodup->(S.any fun p=>decide (p.1=k))=true->pg ns g (S.map fun p=>if p.1=k then (p.1,l) else p)=pg ns g S+(L (fun j=>Br (pt (dec k)) ns (sh j g)) l - L (fun j=>Br (pt (dec k)) ns (sh j g)) ((bH S k).getD [])):=by
    intro S;induction S with
    | nil=>intro _ h; cases h
    | cons p S ih =>
     intro nd h;rw [ak,aY] at nd;rw [ak,pg,pg];by_cases e:p.1=k
     ·have e2:(S.map fun p=>if p.1=k then (p.1,l) else p)=S:=by
       conv=>rhs; rw [<-lI S]
       refine dB fun q hq=>?_;rw [if_neg]; rfl;intro z; exact nd.1 (by rw [e,<-z]; exact bA hq)
      have e3:bH (p :: S) k=some p.2:=by unfold bH; rw [cB (by simpa using e)]; rfl
      rw [e2,e3,if_pos e,e];simp only [uj];lia
     ·have e3:bH (p :: S) k=bH S k:=by unfold bH; rw [cC (by simpa using e)]
      rw [e3,if_neg e,ih nd.2 (by simpa [e] using h)];lia
   exact main nd h
  ·rename_i h;rw [KZ];have e3:bH S k=none:=by
    unfold bH;have:S.find? (fun p=>decide (p.1=k))=none:=by
     rw [fE];intro p hp z;exact h (List.any_eq_true.mpr ⟨p,hp,z⟩)
    rw [this]; rfl
   rw [e3];show pg ns g S+(L _ l+0)=_;simp only [CA,L];lia
def LP:Po:=[(2,-1),(-2,-1)]
theorem ab9(g:Fn)(i:Int):L (fun j=>g (i+j)) LP=lp g i:=by
 show -1 * g (i+2)+(-1 * g (i+-2)+0)=-(g (i+2)) - g (i - 2);rw [show i+-2=i - 2 by lia]; lia
theorem P4(n:Nat)(g:Fn):kL n (lp g)=lp (kL n g):=by
 induction n with
 | zero=>rfl
 | succ n ih=>rw [kL,kL,ih]
theorem rD:∀ (n:Nat) (g:Fn),L g (cN LP n)=kL n g 0
 | 0,g=>by show 1 * g 0+0=g 0; lia
 | n+1,g=>by
  show L g (jY (cN LP n) LP)=_;rw [Y.Ie];have:(fun i=>L (fun j=>g (i+j)) LP)=lp g:=by funext i; exact ab9 g i
  rw [this,rD n,P4]; rfl
theorem JL(f:T3->T3)(ns:List (Int×Int))(g:Fn):∀ (n:Nat) (b:Int),kL n (fun t=>Br f ns (sh (t+b) g))=fun t=>Br f ns (sh (t+b) (kL n g))
 | 0,b=>rfl
 | n+1,b=>by
  rw [kL,JL f ns g n b];funext t;show -(Br f ns (sh (t+2+b) (kL n g))) - Br f ns (sh (t - 2+b) (kL n g))=Br f ns (sh (t+b) (lp (kL n g)));have e:sh (t+b) (lp (kL n g))=pl (sc (-1) (sh (t+2+b) (kL n g))) (sc (-1) (sh (t - 2+b) (kL n g))):=by
   funext i;show -(kL n g (i+(t+b)+2)) - kL n g (i+(t+b) - 2)=-1 * kL n g (i+(t+2+b))+-1 * kL n g (i+(t - 2+b));rw [show i+(t+b)+2=i+(t+2+b) by lia,show i+(t+b) - 2=i+(t - 2+b) by lia];lia
  rw [e,RM,Mm,Mm]; lia
def SO(l:Po)(c:Nat)(b:Int):Po:=jw (jY l (cN LP c)) b 1
theorem Zc(f:T3->T3)(ns:List (Int×Int))(g:Fn)(l:Po)(c:Nat)(b:Int):L (fun j=>Br f ns (sh j g)) (SO l c b)=L (fun j=>Br f ns (kL c (sh b (sh j g)))) l:=by
 unfold SO;rw [Y.Ig,Y.Ie,Int.one_mul];congr 1;funext i;rw [rD];have:(fun j=>Br f ns (sh (i+j+b) g))=fun t=>Br f ns (sh (t+(i+b)) g):=by
  funext t; rw [show i+t+b=t+(i+b) by lia]
 rw [this,JL];show Br f ns (sh (0+(i+b)) (kL c g))=_;rw [Se,u3,u3,O2,Fd i b]
theorem S9(l:Po)(c:Nat)(b:Int):fY (SO l c b)<=fY l * 2 ^ c:=by
 unfold SO jw;refine aU (Y.xI _) ?_;have e:∀ m:Po,fY (m.map fun p=>(p.1+b,p.2 * 1))=fY m:=by
  intro m;induction m with
  | nil=>rfl
  | cons p m ih=>rw [ak,fY,fY,ih]; simp
 rw [e];exact aU (Y.uY _ _) (Nat.mul_le_mul_left _ (Y.oG LP c))
def uD(A:Su)(k':PK)(l:Po)(c:Nat)(b:Int):Su:=df A k' (vX ((bH A k').getD []) (SO l c b))
def NX(S:Su):Prop:=(S.map (·.1)).Nodup/\∀ p∈S,ND p.2/\NZ p.2
theorem NX.get{S:Su}(h:NX S)(k:PK):ND ((bH S k).getD [])/\NZ ((bH S k).getD []):=by
 cases e:bH S k with
 | none=>exact⟨Y.ND.nil,fun p hp=>by cases hp⟩
 | some l=>exact h.2 _ (w4 e)
theorem NX.put{S:Su}(h:NX S){k:PK}{l:Po}(h1:ND l)(h2:NZ l):NX (df S k l):=by
 refine⟨rC h.1,fun p hp=>?_⟩;unfold df at hp;split at hp
 ·obtain⟨q,hq,rfl⟩:=List.mem_map.mp hp;split
  ·exact⟨h1,h2⟩
  ·exact h.2 q hq
 ·rcases List.mem_append.mp hp with hp | hp
  ·exact h.2 p hp
  ·rw [bS] at hp; subst hp; exact⟨h1,h2⟩
theorem OW{A:Su}(h:NX A)(k':PK)(l:Po)(c:Nat)(b:Int):NX (uD A k' l c b):=h.put (Y.Ls (h.get k').1) (Y.AK _)
theorem OU{A:Su}(h:NX A)(ns:List (Int×Int))(g:Fn)(k':PK)(l:Po)(c:Nat)(b:Int):pg ns g (uD A k' l c b)=pg ns g A+L (fun j=>Br (pt (dec k')) ns (kL c (sh b (sh j g)))) l:=by
 unfold uD;rw [Sm ns g k' _ h.1,Y.RD _ (h.get k').1,Zc];lia
def iI:Su->Nat
 | []=>0
 | p :: S=>fY p.2+iI S
theorem AQ(S S':Su):iI (S++S')=iI S+iI S':=by
 induction S with
 | nil=>simp [iI]
 | cons p S ih=>rw [aE,iI,iI,ih]; lia
theorem PN(k:PK)(l:Po):∀ {S:Su},(S.map (·.1)).Nodup->iI (df S k l)+fY ((bH S k).getD [])<=iI S+fY l
 | S,nd=>by
  unfold df;split
  ·rename_i h;have main:∀ {S:Su},(S.map (·.1)).Nodup->(S.any fun p=>decide (p.1=k))=true->iI (S.map fun p=>if p.1=k then (p.1,l) else p)+fY ((bH S k).getD [])<=iI S+fY l:=by
    intro S;induction S with
    | nil=>intro _ h; cases h
    | cons p S ih =>
     intro nd h;rw [ak,aY] at nd;rw [ak,iI,iI];by_cases e:p.1=k
     ·have e2:(S.map fun p=>if p.1=k then (p.1,l) else p)=S:=by
       conv=>rhs; rw [<-lI S]
       refine dB fun q hq=>?_;rw [if_neg]; rfl;intro z; exact nd.1 (by rw [e,<-z]; exact bA hq)
      have e3:bH (p :: S) k=some p.2:=by unfold bH; rw [cB (by simpa using e)]; rfl
      rw [e2,e3,if_pos e];simp only [uj];lia
     ·have e3:bH (p :: S) k=bH S k:=by unfold bH; rw [cC (by simpa using e)]
      have:=ih nd.2 (by simpa [e] using h);rw [e3,if_neg e];lia
   exact main nd h
  ·rename_i h;rw [AQ];have e3:bH S k=none:=by
    unfold bH;have:S.find? (fun p=>decide (p.1=k))=none:=by
     rw [fE];intro p hp z;exact h (List.any_eq_true.mpr ⟨p,hp,z⟩)
    rw [this]; rfl
   rw [e3];show iI S+(fY l+0)+0<=_;lia
theorem OV{A:Su}(h:NX A)(k':PK)(l:Po){c:Nat}(hc:c<=2)(b:Int):iI (uD A k' l c b)<=iI A+4 * fY l:=by
 unfold uD;have h1:=PN k' (vX ((bH A k').getD []) (SO l c b)) h.1;have h2:=Y.PM (h.get k').1 (SO l c b);have h3:=S9 l c b;have h4:fY l * 2 ^ c<=fY l * 4:=Nat.mul_le_mul_left _ (show 2 ^ c<=2 ^ 2 from eQ (by decide) hc);lia
theorem Lx(S:Su)(k:PK):fY ((bH S k).getD [])<=iI S:=by
 induction S with
 | nil=>exact aH _
 | cons p S ih =>
  unfold bH at *;rw [iI];by_cases e:p.1=k
  ·rw [cB (by simpa using e)]; simp only [mf,uj]; lia
  ·rw [cC (by simpa using e)]; lia
theorem AO:∀ {l:Po},NZ l->l.length<=fY l
 | [],_=>aH _
 | p :: l,h=>by
  have h1:=h p (by simp);have h2:=AO (l:=l) fun q hq=>h q (aJ _ hq);rw [ai,fY]; lia
def j9(S:Su):Su:=S.filter fun p=>!p.2.isEmpty
theorem Qe(ns:List (Int×Int))(g:Fn)(S:Su):pg ns g (j9 S)=pg ns g S:=by
 unfold j9;induction S with
 | nil=>rfl
 | cons p S ih =>
  rw [bD];split
  ·rw [pg,pg,ih]
  ·rename_i h;have:p.2=[]:=by simpa using h
   rw [ih,pg,this,L,Se]
theorem GS{S:Su}(h:NX S):NX (j9 S):=⟨oW (mT _ lK) h.1,fun p hp=>h.2 p (List.mem_filter.mp hp).1⟩
theorem Qf(S:Su):iI (j9 S)<=iI S:=by
 unfold j9;induction S with
 | nil=>exact aH _
 | cons p S ih =>
  rw [bD];split
  ·rw [iI,iI]; lia
  ·rw [iI]; lia
theorem Qh{S:Su}(h:NX S):(j9 S).length<=iI S:=by
 have:∀ {S:Su},(∀ p∈S,NZ p.2)->(j9 S).length<=iI S:=by
  intro S;unfold j9;induction S with
  | nil=>intro _; exact aH _
  | cons p S ih =>
   intro h;have ih:=ih fun q hq=>h q (aJ _ hq);rw [bD,iI];split
   ·rename_i z;have h1:=AO (h p (by simp));have h2:0 < p.2.length:=by
     cases q:p.2 with
     | nil=>rw [q] at z; cases z
     | cons _ _=>simp
    rw [ai]; lia
   ·lia
 exact this fun p hp=>(h.2 p hp).2
end J
end K2
end
section
namespace K2
open PySem (Str)
open Enc (enc)
namespace JB
open K2.P K2.J
def wI(w:Bool):Int:=if w=true then 1 else 0
def i6:kC:=fun ds G Q _=>∃ (n:Int) (w:Bool),ds=[.int n,.int (wI w)]/\Q (enc (js n w)) G
def pw(h:Int)(w:Bool):Int:=if w=true then -h else h
def gw:kC:=fun ds G Q _=>∃ (h:Int) (w:Bool),ds=[.int h,.int (wI w)]/\Q (.int (pw h w)) G
theorem X1:∀ (x y:List Int),u5 (fun a b=>decide (a < b)) x y=lexLt x y
 | [],[]=>rfl
 | [],_ :: _=>rfl
 | _ :: _,[]=>rfl
 | a :: x,b :: y=>by rw [xO,X1 x y]; rfl
theorem lt3(p q:T3):lexLt p.l q.l=bo.lt p q:=(X1 _ _).symm
def Am:iq :=
 (cE (cJ (oK TV (aw (oK pC (aw (gf 1 [0] (uJ (au 0)) (aG 0) (some (jD (br Zm (au 0) (br mD (au 1) (au 0))))) (ij (aw (au 0) (aw (br mD (au 1) (au 0)) aQ)))) aQ)) aQ))))
def kH:kC:=fun ds G Q _=>∃ (l:List (T3×T3)),ds=[.iL (aT l)]/\((l.map (·.1)).Nodup/\l.length < 64)/\Q (rJ (pW (MU l))) G
theorem BE(ds:List D)(G:Gp)(Q:DK)(h:kH ds G Q fun _ _=>False):Am (fun _ _=>False) (ends Q) (bg 1 ds) G:=by
 obtain⟨l,rfl,⟨nd,hl⟩,q⟩:=h;unfold Am;simp only [cE,cJ,oK,aw,gf,uJ,au,bg,ak,aS,ai,aB,aE,aM,aa,aQ,ends];show _/\_;have ek:((aT l).map fun p=>p.1)=l.map fun p=>enc p.1:=by unfold aT; rw [bh]; rfl
 refine⟨Aa (by unfold aT; rw [ao,ao]; lia),?_⟩;rw [ek];refine iY (xs:=l) (f:=fun p=>enc p.1) (fun pre acc τ G'=>G=G'/\(∃ a,τ=[a,some (.iL (aT l))])/\acc=(pre.filter fun p=>bo.lt p.1 p.2).map enc) ⟨rfl,⟨_,rfl⟩,rfl⟩ (fun _ _ _ _ _=>trivial) ?_ ?_
 ·rintro pre x post acc τ G' N e ⟨rfl,⟨a,rfl⟩,rfl⟩ hN;have hx:bH l x.1=some x.2:=AV nd (by rw [e]; simp);simp only [aG,aj,ij,aw,au,aa,br,ae,aQ,ai,aB,tS,mF,hx,mf,eD];refine⟨iP _ _,?_⟩;show ∃ xs ys,_;refine⟨x.1.l,x.2.l,rfl,rfl,?_⟩;simp only [lt3,b9];split
  ·rename_i A9;refine⟨iP _ _,by decide,hN _ _ _ ⟨rfl,⟨_,rfl⟩,?_⟩⟩;simp only [dU,bD,A9,if_true,xf,aL]; rfl
  ·rename_i A9;refine hN _ _ _ ⟨rfl,⟨_,rfl⟩,?_⟩;simp only [dU,bD,A9,if_false,xf,cj,ay]
 ·rintro acc τ G' ⟨rfl,⟨a,rfl⟩,rfl⟩ p hp;refine oN (IsL.ref ax) (dW (eA _ _) hl) fun p2 qb=>?_;unfold TV;simp only [jA (IsL.ref ax)];rw [Pt] at q;exact wB ((fh.new hp).trans (.new qb)) q
theorem Nu{G G2:Gp}{d:D}{ds:List D}{R:List D->(Gp->Prop)->Gp->Prop}(h:itemsOf d G=some ds)(l:fh G G2)(k:∀ ok:Gp->Prop,(∀ G',fh G G'->ok G')->R ds ok G2):R0 d G2 R:=by
 cases d with
 | tup xs=>cases h; exact k _ fun _ _=>trivial
 | dN xs=>cases h; exact k _ fun _ _=>trivial
 | ref a =>
  unfold itemsOf at h;dsimp only at h;split at h
  ·rename_i xs ha;cases h;rw [En (l _ _ ha)];exact k _ fun G' le=>le _ _ ha
  ·cases h
 | _=>cases h
def yA:iq :=
 (bY (bB lD (aG 1))
 (bY (dF (ka (au 0)) (ig (cL (aG 2) (cL (aG 3) hU))) (bY (bB (au 3) (kb (au 1) (au 2)))
 (bB (au 2) (kb (au 1) (au 3)))))
 (cE (cJ (au 1)))))
def jt:kC:=fun ds G Q _=>∃ (d:D) (P:Pr T3),ds=[d]/\itemsOf d G=some (P.map enc)/\P.length<=200/\gv G (.eW (aT (Ka P))) Q
theorem QP(P:Pr T3)(p:T3×T3):Ka (P++[p])=df (df (Ka P) p.1 p.2) p.2 p.1:=by unfold Ka; rw [fy]; rfl
theorem yY(ds:List D)(G:Gp)(Q:DK)(h:jt ds G Q fun _ _=>False):yA (fun _ _=>False) (ends Q) (bg 4 ds) G:=by
 obtain⟨d,P,rfl,hi,hl,q⟩:=h;unfold yA;simp only [ends,bg,ak,aS,ai,aB,aR,aE,aM,cx,bB,lD,gv,aG,aq,aj];intro p hp;refine eG (fun τ G'=>(∃ a b,τ=[some d,some (.ref p),a,b])/\fh G G'/\G' p=some (.eW (aT (Ka P)))) ?_ ?_
 ·intro N hN;simp only [dF,dM,au,aa];refine Nu hi (.new hp) fun ok cu=>?_;refine cX (xs:=P) (fun pre τ G'=>(∃ a b,τ=[some d,some (.ref p),a,b])/\fh G G'/\G' p=some (.eW (aT (Ka pre)))) ⟨⟨_,_,rfl⟩,.new hp,ax⟩ (fun pre τ G' h=>cu G' h.2.1) ?_ ?_
  ·rintro pre x post τ G' N2 e ⟨⟨a,b,rfl⟩,le,gp⟩ lB;have hlen:=LW pre;have rh:pre.length < P.length:=by rw [e]; simp
   have e0:(enc x:D)=.tup [enc x.1,enc x.2]:=rfl;simp only [ig,e0,cL,aG,hU,aq,aj,cx,bB,au,ae,aa,kb];refine K2.P.fH (k:=x.1) (v:=x.2) gp (by lia) ?_;have acV:=oO (Ka pre) x.1 x.2;refine K2.P.fH (k:=x.2) (v:=x.1) ax (by lia) ?_;refine lB _ _ ⟨⟨_,_,rfl⟩,(le.put hp).put hp,?_⟩;rw [ax,QP]
  ·rintro τ G' ⟨⟨a,b,rfl⟩,le,gp⟩;exact hN _ _ ⟨⟨_,_,rfl⟩,le,gp⟩
 ·rintro _ G' ⟨⟨a,b,rfl⟩,le,gp⟩;simp only [cE,cJ,au,ae,aa];exact QI le hp gp (q p hp)
def RT(l:List (T2×T2)):Pr T3:=l.map fun p=>(⟨p.1.a,p.1.b,1⟩,⟨p.2.a,p.2.b,0⟩)
theorem Ww(P:Pr T3):((Ka P).map (·.1)).Nodup:=by
 have:∀ (P:Pr T3) (l:List (T3×T3)),(l.map (·.1)).Nodup->((P.foldl (fun l p=>df (df l p.1 p.2) p.2 p.1) l).map (·.1)).Nodup:=by
  intro P;induction P with
  | nil=>intro l h; exact h
  | cons p P ih=>intro l h; exact ih _ (rC (rC h))
 exact this P [] cq
def uE:iq :=
 (bY (bB (gf 2 [] (wo (bC kI (aw (au 0) aQ))) (ig (cL (aG 0) (cL (aG 1) hU))) none (ij (aw (br ic (au 0) (ij (aw (dC (.int 1)) aQ))) (aw (br ic (au 1) (ij (aw (dC (.int 0)) aQ))) aQ)))) (aG 1))
 (cE (cJ (bC kH (aw (cJ (bC jt (aw (au 1) aQ))) aQ)))))
def j4:kC:=fun ds G Q _=>∃ rows:Rows,ds=[enc rows]/\rows.flatten.length<=24/\Q (rJ (pW (MU (Ka (RT (je (pairsOf rows))))))) G
theorem uK(ds:List D)(G:Gp)(Q:DK)(h:j4 ds G Q fun _ _=>False):uE (fun _ _=>False) (ends Q) (bg 2 ds) G:=by
 obtain⟨rows,rfl,hl,q⟩:=h;have l1:=xK (pairsOf rows);have l2:=pairs_len rows;unfold uE;simp only [ends,bg,ak,aS,ai,aB,aR,aE,aM,cx,bB,gf,wo,bC,aw,au,aa,aQ,aG,cE,cJ,aq,aj,ae];refine⟨rows,rfl,by lia,?_⟩;generalize hn:je (pairsOf rows)=l at q l1;have hk:(((aT l).all fun p=>ly p.1)=true):=by
  unfold aT; rw [lO,eY]; intro p _; rfl
 refine⟨hk,?_⟩;have em:((aT l).map fun p=>D.tup [p.1,p.2])=l.map fun p=>D.tup [enc p.1,enc p.2]:=by unfold aT; rw [bh]; rfl
 rw [em];refine⟨Aa (by rw [ao]; lia),?_⟩;refine iY (xs:=l) (f:=fun p=>D.tup [enc p.1,enc p.2]) (fun pre acc τ G'=>G=G'/\(∃ a b,τ=[a,b])/\acc=(RT pre).map enc) ⟨rfl,⟨_,_,rfl⟩,rfl⟩ (fun _ _ _ _ _=>trivial) ?_ ?_
 ·rintro pre x post acc τ G' N e ⟨rfl,⟨a,b,rfl⟩,rfl⟩ hN;simp only [ig,cL,aG,hU,ij,aw,br,au,QW,aj,aq,aa,dC,aQ,ai,aB,ae,vV,aE,aM];refine⟨by decide,by simp,by decide,by decide,by simp,by decide,by decide,hN _ _ _ ⟨rfl,⟨_,_,rfl⟩,?_⟩⟩;unfold RT;rw [aL,aL]; rfl
 ·rintro acc τ G' ⟨rfl,⟨a,b,rfl⟩,rfl⟩ p hp;have lt:(RT l).length<=24:=by unfold RT; rw [ao]; lia
  refine⟨.ref p,RT l,rfl,rg (IsL.ref ax),by lia,fun p2 qb=>?_⟩;refine gu ((fh.new hp).trans (.new qb)) ((fh.new hp).free qb) ax ?_;have lf:=LW (RT l);exact⟨Ka (RT l),rfl,⟨Ww _,by lia⟩,du q⟩
end JB
namespace JB
open K2.P K2.J
open K2.Y (Po L ND NZ fY vX jY jw cN fT jo gB ju Pl)
theorem TC(l:List (T3×T3))(k:T3):((aT l).filter fun p=>!jj p.1 (enc k))=aT (EG l k):=by
 unfold aT EG;rw [List.filter_map];congr 1;refine List.filter_congr fun p _=>?_;show (!jj (enc p.1) (enc k))=_;rw [Enc.eqv]; simp
theorem Li{G:Gp}{a:Nat}{l:List (T3×T3)}{k v:T3}{Q:DK}(h:G a=some (.eW (aT l)))(e:bH l k=some v)(q:Q (enc v) (dH G a (.eW (aT (EG l k))))):GD (.ref a) [enc k] G Q:=by
 refine⟨aT l,enc v,h,⟨rfl,?_,by rw [mF,e]; rfl⟩,by rw [TC]; exact q⟩;unfold aT; rw [lO,eY]; intro p _; rfl
theorem V5{α:Type} [DecidableEq α]{f:α->α}(h:Iv f){x y e:α}(he:f e=e):jn f x y e=e:=by
 have h1:=h x;have h2:=h y;unfold jn
 grind
theorem wj{f:T3->T3}:∀ {ps:Pr T3},Ok f ps->∀ {e:T3},f e=e->mV f ps e=e:=by
 intro ps;induction ps generalizing f with
 | nil=>intro o e h; exact h
 | cons p ps ih=>intro o e h; exact ih o.tl (V5 o.iv h)
theorem sub_len'{α:Type} [DecidableEq α]:∀ (xs ys:List α),xs.Nodup->(∀ x∈xs,x∈ys)->xs.length<=ys.length
 | [],_,_,_=>cp _
 | x :: xs,ys,hn,h=>by
  rw [aY] at hn;have:=sub_len' xs (ys.erase x) hn.2 fun y hy=>(pR (show y≠x from fun z=>hn.1 (by rw [<-z]; exact hy))).mpr (h y (aJ _ hy));have hx:=h x (by simp);rw [i4 hx] at this;have:=jQ hx;rw [ai]; lia
theorem LZ{l:List (T3×T3)}{f:T3->T3}(h:Mk l f){E:List T3}(hE:∀ e,f e≠e->e∈E):l.length<=E.length:=by
 have:=sub_len' (l.map fun p:T3×T3=>p.1) E h.nd fun e he=>by
  obtain⟨p,hp,rfl⟩:=List.mem_map.mp he;exact hE _ (h.mem hp).2
 simpa using this
theorem L3(l:List (T3×T3))(k:T3):(EG l k).length<=l.length:=eA _ _
theorem HF(f:T3->T3)(ps:Pr T3)(x:T3×T3):cls f (ps++[x])=cls f ps+cl (mV f ps) x.1 x.2:=by rw [rz]; rfl
theorem GV(f:T3->T3)(ps:Pr T3)(x:T3×T3):mV f (ps++[x])=jn (mV f ps) x.1 x.2:=by rw [u7]; rfl
def sO:iq :=
 (bY (bB (bC jt (aw (au 0) aQ)) (aG 2))
 (bY (bB (dC (.int 0)) (aG 3))
 (bY (dF (ka (au 1)) (ig (cL (aG 4) (cL (aG 5) hU))) (bY (bB (r8 RS GD (au 2) (aw (au 4) aQ)) (aG 6))
 (bY (bB (r8 RS GD (au 2) (aw (au 5) aQ)) (aG 7))
 (jF (jD (br (Fg false) (au 6) (au 5))) (bB (br ic (au 3) (dC (.int 1))) (aG 3)) (bY (bB (au 7) (kb (au 2) (au 6)))
 (bB (au 6) (kb (au 2) (au 7))))))))
 (cE (cJ (ij (aw (bC kH (aw (cJ (au 2)) aQ)) (aw (au 3) aQ))))))))
def jr:kC:=fun ds G Q _=>∃ (P ps:Pr T3),ds=[rJ (pW P),enc ps]/\((es P).Nodup/\P.length<=24/\Ok (pt P) ps)/\∀ P':Pr T3,(es P').Nodup->pt P'=mV (pt P) ps->Q (.tup [rJ (pW P'),.int (cls (pt P) ps)]) G
theorem tP(ds:List D)(G:Gp)(Q:DK)(h:jr ds G Q fun _ _=>False):sO (fun _ _=>False) (ends Q) (bg 8 ds) G:=by
 obtain⟨P,ps,rfl,⟨nd,hl,ok⟩,q⟩:=h;unfold sO;simp only [↓cx,bB,bC,aw,au,bg,↓ak,↓Pt,↓aS,↓ai,↓aB,aR,↓aE,↓aM,↓aa,aQ,aG,dC,ends,↓aq,↓aj];refine⟨.tup (P.map enc),P,rfl,rfl,by lia,fun p hp=>?_⟩;simp only [↓cJ,↓bg,↓ends,↓eD,↓br,↓W8,↓au,↓oK,↓r8,↓aw,↓aQ,↓cE,↓Q5,↓jg,↓bB,↓aG,↓dC,↓fR,↓ij,↓gG,↓lD,↓wO,↓WA,↓Oi,↓uq,↓tE,↓EJ,↓wN,↓zk,↓jE,↓ft,↓dM,↓qA,↓bC,↓gf,↓dq,↓vV,↓sT,↓qt,↓sP,↓qp,↓iU,↓jK,↓vT,↓zB,↓DX,↓zC,↓DZ,↓jv,↓mC,↓tR,↓zy,↓zA,↓tG,↓Bz,↓yb,↓iM,↓kU,↓sY,↓ni,↓k7,↓qQ,↓DN,↓DM,↓true_and,↓and_true,↓nT,↓wy,↓fU,↓b9,↓oj,↓wm,↓Ek,↓A6,↓ak,↓aS,↓aE,↓aM,↓aa,↓ae,↓aj,↓aq,↓ai,↓aB,↓aR,↓if_true,↓if_false,↓bF,↓di,↓ay,↓cx,↓vJ,↓kb,↓jb,↓uJ,↓Ax,↓qr,↓Dp,↓ig,↓cL,↓hU];refine eG (fun τ G'=>∃ (l:List (T3×T3)) (a1 a2 a3 a4:Option D),τ=[some (.tup (P.map enc)),some (enc ps),some (.ref p),some (.int (cls (pt P) ps)),a1,a2,a3,a4]/\fh G G'/\G' p=some (.eW (aT l))/\Mk l (mV (pt P) ps)) ?_ ?_
 ·intro N hN;simp only [dF,↓dM,au,↓ae,↓aa];refine iQ ?_;refine cX (xs:=ps) (fun pre τ G'=>∃ (l:List (T3×T3)) (a1 a2 a3 a4:Option D),τ=[some (.tup (P.map enc)),some (enc ps),some (.ref p),some (.int (cls (pt P) pre)),a1,a2,a3,a4]/\fh G G'/\G' p=some (.eW (aT l))/\Mk l (mV (pt P) pre)) ⟨Ka P,_,_,_,_,rfl,.new hp,ax,LX nd⟩ (fun _ _ _ _=>trivial) ?_ ?_
  ·rintro pre x post τ G' N2 e ⟨l,a1,a2,a3,a4,rfl,le,gp,fa⟩ lB;have ok1:Ok (pt P) (pre++x :: post):=by rw [<-e]; exact ok
   have XH:=ok1.left;obtain⟨n1,n2,n3⟩:=XH.hd;obtain⟨f1,f2,f3,f4⟩:=fa.join XH.iv n1 n2 n3;have ll:l.length<=(es P).length:=LZ fa fun e he=>(uV nd).mp fun z=>he (wj ok1.pre z);rw [Kd] at ll;have e0:(enc x:D)=.tup [enc x.1,enc x.2]:=rfl;rw [e0];simp only [ig,cL,hU,aG,aj,aq];simp only [↓cx,bB,r8,au,↓ae,↓aa,↓qQ,↓gp,aw,aQ,aG,↓aq,↓aj,↓true_and];refine Li gp f1 ?_;simp only [↓ax,↓true_and];refine Li ax f2 ?_;simp only [jF,↓eD,br,au,↓ae,↓aa,bB,dC,↓dq,aG,↓aq,↓aj,↓cx,kb];refine⟨_,_,Enc.sn _ _ _ (by decide),Enc.sn _ _ _ (by decide),?_⟩;simp only [↓b9,↓ay,↓Enc.eqv,↓if_false];by_cases c:mV (pt P) pre x.1=x.2
   ·simp only [↓c,↓decide_true,↓if_true];refine lB _ _ ?_;have ec:((cls (pt P) pre+1:Nat):Int)=(cls (pt P) pre:Int)+1:=Int.natCast_add _ _;rw [HF,GV,cl,if_pos c,ec];exact⟨_,_,_,_,_,rfl,(le.put hp).put hp,ax,f3 c⟩
   ·simp only [↓c,↓decide_false,↓ay,↓if_false];have d1:=L3 l x.1;have d2:=L3 (EG l x.1) x.2;refine K2.P.fH (k:=mV (pt P) pre x.1) (v:=mV (pt P) pre x.2) ax (by lia) ?_;have d3:=oO (EG (EG l x.1) x.2) (mV (pt P) pre x.1) (mV (pt P) pre x.2);refine K2.P.fH (k:=mV (pt P) pre x.2) (v:=mV (pt P) pre x.1) ax (by lia) ?_;refine lB _ _ ?_;rw [HF,GV,cl,if_neg c,Fb];exact⟨_,_,_,_,_,rfl,(((le.put hp).put hp).put hp).put hp,ax,f4 c⟩
  ·rintro τ G' ⟨l,a1,a2,a3,a4,rfl,le,gp,fa⟩;exact hN _ _ ⟨l,_,_,_,_,rfl,le,gp,fa⟩
 ·rintro _ G' ⟨l,a1,a2,a3,a4,rfl,le,gp,fa⟩;have iv:Iv (mV (pt P) ps):=Qk ok;have ll:l.length<=(es P).length:=LZ fa fun e he=>(uV nd).mp fun z=>he (wj ok z);rw [Kd] at ll;obtain⟨h1,h2⟩:=Lj fa iv;simp only [cE,cJ,ij,aw,bC,au,↓ae,↓aa,aQ,↓ai,↓aB];refine gu le hp gp ?_;refine⟨l,rfl,⟨fa.nd,by lia⟩,by decide,du (q _ h1 h2)⟩
end JB
namespace JB
open K2.P K2.J
open K2.Y (Po L ND NZ fY vX jY jw cN fT jo gB ju Pl)
def Y7(ns:List Int)(k:PK):Prop:=∃ P,k=pW P/\(es P).Nodup/\∀ e,pt P e≠e↔∃ n∈ns,e∈lM n
structure R5(S:Su)(ns:List Int):Prop where
 Jz:NX S
 pl:∀ p∈S,Y7 ns p.1
def E3(ns:List Int):List T3:=ns.flatMap lM
theorem HX(ns:List Int):(E3 ns).length=4 * ns.length:=by
 induction ns with
 | nil=>rfl
 | cons n ns ih=>unfold E3 at *; rw [bO,av,ih,ai]; show 4+_=_; lia
theorem VE{ns:List Int}{P:Pr T3}(nd:(es P).Nodup)(h:∀ e,pt P e≠e↔∃ n∈ns,e∈lM n):P.length<=2 * ns.length:=by
 have:=sub_len' (es P) (E3 ns) nd fun e he=>by
  obtain⟨n,h1,h2⟩:=(h e).mp ((uV nd).mpr he);exact List.mem_flatMap.mpr ⟨n,h1,h2⟩
 rw [Kd,HX] at this; lia
theorem XA{ns:List Int}{P:Pr T3}(nd:(es P).Nodup)(hn:ns.Nodup)(h:∀ e,pt P e≠e↔∃ n∈ns,e∈lM n):Dm (pt P) ns:=⟨Ph nd,hn,fun n hn' e he=>(h e).mpr ⟨n,hn',he⟩⟩
theorem V4{f:T3->T3}:∀ {ps:Pr T3},Ok f ps->∀ {e:T3},e∈es ps->mV f ps e=e:=by
 intro ps;induction ps generalizing f with
 | nil=>intro o e h; cases h
 | cons p ps ih =>
  intro o e h;rw [es,bb,bb] at h;rcases h with rfl | rfl | h
  ·exact wj o.tl X4
  ·exact wj o.tl X3
  ·exact ih o.tl h
theorem SV{n:Int}{ns:List Int}{f:T3->T3}(d:Dm f (n :: ns))(h:∀ e,f e≠e↔∃ m∈n :: ns,e∈lM m)(w:Bool):∀ e,mV f (js n w) e≠e↔∃ m∈ns,e∈lM m:=by
 have ok:=d.ok w;have nn:=(List.nodup_cons.mp d.nd).1;intro e;constructor
 ·intro z;have h1:f e≠e:=fun y=>z (wj ok y);obtain⟨m,hm,he⟩:=(h e).mp h1;rcases List.mem_cons.mp hm with rfl | hm
  ·exact absurd (V4 ok ((kB m w).mem_iff.mpr he)) z
  ·exact⟨m,hm,he⟩
 ·rintro⟨m,hm,he⟩ z;rcases LJ ok z with z | z
  ·have h1:=pB ((kB n w).mem_iff.mp z);have h2:=pB he;exact nn (by rw [<-h1,h2]; exact hm)
  ·exact(h e).mpr ⟨m,aJ _ hm,he⟩ z
theorem U0{α:Type} [DecidableEq α](f:α->α)(x y:α):cl f x y<=1:=by unfold cl; split <;> decide
theorem Rj(f:T3->T3)(n:Int)(w:Bool):cls f (js n w)<=2:=by
 cases w <;> (show _+(_+0)<=2; have:=U0 f; have a:=fun f x y=>U0 (α:=T3) f x y; have h1:=a f; have h2:=a; grind)
theorem Mi:ND LP:=by unfold ND LP; decide
theorem yi:fY LP=2:=rfl
theorem rB{n:Nat}(h:n<=2 ^ 30):n < o3:=dW h (by unfold o3; exact Nat.pow_lt_pow_right (by decide) (by decide))
theorem vS{c:Nat}(h:c<=3):c<=1000/\∀ k,k < c->LP.length ^ k * LP.length<=SZ/\fY LP ^ k < o3:=by
 refine⟨by lia,fun k hk=>?_⟩;have:k=0\/k=1\/k=2:=by lia
 rcases this with rfl | rfl | rfl
 ·exact⟨by decide,rB (by decide)⟩
 ·exact⟨by decide,rB (by decide)⟩
 ·exact⟨by decide,rB (by decide)⟩
theorem AE{c:Nat}(h:c<=3):fY (cN LP c)<=8:=aU (Y.oG LP c) (show 2 ^ c<=2 ^ 3 from eQ (by decide) h)
theorem SU{c:Nat}(h:c<=2):(cN LP c).length<=4:=aU (Y.qT LP c) (show 2 ^ c<=2 ^ 2 from eQ (by decide) h)
theorem MA{l:Po}{G:Gp}{Q:Bool->Gp->Prop}(h:Q (!l.isEmpty) G):pe (.iL (aT l)) G Q:=by
 unfold pe FJ;dsimp only;have k:((aT l).all fun p=>dE p.1)=true:=by unfold aT; rw [lO,eY]; intro p _; rfl
 rw [if_pos k];have:(aT l).isEmpty=l.isEmpty:=by cases l <;> rfl
 rw [this]; exact h
theorem PY{G:Gp}{a:Nat}{A:Su}{k:PK}{Q:DK}(h:G a=some (.ua (iR A)))(q:Q (.iL (aT ((bH A k).getD []))) G):CS (.ref a) [rJ k,.iL []] G Q:=by
 refine⟨_,k,h,rfl,?_⟩;rw [xN];cases e:bH A k with
 | none=>rw [e] at q; exact q
 | some l=>rw [e] at q; exact q
theorem CJ{G:Gp}{a:Nat}{A:Su}{k:PK}{l:Po}{Q:Gp->Prop}(h:G a=some (.ua (iR A)))(hz:A.length < SZ)(q:Q (dH G a (.ua (iR (df A k l))))):Ji (.ref a) (rJ k) (.iL (aT l)) G Q:=by
 refine⟨_,k,h,rfl,by unfold iR; rw [ao]; exact hz,?_⟩;rw [Pg]; exact q
theorem JW{G G1:Gp}{p:Nat}{A:Su}{Q:DK}(l:fh G G1)(hp:G p=none)(h1:G1 p=some (.ua (iR A)))(q:Q (.oY (iR A)) G):Oo G1 (.ref p) Q :=
 ⟨fun a=>(G a).isNone,.oY (iR A),.ua h1 (by simp [hp]) (.same _) rfl,by rw [wM l]; exact q⟩
def term(h n:Int)(rest:List (Int×Int))(g:Fn)(f:T3->T3)(l:Po)(w:Bool):Int:=L (fun j=>Br (mV f (js n w)) rest (kL (cls f (js n w)) (sh (pw h w) (sh j g)))) l
theorem MC(h n:Int)(rest:List (Int×Int))(g:Fn)(f:T3->T3)(l:Po):term h n rest g f l false+term h n rest g f l true=L (fun j=>Br f ((n,h) :: rest) (sh j g)) l:=by
 unfold term;rw [<-Y.U4]; rfl
def z9(h n:Int)(rest:List (Int×Int))(g:Fn)(f:T3->T3)(l:Po):List Bool->Int
 | []=>0
 | w :: ws=>term h n rest g f l w+z9 h n rest g f l ws
theorem Ja(h n:Int)(rest:List (Int×Int))(g:Fn)(f:T3->T3)(l:Po)(ws:List Bool)(w:Bool):z9 h n rest g f l (ws++[w])=z9 h n rest g f l ws+term h n rest g f l w:=by
 induction ws with
 | nil=>simp [z9]
 | cons v ws ih=>rw [aE,z9,z9,ih]; lia
structure Oq(n h:Int)(rest:List (Int×Int))(pre:Su)(f:T3->T3)(l:Po)(ws:List Bool)(A:Su):Prop where
 ok:R5 A (rest.map (·.1))
 len:A.length<=2 * pre.length+ws.length
 fY:iI A<=8 * iI pre+ws.length * (4 * fY l)
 val:∀ g,pg rest g A=pg ((n,h) :: rest) g pre+z9 h n rest g f l ws
theorem Oq.step{n h:Int}{rest:List (Int×Int)}{pre:Su}{f:T3->T3}{l:Po}{ws:List Bool}{A:Su}(a:Oq n h rest pre f l ws A){P':Pr T3}{w:Bool}(nd:(es P').Nodup)(e:pt P'=mV f (js n w))(hp:∀ e,mV f (js n w) e≠e↔∃ m∈rest.map (·.1),e∈lM m) :
  Oq n h rest pre f l (ws++[w]) (uD A (pW P') l (cls f (js n w)) (pw h w)):=by
 refine⟨⟨OW a.ok.Jz _ _ _ _,fun p xP=>?_⟩,?_,?_,fun g=>?_⟩
 ·unfold uD df at xP;have here:Y7 (rest.map (·.1)) (pW P'):=⟨P',rfl,nd,fun e'=>by rw [e]; exact hp e'⟩;split at xP
  ·obtain⟨q,hq,rfl⟩:=List.mem_map.mp xP;have:=a.ok.pl q hq;split <;> exact this
  ·rcases List.mem_append.mp xP with xP | xP
   ·exact a.ok.pl p xP
   ·rw [bS] at xP; subst xP; exact here
 ·have h1:=a.len;have h2:(uD A (pW P') l (cls f (js n w)) (pw h w)).length<=A.length+1:=by unfold uD df; split <;> simp
  rw [av,cU]; lia
 ·have h1:=a.fY;have h2:=OV a.ok.Jz (pW P') l (Rj f n w) (pw h w);rw [av,cU,Nat.add_mul,Nat.one_mul]; lia
 ·rw [OU a.ok.Jz,a.val,Ja,Kh,e];unfold term;lia
end JB
namespace JB
open K2.P K2.J
open K2.Y (Po L ND NZ fY vX jY jw cN fT jo gB ju Pl)
theorem Oq.zero{n h:Int}{rest:List (Int×Int)}{f:T3->T3}{l:Po}:Oq n h rest [] f l [] [] :=
 ⟨⟨⟨cq,fun p hp=>by cases hp⟩,fun p hp=>by cases hp⟩,aH _,cp _,fun g=>rfl⟩
theorem Oq.next{n h:Int}{rest:List (Int×Int)}{pre:Su}{x:PK×Po}{l':Po}{f':T3->T3}{A:Su}(a:Oq n h rest pre (pt (dec x.1)) x.2 [false,true] A):Oq n h rest (pre++[x]) f' l' [] A:=by
 refine⟨a.ok,?_,?_,fun g=>?_⟩
 ·have:=a.len;rw [av,cU]; simp at this ⊢; lia
 ·have:=a.fY;rw [AQ];simp only [ai,aB,iI] at this ⊢; lia
 ·rw [a.val,KZ];show _+(term h n rest g _ x.2 false+(term h n rest g _ x.2 true+0))=_+(L _ x.2+0)+0;have:=MC h n rest g (pt (dec x.1)) x.2;lia
theorem PO{S pre post:Su}{x:PK×Po}(e:S=pre++x :: post):iI pre+fY x.2<=iI S:=by
 rw [e,AQ,iI]; lia
theorem C0(S:Su)(p:PK×Po):j9 (S++[p])=if p.2.isEmpty=true then j9 S else j9 S++[p]:=by
 unfold j9;rw [dU];by_cases h:p.2.isEmpty=true
 ·rw [if_pos h,N5 (by simp [h])]; simp
 ·rw [if_neg h,N1 (by simp [h])]; simp
theorem Qg{S pre post:Su}{x:PK×Po}(nd:(S.map (·.1)).Nodup)(e:S=pre++x :: post):x.1∉(j9 pre).map (·.1):=by
 intro z;obtain⟨q,hq,e2⟩:=List.mem_map.mp z;have UM:=(List.mem_filter.mp hq).1;rw [e,aL,ak,cy] at nd;exact nd.2.2 _ (bA UM) _ cA e2
def vN:iq :=
 (bY (bB Rb (aG 3))
 (bY (EK 3 (dF (wu (au 0)) (ig (cL (aG 4) (cL (aG 5) hU))) (dF (ka (ij (aw (dC (.int 0)) (aw (dC (.int 1)) aQ)))) (aG 6) (bY (bB (bC jr (aw (au 4) (aw (bC i6 (aw (au 1) (aw (au 6) aQ))) aQ))) (aG 7))
 (bY (bB (bC fT (aw (cJ (bC jo (aw (cJ (au 5)) (aw (cJ (bC gB (aw (cJ (Bq [(2,-1),(-2,-1)])) (aw (cJ (br mD (au 7) (dC (.int 1)))) aQ)))) aQ)))) (aw (cJ (bC gw (aw (au 2) (aw (au 6) aQ)))) (aw (cJ (dC (.int 1))) aQ)))) (aG 8))
 (bB (cJ (bC ju (aw (cJ (r8 tyP CS (au 3) (aw (cJ (br mD (au 7) (dC (.int 0)))) (aw (cJ lD) aQ)))) (aw (cJ (au 8)) aQ)))) (Hj (au 3) (br mD (au 7) (dC (.int 0))))))))))
 (bY (bB Rb (aG 9))
 (bY (EK 3 (dF (wu (au 3)) (ig (cL (aG 4) (cL (aG 5) hU))) (jF (jD (au 5)) (bB (cJ (au 5)) (Hj (au 9) (au 4))) fR)))
 (cE (cJ (au 9)))))))
def lg:kC:=fun ds G Q _=>∃ (S:Su) (n h:Int) (rest:List (Int×Int)),ds=[.oY (iR S),.int n,.int h]/\(R5 S (n :: rest.map (·.1))/\(n :: rest.map (·.1)).Nodup/\rest.length<=11/\S.length<=1048576/\iI S<=1048576) /\
 ∀ S':Su,R5 S' (rest.map (·.1))->S'.length<=iI S'->iI S'<=8 * iI S->(∀ g,pg rest g S'=pg ((n,h) :: rest) g S)->Q (.oY (iR S')) G
theorem w6(ds:List D)(G:Gp)(Q:DK)(h:lg ds G Q fun _ _=>False):vN (fun _ _=>False) (ends Q) (bg 10 ds) G:=by
 obtain⟨S,n,h,rest,rfl,⟨so,nn,hr,hSl,hSn⟩,q⟩:=h;unfold vN;simp only [↓cx,bB,Rb,gv,aG,ends,bg,↓ak,↓aS,↓ai,↓aB,aR,↓aE,↓aM,↓aq,↓aj];intro p hp;refine eG (fun τ G'=>∃ (A:Su) (a1 a2 a3 a4 a5 a6:Option D),G=G'/\τ=[some (.oY (iR S)),some (.int n),some (.int h),some (.oY (iR A)),a1,a2,a3,a4,a5,a6]/\Oq n h rest S (fun e=>e) [] [] A) ?_ ?_
 ·intro N hN;simp only [EK];simp only [dF,wu,au,↓aa];show rN _ _ _ ((iR S).map _) _ _ _ _;have em:((iR S).map fun p=>D.tup [rJ p.1,p.2])=S.map fun p=>D.tup [rJ p.1,.iL (aT p.2)]:=by unfold iR; rw [bh]; rfl
  rw [em];refine cX (xs:=S) (f:=fun p=>D.tup [rJ p.1,.iL (aT p.2)]) (fun pre τ G'=>∃ (A:Su) (a1 a2 a3 a4 a5 a6:Option D),fh G G'/\G' p=some (.ua (iR A))/\τ=[some (.oY (iR S)),some (.int n),some (.int h),some (.ref p),a1,a2,a3,a4,a5,a6]/\Oq n h rest pre (fun e=>e) [] [] A)
   ⟨[],_,_,_,_,_,_,.new hp,ax,rfl,.zero⟩ (fun _ _ _ _=>trivial) ?_ ?_
  ·rintro pre x post τ G' N2 e ⟨A,a1,a2,a3,a4,a5,a6,le,gp,rfl,af⟩ lB;obtain⟨P,ek,nd,pl⟩:=so.pl x (by rw [e]; simp);have dm:=XA nd nn pl;have pll:=VE nd pl;have hx:=so.Jz.2 x (by rw [e]; simp);have hnx:=PO e;have hlx:=AO hx.2;have Cc:pre.length < S.length:=by rw [e]; simp
   have ed:dec x.1=P:=by rw [ek,Kh]
   simp only [ig,cL,hU,aG,aj,aq];simp only [dF,↓dM,ij,aw,dC,aQ,↓ai,↓aB,↓wy];refine⟨by decide,?_⟩;refine cX (xs:=[false,true]) (f:=fun w=>D.int (wI w)) (fun ws τ G'=>∃ (A:Su) (a3 a4 a5 a6:Option D),fh G G'/\G' p=some (.ua (iR A))/\τ=[some (.oY (iR S)),some (.int n),some (.int h),some (.ref p),some (rJ x.1),some (.iL (aT x.2)),a3,a4,a5,a6]/\Oq n h rest pre (pt P) x.2 ws A)
    ⟨A,_,_,_,_,le,gp,rfl,⟨af.ok,af.len,by have:=af.fY; simp only [aB,Nat.zero_mul] at this ⊢; exact this,af.val⟩⟩ (fun _ _ _ _=>trivial) ?_ ?_
   ·rintro ws w wt τ G2 N3 ew ⟨B,b3,b4,b5,b6,GP,Hi,rfl,bf⟩ Bc;have Xg:ws.length<=1:=by
     have:=congrArg cM ew;simp at this; lia
    have hc:=Rj (pt P) n w;have bl:=bf.len;have bn:=bf.fY;have bn2:iI B<=8388608:=by
     have:ws.length * (4 * fY x.2)<=1 * (4 * fY x.2):=iZ _ Xg;lia
    simp only [aG,↓cx,bB,bC,aw,au,↓aq,ek,↓aj,↓ae,↓aa,aQ,cJ,br,dC,r8,lD];refine⟨n,w,rfl,?_⟩;refine⟨P,js n w,rfl,⟨nd,by simp only [ai,ao] at pll; lia,dm.ok w⟩,fun P' nd' ep=>?_⟩;have p0:Oq n h rest pre (pt P) x.2 (ws++[w]) (uD B (pW P') x.2 (cls (pt P) (js n w)) (pw h w)):=bf.step nd' ep (SV dm pl w);simp only [↓jv,Rx,W9];generalize ec:cls (pt P) (js n w)=c at hc p0;have hx1:=hx.1;have l1:(cN LP c).length<=4:=SU hc;have l2:x.2.length * (cN LP c).length<=1048576 * 4:=Nat.mul_le_mul (by lia) l1;have l3:=Y.AA x.2 (cN LP c);have l4:fY x.2 * fY (cN LP c)<=1048576 * 8:=Nat.mul_le_mul (by lia) (AE (by lia));have l5:=Y.uY x.2 (cN LP c);have l6:(SO x.2 c (pw h w)).length<=(jY x.2 (cN LP c)).length:=aU (Y.oq _) (by rw [ao]; exact aH _);have l7:=AO (bf.ok.Jz.get (pW P')).2;have l8:=Lx B (pW P');refine du ?_;unfold Bq;intro p5 f5;refine gu (.new f5) f5 ax (du ?_);refine⟨_,LP,c,rfl,⟨rfl,Mi⟩,vS (by lia),by rw [yi]; exact rB (by decide),fun p6 f6=>?_⟩;refine gu (.new f6) f6 ax ?_;refine⟨_,_,x.2,cN LP c,rfl,⟨rfl,hx1⟩,⟨rfl,Y.qv _ _⟩,aU l2 (by decide),⟨rB (by lia),rB (aU (AE (by lia)) (by decide))⟩,fun p7 f7=>?_⟩;refine gu (.new f7) f7 ax ?_;refine⟨h,w,rfl,du (du ?_)⟩;refine⟨_,jY x.2 (cN LP c),pw h w,1,rfl,⟨rfl,Y.xC _ _⟩,aU (aU l3 l2) (by decide),⟨rB (aU (aU l5 l4) (by decide)),rB (by decide)⟩,fun p8 f8=>?_⟩;have h8:p≠p8:=by rintro rfl; rw [Hi] at f8; cases f8
    refine⟨by unfold tyP; simp only [cw h8,Hi],du ?_⟩;intro p9 f9;refine gu (.new f9) f9 ax ?_;refine PY (by rw [cw h8]; exact Hi) (du ?_);refine gu (.new f8) f8 ax ?_;refine⟨_,_,(bH B (pW P')).getD [],SO x.2 c (pw h w),rfl,⟨rfl,(bf.ok.Jz.get _).1⟩,⟨rfl,Y.CO (Y.xC _ _) _ _⟩,?_,fun p10 f10=>?_⟩
    ·show _<=16777216;lia
    refine gu (.new f10) f10 ax ?_;unfold Hj;simp only [au,↓ae,↓aa,br,dC,↓jv,W9];refine CJ Hi (show _ < 16777216 by lia) ?_;rw [<-ek];exact Bc _ _ ⟨_,_,_,_,_,GP.put hp,ax,rfl,p0⟩
   ·rintro τ G2 ⟨B,b3,b4,b5,b6,GP,Hi,rfl,bf⟩;refine lB _ _ ⟨B,_,_,_,_,_,_,GP,Hi,rfl,?_⟩;rw [<-ed] at bf;exact bf.next
  ·rintro τ G' ⟨A,a1,a2,a3,a4,a5,a6,le,gp,rfl,af⟩;simp only [↓ae,↓aa,↓aq,↓aj];refine JW le hp gp ?_;exact hN _ _ ⟨A,_,_,_,_,_,_,rfl,rfl,af⟩
 ·rintro _ G' ⟨A,a1,a2,a3,a4,a5,a6,rfl,rfl,af⟩;simp only [↓cx,bB,Rb,gv,aG,↓aq,↓aj];intro p2 qb;have al:=af.len;have an:=af.fY;simp only [aB,Nat.zero_mul,Fb] at al an;refine eG (fun τ G'=>∃ (a1 a2 a3 a4 a5:Option D),τ=[some (.oY (iR S)),some (.int n),some (.int h),some (.oY (iR A)),a1,a2,a3,a4,a5,some (.ref p2)]/\fh G G'/\G' p2=some (.ua (iR (j9 A)))) ?_ ?_
  ·intro N hN;simp only [EK];simp only [dF,wu,au,↓ae,↓aa];show rN _ _ _ ((iR A).map _) _ _ _ _;have em:((iR A).map fun p=>D.tup [rJ p.1,p.2])=A.map fun p=>D.tup [rJ p.1,.iL (aT p.2)]:=by unfold iR; rw [bh]; rfl
   rw [em];refine cX (xs:=A) (f:=fun p=>D.tup [rJ p.1,.iL (aT p.2)]) (fun pre τ G'=>∃ (a1 a2 a3 a4 a5:Option D),τ=[some (.oY (iR S)),some (.int n),some (.int h),some (.oY (iR A)),a1,a2,a3,a4,a5,some (.ref p2)]/\fh G G'/\G' p2=some (.ua (iR (j9 pre))))
    ⟨_,_,_,_,_,rfl,.new qb,ax⟩ (fun _ _ _ _=>trivial) ?_ ?_
   ·rintro pre x post τ G' N2 e ⟨b1,b2,b3,b4,b5,rfl,le,gp⟩ lB;simp only [ig,cL,hU,aG,aj,aq];simp only [jF,↓eD,au,↓ae,↓aa,bB,cJ,fR];refine MA ?_;have Cc:pre.length < A.length:=by rw [e]; simp
    have hkl:(j9 pre).length<=pre.length:=eA _ _;by_cases c:x.2.isEmpty=true
    ·simp only [c,bF,ay,if_false,fR];refine lB _ _ ⟨_,_,_,_,_,rfl,le,?_⟩;rw [C0,if_pos c]; exact gp
    ·have c':x.2.isEmpty=false:=by simpa using c
     simp only [c',di,if_true];refine du ?_;unfold Hj;simp only [au,↓ae,↓aa];refine CJ gp (show _ < 16777216 by lia) ?_;refine lB _ _ ⟨_,_,_,_,_,rfl,le.put qb,?_⟩;rw [ax,C0,if_neg c,Y.kd (Qg af.ok.Jz.1 e)]
   ·rintro τ G' ⟨b1,b2,b3,b4,b5,rfl,le,gp⟩;simp only [↓ae,↓aa,↓aq,↓aj];exact du (hN _ _ ⟨_,_,_,_,_,rfl,le,gp⟩)
  ·rintro _ G' ⟨b1,b2,b3,b4,b5,rfl,le,gp⟩;simp only [cE,cJ,au,↓ae,↓aa];refine JW le qb gp ?_;refine q (j9 A) ⟨GS af.ok.Jz,fun p xP=>af.ok.pl p (List.mem_filter.mp xP).1⟩ ?_ ?_ fun g=>?_
   ·have:j9 (j9 A)=j9 A:=by unfold j9; rw [List.filter_filter]; simp
    have h2:=Qh (GS af.ok.Jz);rw [this] at h2; exact h2
   ·exact aU (Qf A) an
   ·rw [Qe,af.val];show _+0=_;lia
end JB
namespace JB
open K2.P K2.J
open K2.Y (Po L ND NZ fY vX jY jw cN fT jo gB ju Pl)
variable {rows:Rows}
def eO(s:T2):T3:=⟨s.a,s.b,1⟩
def eI(s:T2):T3:=⟨s.a,s.b,0⟩
def Oc(ps:List (T3×T3)):Pr T3:=ps.map fun p=>(eO p.1.s,eI p.2.s)
def Vj(rows:Rows):Pr T3:=Oc (pairsOf rows)
def fr(rows:Rows):T3->T3:=pt (Vj rows)
def lo(rows:Rows):Nat:=(rows.filter fun r=>r.isEmpty).length
def nh(rows:Rows):List (Int×Int):=(names rows).map fun n=>(n,handOf rows n)
theorem Hw:∀ (P:Pr T3),(es P).Perm (P.map (·.1)++P.map (·.2))
 | []=>.refl _
 | p :: P=>by
  rw [es,ak,ak,aE];refine DI _ ?_;exact((Hw P).cons p.2).trans List.perm_middle.symm
theorem Xi{ps:List (T3×T3)}(h1:(ps.map fun p=>p.1.s).Nodup)(h2:(ps.map fun p=>p.2.s).Nodup):(es (Oc ps)).Nodup:=by
 refine(Hw _).nodup_iff.mpr (List.nodup_append.mpr ⟨?_,?_,?_⟩)
 ·have:(Oc ps).map (·.1)=(ps.map fun p=>p.1.s).map eO:=by unfold Oc; rw [bh,bh]; rfl
  rw [this];refine xJ h1 fun i _ j _ e=>?_;injection e with e1 e2
  cases i; cases j; simp only at e1 e2; rw [e1,e2]
 ·have:(Oc ps).map (·.2)=(ps.map fun p=>p.2.s).map eI:=by unfold Oc; rw [bh,bh]; rfl
  rw [this];refine xJ h2 fun i _ j _ e=>?_;injection e with e1 e2
  cases i; cases j; simp only at e1 e2; rw [e1,e2]
 ·intro a ha b hb e;obtain⟨p,hp,rfl⟩:=List.mem_map.mp ha;obtain⟨q,hq,rfl⟩:=List.mem_map.mp hb;obtain⟨p',_,rfl⟩:=List.mem_map.mp hp;obtain⟨q',_,rfl⟩:=List.mem_map.mp hq;injection e with _ _ e3
  cases e3
theorem xu(d:Dr rows):(es (Vj rows)).Nodup:=Xi (JY d) (Je d)
theorem Vh(d:Dr rows):RT (je (pairsOf rows))=Vj rows:=by
 rw [Gx d];unfold RT Vj Oc;rw [bh]; rfl
theorem Vi(d:Dr rows)(e:T3):e∈es (Vj rows)↔∃ p∈rows.flatten,e=eO p.s\/e=eI p.s:=by
 rw [pY];constructor
 ·rintro⟨q,hq,z⟩;obtain⟨pq,hpq,rfl⟩:=List.mem_map.mp hq;have h1:pq.1∈rows.flatten:=by rw [<-tZ rows]; exact bA hpq
  have h2:pq.2∈rows.flatten:=(tY rows).mem_iff.mp (bA hpq);rcases z with z | z
  ·exact⟨_,h1,.inl z⟩
  ·exact⟨_,h2,.inr z⟩
 ·rintro⟨p,hp,z | z⟩
  ·obtain⟨q,hq,_⟩:=QF hp;exact⟨_,List.mem_map.mpr ⟨_,hq,rfl⟩,.inl z⟩
  ·obtain⟨q,hq,_⟩:=Hh hp;exact⟨_,List.mem_map.mpr ⟨_,hq,rfl⟩,.inr z⟩
theorem K1(d:Dr rows)(e:T3):e∈es (Vj rows)↔∃ n∈names rows,e∈lM n:=by
 rw [Vi d];constructor
 ·rintro⟨p,hp,z⟩;have hn:p.a∈names rows:=by
   rw [lV];rcases d.way p hp with w | w
   ·exact⟨p,hp,w,rfl⟩
   ·exact⟨_,d.JG p hp,by simp [w],rfl⟩
  refine⟨p.a,hn,?_⟩;rcases d.way p hp with w | w <;> rcases z with rfl | rfl <;> simp [lM,eO,eI,T3.s,w]
 ·rintro⟨n,hn,he⟩;obtain⟨p,hp,w,rfl⟩:=lV.mp hn;have hm:=d.JG p hp;unfold lM at he;simp only [bb,bG,or_false] at he;have e0:p.s=⟨p.a,0⟩:=by show (⟨p.a,p.b⟩:T2)=_; rw [w]
  have e1:T3.s ⟨p.a,1 - p.b,p.c⟩=⟨p.a,1⟩:=by show (⟨p.a,1 - p.b⟩:T2)=_; rw [w]; rfl
  rcases he with rfl | rfl | rfl | rfl
  ·exact⟨p,hp,.inr (by rw [e0]; rfl)⟩
  ·exact⟨_,hm,.inl (by rw [e1]; rfl)⟩
  ·exact⟨_,hm,.inr (by rw [e1]; rfl)⟩
  ·exact⟨p,hp,.inl (by rw [e0]; rfl)⟩
theorem v3(d:Dr rows):(names rows).Nodup:=by
 unfold names;refine MF ?_;have h:=d.nd;have:∀ {L:List T3},(L.map T3.s).Nodup->((L.filter fun p=>p.b == 0).map (·.a)).Nodup:=by
  intro L;induction L with
  | nil=>intro _; exact cq
  | cons p L ih =>
   intro h;rw [ak,aY] at h;rw [bD];split
   ·rename_i hp;rw [ak,aY];refine⟨fun z=>h.1 ?_,ih h.2⟩;obtain⟨q,hq,e⟩:=List.mem_map.mp z;have UM:=List.mem_filter.mp hq;refine List.mem_map.mpr ⟨q,UM.1,?_⟩;have b1:p.b=0:=by simpa using hp
    have b2:q.b=0:=by simpa using UM.2
    show (⟨q.a,q.b⟩:T2)=⟨p.a,p.b⟩;rw [e,b1,b2]
   ·exact ih h.2
 exact this h
theorem Hk(d:Dr rows):Dm (fr rows) (names rows) :=
 ⟨Ph (xu d),v3 d,fun n hn e he=>(uV (xu d)).mpr ((K1 d e).mpr ⟨n,hn,he⟩)⟩
theorem AS(d:Dr rows):2 * (names rows).length<=rows.flatten.length:=by
 have h:=sub_len' ((names rows).flatMap fun n=>[(⟨n,0⟩:T2),⟨n,1⟩]) (rows.flatten.map T3.s) ?_ ?_
 ·have:((names rows).flatMap fun n=>[(⟨n,0⟩:T2),⟨n,1⟩]).length=2 * (names rows).length:=by
   generalize names rows=l;induction l with
   | nil=>rfl
   | cons n l ih=>rw [bO,av,ih]; simp only [ai,aB]; lia
  rw [this,ao] at h; exact h
 ·have:∀ {l:List Int},l.Nodup->(l.flatMap fun n=>[(⟨n,0⟩:T2),⟨n,1⟩]).Nodup:=by
   intro l;induction l with
   | nil=>intro _; exact cq
   | cons n l ih =>
    intro h;rw [aY] at h;rw [bO,cy];refine⟨by simp,ih h.2,fun a ha b hb e=>?_⟩;obtain⟨m,hm,hb⟩:=List.mem_flatMap.mp hb;have ea:a.a=n:=by simp only [bb,bG,or_false] at ha; rcases ha with rfl | rfl <;> rfl
    have eb:b.a=m:=by simp only [bb,bG,or_false] at hb; rcases hb with rfl | rfl <;> rfl
    rw [e,eb] at ea;exact h.1 (ea ▸ hm)
  exact this (v3 d)
 ·intro s hs;obtain⟨n,hn,hs⟩:=List.mem_flatMap.mp hs;obtain⟨p,hp,w,rfl⟩:=lV.mp hn;simp only [bb,bG,or_false] at hs;rcases hs with rfl | rfl
  ·exact List.mem_map.mpr ⟨p,hp,by show (⟨p.a,p.b⟩:T2)=_; rw [w]⟩
  ·exact List.mem_map.mpr ⟨_,d.JG p hp,by show (⟨p.a,1 - p.b⟩:T2)=_; rw [w]; rfl⟩
theorem YA(d:Dr rows){n:Int}(h:n∈names rows):∃ p∈rows.flatten,p.a=n:=by
 obtain⟨p,hp,_,e⟩:=lV.mp h;exact⟨p,hp,e⟩
theorem Vt(d:Dr rows):∀ r∈rows,r.length<=24:=fun r hr=>by
 have h1:=d.EA;obtain⟨a,b,e⟩:=List.append_of_mem hr;rw [e,lJ,cO,av,av] at h1;lia
def xh(rows:Rows)(ns:List Int):List (Int×Int):=ns.map fun n=>(n,handOf rows n)
theorem Eg(rows:Rows)(ns:List Int):(xh rows ns).map (·.1)=ns:=by
 unfold xh;rw [bh];exact lI ns
theorem zip_map(f:Int->Int):∀ l:List Int,l.zip (l.map f)=l.map fun n=>(n,f n)
 | []=>rfl
 | n :: l=>by rw [ak,rV,zip_map f l,ak]
theorem aan{k:Nat}(h:k<=5):8 * 8 ^ k<=1048576:=by
 have:8 ^ k<=8 ^ 5:=eQ (by decide) h;lia
def CL:iq :=
 (bY (bB (gf 1 [0] (ka (au 1)) (aG 0) none (bC ib (aw (au 1) (aw (au 0) aQ)))) (aG 2))
 (bY (bB (oK sd (aw (gf 1 [] (ka (au 0)) (aG 0) (some (uq (jD (au 0)))) (au 0)) aQ)) (aG 3))
 (bY (bB (cJ (Ra (bC j4 (aw (au 0) aQ)) (cJ (bC gB (aw (cJ (Bq [(2,-1),(-2,-1)])) (aw (cJ (au 3)) aQ)))))) (aG 4))
 (bY (dF (Qx (au 1) (au 2)) (ig (cL (aG 5) (cL (aG 6) hU))) (bB (cJ (bC lg (aw (au 4) (aw (au 5) (aw (au 6) aQ))))) (aG 4)))
 (cE (cJ (au 4)))))))
def lQ:kC:=fun ds G Q _=>∃ (rows:Rows) (ns:List Int),ds=[enc rows,enc ns]/\(Dr rows/\ns.Perm (names rows)/\ns.length<=6) /\
 ∀ S':Su,R5 S' []->iI S'<=2097152->(∀ g,pg [] g S'=Br (fr rows) (xh rows ns) (kL (lo rows) g))->Q (.oY (iR S')) G
theorem DB(ds:List D)(G:Gp)(Q:DK)(h:lQ ds G Q fun _ _=>False):CL (fun _ _=>False) (ends Q) (bg 7 ds) G:=by
 obtain⟨rows,ns,rfl,⟨d,hp,hl⟩,q⟩:=h;have EA:=d.EA;have str:=d.str;have nn:ns.Nodup:=hp.nodup_iff.mpr (v3 d);have lol:lo rows<=3:=aU (eA _ _) str;unfold CL;simp only [↓cx,bB,gf,↓dM,au,bg,↓ak,↓aS,↓ai,↓aB,aR,↓aE,↓aM,↓ae,↓aa,aG,oK,aw,↓aq,↓aj,aQ,cJ,ends];refine iQ ⟨Aa (by rw [ao]; lia),?_⟩;refine iY (xs:=ns) (fun pre acc τ G'=>G=G'/\(∃ a,τ=[a,some (enc rows)])/\acc=(pre.map (handOf rows)).map D.int) ⟨rfl,⟨_,rfl⟩,rfl⟩ (fun _ _ _ _ _=>trivial) ?_ ?_
 ·rintro pre n post acc τ G' N e ⟨rfl,⟨a,rfl⟩,rfl⟩ hN;have hn:n∈names rows:=hp.mem_iff.mp (by rw [e]; simp);simp only [aG,bC,aw,au,↓aj,wK,↓ae,↓aa,aQ];refine⟨rows,n,rfl,⟨by lia,YA d hn⟩,?_⟩;refine hN _ _ _ ⟨rfl,⟨_,rfl⟩,?_⟩;rw [aL,aL]; rfl
 rintro acc τ G' ⟨rfl,⟨a,rfl⟩,rfl⟩ p1 f1;refine iQ ⟨Aa (by rw [ao]; lia),?_⟩;refine iY (xs:=rows) (fun pre acc τ G'=>dH G p1 (.lst ((ns.map (handOf rows)).map D.int))=G'/\(∃ a,τ=[a])/\acc=(pre.filter fun r=>r.isEmpty).map enc) ⟨rfl,⟨_,rfl⟩,rfl⟩ (fun _ _ _ _ _=>trivial) ?_ ?_
 ·rintro pre r post acc τ G' N e ⟨rfl,⟨a,rfl⟩,rfl⟩ hN;simp only [aG,uq,↓eD,au,↓aj,↓aa];show pe (.dN (r.map enc)) _ _;unfold pe FJ;simp only [];by_cases c:r.isEmpty=true
  ·have c2:(r.map (enc:T3->D)).isEmpty=true:=by cases r with
    | nil=>rfl
    | cons _ _=>cases c
   simp only [c2,bF,di,if_true];refine hN _ _ _ ⟨rfl,⟨_,rfl⟩,?_⟩;simp only [dU,bD,c,if_true,xf,aL,ak,aS]
  ·have c2:(r.map (enc:T3->D)).isEmpty=false:=by cases r with
    | nil=>exact absurd rfl c
    | cons _ _=>rfl
   simp only [c2,bF,di,if_false,ay];refine hN _ _ _ ⟨rfl,⟨_,rfl⟩,?_⟩;have c':r.isEmpty=false:=by simpa using c
   simp only [dU,bD,c',if_false,ay,xf,cj]
 rintro acc τ G' ⟨rfl,⟨a,rfl⟩,rfl⟩ p2 f2;have p12:p1≠p2:=by rintro rfl; rw [ax] at f2; cases f2
 simp only [HP ax,ao];simp only [Ra,bC,aw,au,↓aa,aQ,cJ,↓ae];have elo:(rows.filter fun r=>r.isEmpty).length=lo rows:=rfl;rw [elo];refine⟨rows,rfl,by lia,?_⟩;rw [Vh d];have nd:=xu d;obtain⟨n0,e0⟩:=Lj (LX nd) (Ph nd);generalize hP0:MU (Ka (Vj rows))=P0 at n0 e0;unfold Bq;intro p5 f5;refine gu (.new f5) f5 ax (du ?_);refine⟨_,LP,lo rows,rfl,⟨rfl,Mi⟩,vS lol,by rw [yi]; exact rB (by decide),fun p6 f6=>?_⟩;refine gu (.new f6) f6 ax ?_;refine⟨pW P0,rfl,fun p7 f7=>?_⟩;have g1:fh G (dH (dH G p1 (.lst ((ns.map (handOf rows)).map D.int))) p2 (.lst (((rows.filter fun r=>r.isEmpty)).map enc))):=(fh.new f1).trans (.new f2);refine JW (A:=[(pW P0,cN LP (lo rows))]) (.new f7) f7 ax ?_;generalize hG2:dH (dH G p1 (.lst ((ns.map (handOf rows)).map D.int))) p2 (.lst (((rows.filter fun r=>r.isEmpty)).map enc))=G2 at g1;have gh:G2 p1=some (.lst ((ns.map (handOf rows)).map D.int)):=by rw [<-hG2,cw p12,ax]
 refine eG (fun τ G'=>∃ (S:Su) (a b:Option D),G'=G2/\τ=[some (enc rows),some (enc ns),some (.ref p1),some (.int (lo rows)),some (.oY (iR S)),a,b]/\R5 S []/\iI S<=2097152/\∀ g,pg [] g S=Br (fr rows) (xh rows ns) (kL (lo rows) g)) ?_ ?_
 ·intro N hN;simp only [dF,Qx,au,↓ae,↓aa];have hz:qP (ns.map enc) ((ns.map (handOf rows)).map D.int)=(xh rows ns).map enc:=by
   have:qP (ns.map enc) ((ns.map (handOf rows)).map enc)=(ns.zip (ns.map (handOf rows))).map enc:=zZ _ _;refine this.trans ?_;rw [zip_map]; rfl
  refine Nq (IsL.enc ns) (IsL.ref gh) fun ok cu=>?_;rw [hz];have hnl:(xh rows ns).length=ns.length:=by unfold xh; rw [ao]
  have start:∀ g,pg (xh rows ns) g [(pW P0,cN LP (lo rows))]=Br (fr rows) (xh rows ns) (kL (lo rows) g):=fun g=>by
   show L _ _+0=_;rw [rD,xq,Kh,e0];have:=congrFun (JL (fr rows) (xh rows ns) g (lo rows) 0) 0;simp only [xq] at this;rw [Lb] at this;exact this
  have so0:R5 [(pW P0,cN LP (lo rows))] ((xh rows ns).map (·.1)):=by
   refine⟨⟨by simp,fun p xP=>?_⟩,fun p xP=>?_⟩
   ·rw [bS] at xP; subst xP; exact⟨Y.qv _ _,Y.MS _ _⟩
   ·rw [bS] at xP; subst xP;refine⟨P0,rfl,n0,fun e=>?_⟩;rw [e0,uV nd,K1 d,Eg];exact⟨fun ⟨n,h1,h2⟩=>⟨n,hp.mem_iff.mpr h1,h2⟩,fun ⟨n,h1,h2⟩=>⟨n,hp.mem_iff.mp h1,h2⟩⟩
  refine cX (xs:=xh rows ns) (fun pre τ G'=>∃ (S:Su) (a b:Option D),G'=G2/\τ=[some (enc rows),some (enc ns),some (.ref p1),some (.int (lo rows)),some (.oY (iR S)),a,b]/\R5 S (((xh rows ns).drop pre.length).map (·.1))/\(S.length<=8 * 8 ^ pre.length/\iI S<=8 * 8 ^ pre.length)/\∀ g,pg ((xh rows ns).drop pre.length) g S=Br (fr rows) (xh rows ns) (kL (lo rows) g))
   ⟨_,_,_,rfl,rfl,so0,⟨(by decide:1<=8 * 8 ^ 0),aU (Nat.le_of_eq (Fb _)) (AE lol)⟩,start⟩ (fun pre τ G' h=>cu G' (by obtain⟨_,_,_,rfl,_⟩:=h; exact .refl _)) ?_ ?_
  ·rintro pre x post τ G' N2 e ⟨S,a,b,rfl,rfl,so,⟨sl,sn⟩,sv⟩ lB;have dr:(xh rows ns).drop pre.length=x :: post:=by rw [e,List.drop_left]
   have dr2:(xh rows ns).drop (pre++[x]).length=post:=by
    rw [e,show pre++x :: post=(pre++[x])++post by simp,List.drop_left]
   have Cc:pre.length+1+post.length<=6:=by
    have:=congrArg cM e;rw [av,ai,hnl] at this; lia
   have aa1:(x.1 :: post.map (·.1)).Nodup:=by
    have h1:=Eg rows ns;rw [e,aL,ak] at h1;have h2:=nn;rw [<-h1] at h2;exact(List.nodup_append.mp h2).2.1
   rw [dr] at so sv;have p8:=aan (k:=pre.length) (by lia);have e3:(enc x:D)=.tup [.int x.1,.int x.2]:=rfl;rw [e3];simp only [ig,cL,hU,aG,aj,aq];simp only [bB,cJ,bC,aw,au,↓ae,↓aa,aQ,aG,↓aq,↓aj];refine⟨S,x.1,x.2,post,rfl,⟨so,aa1,by lia,by lia,by lia⟩,fun S' so' l1 l2 v=>?_⟩;refine du (lB _ _ ?_);rw [dr2];have e8:8 * 8 ^ (pre++[x]).length=8 * (8 * 8 ^ pre.length):=by
    rw [av,cU,xm]; lia
   rw [e8];exact⟨S',_,_,rfl,rfl,so',⟨by lia,by lia⟩,fun g=>by rw [v]; exact sv g⟩
  ·rintro τ G' ⟨S,a,b,rfl,rfl,so,⟨sl,sn⟩,sv⟩;have dr:(xh rows ns).drop (xh rows ns).length=[]:=List.drop_length;rw [dr] at so sv;have:8 ^ (xh rows ns).length<=8 ^ 6:=eQ (by decide) (by lia);exact hN _ _ ⟨S,_,_,rfl,rfl,so,by lia,sv⟩
 ·rintro _ G' ⟨S,a,b,rfl,rfl,so,hn,hv⟩;simp only [cE,cJ,au,↓ae,↓aa];exact wB g1 (q S so hn hv)
structure BP(T:Po)(f:Fn->Int):Prop where
 nd:ND T
 nz:NZ T
 fY:fY T<=2097152
 val:∀ g,L g T=f g
theorem BP.len{T:Po}{f:Fn->Int}(b:BP T f):T.length<=2097152:=aU (AO b.nz) b.fY
def brk(rows:Rows)(g:Fn):Int:=Br (fr rows) (nh rows) (kL (lo rows) g)
theorem O1{S:Su}(so:R5 S []):∀ p∈S,p.1=[]:=fun p hp=>by
 obtain⟨P,e,nd,h⟩:=so.pl p hp;have:P=[]:=VA nd fun e=>ip fun z=>by
  obtain⟨n,hn,_⟩:=(h e).mp z;cases hn
 rw [e,this]; rfl
theorem KY{S:Su}(so:R5 S [])(g:Fn):pg [] g S=L g ((bH S []).getD []):=by
 have h:=O1 so;have nd:=so.Jz.1;cases S with
 | nil=>rfl
 | cons p S =>
  have e1:=h p (by simp);have e2:S=[]:=by
   cases S with
   | nil=>rfl
   | cons q S =>
    have e3:=h q (by simp);rw [ak,ak,aY] at nd;exact absurd (by rw [e1,e3]; exact cA) nd.1
  subst e2;have e4:bH [p] ([]:PK)=some p.2:=by unfold bH; rw [cB (by simpa using e1)]; rfl
  rw [e4];show L _ p.2+0=L g p.2;rw [xq];congr 1;funext j;show sh j g 0=g j;unfold sh;rw [Se]
def Au:iq :=
 (cE (cJ (r8 tyP CS (bC lQ (aw (au 0) (aw (bC gx (aw (au 0) aQ)) aQ))) (aw (cJ (ij aQ)) (aw (cJ lD) aQ)))))
def kK:kC:=fun ds G Q _=>∃ rows:Rows,ds=[enc rows]/\(Dr rows/\rows.flatten.length<=12)/\∀ T:Po,BP T (brk rows)->Q (.iL (aT T)) G
theorem BK(ds:List D)(G:Gp)(Q:DK)(h:kK ds G Q fun _ _=>False):Au (fun _ _=>False) (ends Q) (bg 1 ds) G:=by
 obtain⟨rows,rfl,⟨d,hl⟩,q⟩:=h;have nl:=AS d;unfold Au;simp only [cE,cJ,r8,bC,aw,au,bg,↓ak,↓aS,↓ai,↓aB,↓aE,↓aM,↓aa,aQ,ij,lD,ends];refine⟨rows,rfl,(show rows.flatten.length < 64 by lia),?_⟩;refine⟨rows,names rows,rfl,⟨d,.refl _,by lia⟩,fun S so hn hv=>?_⟩;refine⟨trivial,by decide,du ?_⟩;intro p hp;refine gu (.new hp) hp ax ?_;refine⟨[],rfl,?_⟩;have bp:BP ((bH S []).getD []) (brk rows):=⟨(so.Jz.get []).1,(so.Jz.get []).2,aU (Lx S []) hn,fun g=>by rw [<-KY so,hv]; rfl⟩;have e:(qx (iR S) []).getD (.iL [])=.iL (aT ((bH S []).getD [])):=by
  rw [xN];cases bH S [] <;> rfl
 rw [e];exact du (q _ bp)
end JB
namespace JK
open K2.P K2.J K2.JB
open K2.Mj (Nc Tr Oj)
open K2.xi (zE jps Nl cv MP Pd ER Lz)
variable {rows:Rows}
abbrev Ch:=List (Int×Int)
def jl(c:Ch):Pr T3:=c.flatMap fun p=>js p.1 (decide (p.2≠0))
theorem TM{α:Type}{ps:List (α×α)}{a b u v:α}(h:Cn (ps++[(a,b)]) u v):Cn ps u v\/(Cn ps u a/\Cn ps b v)\/(Cn ps u b/\Cn ps a v):=by
 induction h with
 | refl x=>exact .inl (.refl x)
 | pair q =>
  rcases List.mem_append.mp q with q | q
  ·exact .inl (.pair q)
  ·rw [bS] at q;cases q;exact .inr (.inl ⟨.refl _,.refl _⟩)
 | symm _ ih =>
  rcases ih with h | ⟨h1,h2⟩ | ⟨h1,h2⟩
  ·exact .inl h.symm
  ·exact .inr (.inr ⟨h2.symm,h1.symm⟩)
  ·exact .inr (.inl ⟨h2.symm,h1.symm⟩)
 | trans _ _ i1 i2 =>
  rcases i1 with h | ⟨h1,h2⟩ | ⟨h1,h2⟩ <;> rcases i2 with k | ⟨k1,k2⟩ | ⟨k1,k2⟩
  ·exact .inl (h.trans k)
  ·exact .inr (.inl ⟨h.trans k1,k2⟩)
  ·exact .inr (.inr ⟨h.trans k1,k2⟩)
  ·exact .inr (.inl ⟨h1,h2.trans k⟩)
  ·exact .inr (.inl ⟨h1,k2⟩)
  ·exact .inl (h1.trans k2)
  ·exact .inr (.inr ⟨h1,h2.trans k⟩)
  ·exact .inl (h1.trans k2)
  ·exact .inr (.inr ⟨h1,k2⟩)
theorem wU{α:Type}{ps qs:List (α×α)}{u v:α}(h:Cn ps u v):Cn (ps++qs) u v:=by
 induction h with
 | refl x=>exact .refl x
 | pair q=>exact .pair (cH _ q)
 | symm _ ih=>exact ih.symm
 | trans _ _ a b=>exact a.trans b
def Sep(cv:T3->T2)(f:T3->T3)(ps:List (T2×T2)):Prop:=∀ e e',f e≠e->f e'≠e'->(Cn ps (cv e) (cv e')↔e'=e\/e'=f e)
theorem Sep.step{cv:T3->T2}{f:T3->T3}{ps:List (T2×T2)}(iv:Iv f)(s:Sep cv f ps){x y:T3}(xy:x≠y)(hx:f x≠x)(hy:f y≠y):Sep cv (jn f x y) (ps++[(cv x,cv y)]):=by
 have op:∀ e,jn f x y e≠e->e≠x/\e≠y/\f e≠e:=fun e h=>by
  refine⟨fun z=>h (by rw [z]; exact X4),fun z=>h (by rw [z]; exact X3),fun z=>h ?_⟩;have i1:e=f x->e=x:=fun w=>by rw [<-z,w,iv]
  have i2:e=f y->e=y:=fun w=>by rw [<-z,w,iv]
  unfold jn
  grind
 intro e e' he he';obtain⟨ex,ey,fe⟩:=op e he;obtain⟨ex',ey',fe'⟩:=op e' he';have i:∀ u v:T3,f u=v↔u=f v:=fun u v=>⟨fun h=>by rw [<-h,iv],fun h=>by rw [h,iv]⟩;have a1:=s e e' fe fe';have a2:=s e x fe hx;have a3:=s e y fe hy;have a4:=s y e' hy fe';have a5:=s x e' hx fe';constructor
 ·intro h;have i1:=i e x;have i2:=i e y;unfold jn;rcases TM h with h | ⟨h1,h2⟩ | ⟨h1,h2⟩
  ·have:=a1.mp h; grind
  ·have:=a2.mp h1; have:=a4.mp h2; grind
  ·have:=a3.mp h1; have:=a5.mp h2; grind
 ·intro h;rcases h with h | h
  ·rw [h]; exact .refl _
  ·have last:Cn (ps++[(cv x,cv y)]) (cv x) (cv y):=.pair (by simp);by_cases c1:e=f x
   ·have e2:e'=f y:=by rw [h]; unfold jn; grind
    exact(wU (a2.mpr (.inr (by rw [c1,iv])))).trans (last.trans (wU (a4.mpr (.inr e2))))
   ·by_cases c2:e=f y
    ·have e2:e'=f x:=by rw [h]; unfold jn; grind
     exact(wU (a3.mpr (.inr (by rw [c2,iv])))).trans (last.symm.trans (wU (a5.mpr (.inr e2))))
    ·have e2:e'=f e:=by rw [h]; unfold jn; grind
     exact wU (a1.mpr (.inr e2))
theorem go{cv:T3->T2}{V:List T2}:∀ (qs:Pr T3) (f:T3->T3) (ps:List (T2×T2)) (k m:Nat),Ok f qs->Sep cv f ps->(∀ p∈qs,cv p.1∈V/\cv p.2∈V)->Nc V (Cn ps) k->Nc V (Cn (ps++qs.map fun p=>(cv p.1,cv p.2))) m->k+cls f qs=m+qs.length
 | [],f,ps,k,m,_,_,_,h1,h2=>by
  rw [aS,cj] at h2;rw [Nc.uniq (Oj ps) h1 h2]; rfl
 | p :: qs,f,ps,k,m,o,s,hv,h1,h2=>by
  obtain⟨xy,hx,hy⟩:=o.hd;obtain⟨v1,v2⟩:=hv p (by simp);rw [ak,List.append_cons] at h2;obtain⟨l,hl⟩:=Nc.ex (Oj (ps++[(cv p.1,cv p.2)])) V;have ih:=go qs (jn f p.1 p.2) (ps++[(cv p.1,cv p.2)]) l m o.tl (s.step o.iv xy hx hy) (fun q hq=>hv q (aJ _ hq)) hl h2;obtain⟨j1,j2⟩:=Nc.join v1 v2 h1 hl;have sp:=s p.1 p.2 hx hy;rw [cls,ai];unfold cl;by_cases c:f p.1=p.2
  ·rw [if_pos c];have:=j1 (sp.mpr (.inr c.symm));lia
  ·rw [if_neg c];have:=j2 (fun z=>by rcases sp.mp z with z | z; exact xy z.symm; exact c z.symm);lia
theorem Rg{α:Type}{u v:α}(h:Cn ([]:List (α×α)) u v):u=v:=by
 induction h with
 | refl x=>rfl
 | pair q=>cases q
 | symm _ ih=>exact ih.symm
 | trans _ _ a b=>exact a.trans b
theorem Lu(d:Dr rows){e:T3}(h:fr rows e≠e):∃ p∈pairsOf rows,(e=eO p.1.s\/e=eI p.2.s)/\cv rows e=p.1.s:=by
 have h2:=(uV (xu d)).mp h;obtain⟨q,hq,z⟩:=pY.mp h2;obtain⟨p,hp,rfl⟩:=List.mem_map.mp hq;refine⟨p,hp,z,?_⟩;rcases z with rfl | rfl
 ·rfl
 ·show Ri rows p.2.s=p.1.s;exact(EO d (p:=p.1) (q:=p.2) hp).2
theorem Z8(d:Dr rows):Sep (cv rows) (fr rows) []:=by
 intro e e' he he';obtain⟨p,hp,z,c⟩:=Lu d he;obtain⟨p',xP,z',c'⟩:=Lu d he';have fe:∀ p∈pairsOf rows,fr rows (eO p.1.s)=eI p.2.s/\fr rows (eI p.2.s)=eO p.1.s:=fun p hp=>pX (xu d) (List.mem_map.mpr ⟨p,hp,rfl⟩);obtain⟨f1,f2⟩:=fe p hp;obtain⟨f3,f4⟩:=fe p' xP;constructor
 ·intro h;have e1:p.1.s=p'.1.s:=by rw [<-c,<-c']; exact Rg h
  have nx:eI p.2.s=eI p'.2.s:=by rw [<-f1,<-f3,e1]
  rcases z with rfl | rfl <;> rcases z' with rfl | rfl
  ·exact .inl (by rw [e1])
  ·exact .inr (by rw [f1,nx])
  ·exact .inr (by rw [f2,e1])
  ·exact .inl nx.symm
 ·rintro(rfl | rfl)
  ·exact .refl _
  ·have:cv rows (fr rows e)=cv rows e:=by
    rcases z with rfl | rfl
    ·rw [f1,show cv rows (eI p.2.s)=p.1.s from(EO d (p:=p.1) (q:=p.2) hp).2]; rfl
    ·rw [f2,show cv rows (eI p.2.s)=p.1.s from(EO d (p:=p.1) (q:=p.2) hp).2]; rfl
   rw [this]; exact .refl _
theorem VW{V:List T2}(nd:V.Nodup):Nc V (Cn []) V.length:=⟨V,⟨nd.imp fun h z=>h (Rg z),fun x hx=>⟨x,hx,.refl _⟩,fun x h=>h⟩,rfl⟩
theorem Qo(rows:Rows):∀ c:Ch,(∀ p∈c,p.2=0\/p.2=1)->(jl c).map (fun p=>(cv rows p.1,cv rows p.2))=zE rows c
 | [],_=>rfl
 | p :: c,h=>by
  have e:jl (p :: c)=js p.1 (decide (p.2≠0))++jl c:=rfl;have e2:zE rows (p :: c)=jps rows p.1 p.2++zE rows c:=rfl;rw [e,e2,aL,Qo rows c fun q hq=>h q (aJ _ hq)];congr 1;rcases h p (by simp) with w | w <;> rw [w] <;> rfl
theorem Qm:∀ c:Ch,(jl c).length=2 * c.length
 | []=>rfl
 | p :: c=>by
  have e:jl (p :: c)=js p.1 (decide (p.2≠0))++jl c:=rfl;have:∀ w,(js p.1 w).length=2:=fun w=>by cases w <;> rfl
  rw [e,av,this,Qm c,ai]; lia
theorem Qn:∀ c:Ch,(es (jl c)).Perm ((c.map (·.1)).flatMap lM)
 | []=>.refl _
 | p :: c=>by
  have e:jl (p :: c)=js p.1 (decide (p.2≠0))++jl c:=rfl;rw [e,qC,ak,bO];exact(kB _ _).append (Qn c)
theorem YO:∀ {l:List Int},l.Nodup->(l.flatMap lM).Nodup:=by
 intro l;induction l with
 | nil=>intro _; exact cq
 | cons n l ih =>
  intro h;rw [aY] at h;rw [bO,cy];refine⟨wJ n,ih h.2,fun a ha b hb e=>?_⟩;obtain⟨m,hm,hb⟩:=List.mem_flatMap.mp hb;have e1:=pB ha;have e2:=pB hb;rw [<-e,e1] at e2;exact h.1 (e2 ▸ hm)
theorem X6{f:T3->T3}{c:Ch}(d:Dm f (c.map (·.1))):Ok f (jl c) :=
 ⟨d.iv,(Qn c).nodup_iff.mpr (YO d.nd),fun e he=>by
  obtain⟨n,hn,h⟩:=List.mem_flatMap.mp ((Qn c).mem_iff.mp he);exact d.dm n hn e h⟩
theorem MN(d:Dr rows){c:Ch}(hc:c.map (·.1)=names rows)(UT:∀ p∈c,p.2=0\/p.2=1):Nc (iC rows) (Cn (zE rows c)) (lo rows+cls (fr rows) (jl c)):=by
 obtain⟨m,hm⟩:=Nc.ex (Oj (zE rows c)) (iC rows);have sn:=xi.FN d;have Zz:∀ p∈zE rows c,p.1∈iC rows/\p.2∈iC rows:=fun p hp=>by
  have:=xi.Pj d (fun q hq=>by rw [<-hc]; exact bA hq) p hp;unfold iC;rw [(jm _).mem_iff,(jm _).mem_iff,(xi.gV rows 0).mem_iff,(xi.gV rows 0).mem_iff];exact⟨cH _ this.1,cH _ this.2⟩
 have dm:=Hk d;rw [<-hc] at dm;have h:=go (jl c) (fr rows) [] (iC rows).length m (X6 dm) (Z8 d) (fun p hp=>Zz (cv rows p.1,cv rows p.2) (by rw [<-Qo rows c UT]; exact List.mem_map.mpr ⟨p,hp,rfl⟩)) (VW sn) (by rw [aM,Qo rows c UT]; exact hm);have l1:(iC rows).length=rows.flatten.length+lo rows:=by
  unfold iC;rw [vD,(xi.gV rows 0).length_eq,av,ao,xi.Dx];congr 1;unfold xi.HS lo;congr 1;refine List.filter_congr fun r _=>?_;cases r <;> rfl
 have l2:(jl c).length=rows.flatten.length:=by
  have e:c.length=(names rows).length:=by rw [<-hc,ao]
  rw [Qm,e];exact(Mj.twice d).symm
 rw [show lo rows+cls (fr rows) (jl c)=m by lia];exact hm
theorem U7(rows:Rows):∀ (l:List Int) (f:T3->T3) (g:Fn),Br f (xh rows l) g=B0.SS l fun c=>kL (cls f (jl c)) (sh (MP rows c) g) 0
 | [],f,g=>by
  show g 0=sh 0 g 0;rw [Lb]
 | n :: l,f,g=>by
  have st:∀ (w:Int) (b:Bool) (h:Int),b=decide (w≠0)->Pd (handOf rows n) w=h->Br (mV f (js n b)) (xh rows l) (kL (cls f (js n b)) (sh h g))=B0.SS l fun c=>kL (cls f (jl ((n,w) :: c))) (sh (MP rows ((n,w) :: c)) g) 0:=fun w b h e1 e2=>by
   rw [U7 rows l];congr 1;funext c;have e3:jl ((n,w) :: c)=js n b++jl c:=by rw [e1]; rfl
   have e4:MP rows ((n,w) :: c)=h+MP rows c:=by
    rw [<-e2];unfold MP;rw [ak,uB]
   rw [e3,e4,rz,<-u3,O2,<-Ei,Nat.add_comm,Fd]
  show Br (mV f (js n false)) (xh rows l) (kL (cls f (js n false)) (sh (handOf rows n) g))+Br (mV f (js n true)) (xh rows l) (kL (cls f (js n true)) (sh (-handOf rows n) g))=B0.SS l _+B0.SS l _;rw [st 0 false (handOf rows n) rfl rfl,st 1 true (-handOf rows n) rfl rfl]
theorem BC:∀ (l:List Int) (F F':Ch->Int),(∀ c:Ch,c.map (·.1)=l->(∀ p∈c,p.2=0\/p.2=1)->F c=F' c)->B0.SS l F=B0.SS l F'
 | [],F,F',h=>h [] rfl (fun p hp=>nomatch hp)
 | n :: l,F,F',h=>by
  show B0.SS l _+B0.SS l _=B0.SS l _+B0.SS l _;rw [BC l _ (fun c=>F' ((n,0) :: c)) fun c hc UT=>h _ (by rw [ak,hc]) fun p hp=>?_,BC l _ (fun c=>F' ((n,1) :: c)) fun c hc UT=>h _ (by rw [ak,hc]) fun p hp=>?_]
  ·rcases List.mem_cons.mp hp with rfl | hp
   ·exact .inr rfl
   ·exact UT p hp
  ·rcases List.mem_cons.mp hp with rfl | hp
   ·exact .inl rfl
   ·exact UT p hp
theorem TZ(d:Dr rows)(g:Fn):B0.BS rows (names rows) g=brk rows g:=by
 show B0.SS (names rows) (B0.term rows g)=Br (fr rows) (xh rows (names rows)) (kL (lo rows) g);rw [U7];refine BC _ _ _ fun c hc UT=>?_;unfold B0.term;rw [B0.Y6 (MN d hc UT)];have:=rD (lo rows+cls (fr rows) (jl c)) (sh (MP rows c) g);refine Eq.trans this ?_;rw [<-u3,<-Ei,Nat.add_comm]
end JK
end K2
end
section
namespace K2
namespace JB
open K2.P K2.J
section
variable {α:Type}
def Iu:List α->List (α×α)
 | a :: b :: l=>(a,b) :: Iu (b :: l)
 | _=>[]
def ZP:List α->List (α×α)
 | []=>[]
 | a :: l=>Iu (a :: l++[a])
theorem BB(a b:α)(l:List α):Iu (a :: b :: l)=(a,b) :: Iu (b :: l):=rfl
theorem E4:∀ (xs:List α) (m:α) (ys:List α),Iu (xs++m :: ys)=Iu (xs++[m])++Iu (m :: ys)
 | [],m,ys=>rfl
 | [a],m,ys=>rfl
 | a :: b :: xs,m,ys=>by
  rw [aE,aE,BB,aE,aE,BB,aE];congr 1;exact E4 (b :: xs) m ys
theorem KW:∀ (l:List α) (c:α),l.zip (l.drop 1++[c])=Iu (l++[c])
 | [],_=>rfl
 | [a],c=>rfl
 | a :: b :: l,c=>by
  rw [aE,aE,BB];show (a,b) :: (b :: l).zip (l++[c])=_;congr 1;exact KW (b :: l) c
theorem TJ(A B:List α):(ZP (A++B)).Perm (ZP (B++A)):=by
 cases A with
 | nil=>rw [aM,cj]
 | cons a A =>
  cases B with
  | nil=>rw [aM,cj]
  | cons b B =>
   show (Iu (a :: A++b :: B++[a])).Perm (Iu (b :: B++a :: A++[b]));have e1:Iu (a :: A++b :: B++[a])=Iu (a :: A++[b])++Iu (b :: B++[a]):=by
    rw [bP]; exact E4 (a :: A) b (B++[a])
   have e2:Iu (b :: B++a :: A++[b])=Iu (b :: B++[a])++Iu (a :: A++[b]):=by
    rw [bP]; exact E4 (b :: B) a (A++[b])
   rw [e1,e2];exact oS
end
theorem Si(r:List T3):r.zip (jJ r)=ZP r:=by
 cases r with
 | nil=>rfl
 | cons a l=>exact KW (a :: l) a
theorem j8(rows:Rows):pairsOf rows=rows.flatMap ZP:=by
 unfold pairsOf;congr 1;funext r;exact Si r
theorem tm{α β:Type}(f:α->List β):∀ {rows:List α} {i:Nat} {r r':α},rows[i]?=some r->((rows.set i r').flatMap f).Perm (f r'++(rows.eraseIdx i).flatMap f)
 | [],_,_,_,h=>by simp at h
 | a :: rows,0,r,r',h=>by rw [aj,bO,N6]
 | a :: rows,i+1,r,r',h=>by
  rw [aq,bO,N7,bO];refine((tm f (rows:=rows) (i:=i) (r:=r) (by simpa using h)).append_left _).trans ?_;rw [<-bP,<-bP];exact List.perm_append_comm.append_right _
theorem J9{α β:Type}(f:α->List β){rows:List α}{i:Nat}{r:α}(h:rows[i]?=some r):(rows.flatMap f).Perm (f r++(rows.eraseIdx i).flatMap f):=by
 have:=tm f (r':=r) h;have e:rows.set i r=rows:=by
  obtain⟨hi,e⟩:=List.getElem?_eq_some_iff.mp h;rw [<-e]; exact RP hi
 rw [e] at this; exact this
theorem QO{rows:Rows}{i:Nat}{r r':List T3}(h:rows[i]?=some r):(rows.set i r').flatten.Perm (r'++(rows.eraseIdx i).flatten):=by
 have:=tm (fun r:List T3=>r) (r':=r') h;simpa [List.flatMap_id'] using this
theorem Tx{rows:Rows}{i:Nat}{r:List T3}(h:rows[i]?=some r):rows.flatten.Perm (r++(rows.eraseIdx i).flatten):=by
 have:=J9 (fun r:List T3=>r) h;simpa [List.flatMap_id'] using this
end JB
end K2
end
section
namespace K2
open PySem (Str)
open Enc (enc)
namespace JB
open K2.T
open K2.P (names handOf gx ib lV Es pairsOf)
open K2.Y (kX pick ko kr b8 eM cW gP)
open K2.Ii (AL iW nZ)
open K2.xi (Em yC qV)
def fA:kC:=Ii.fA
def pj:iq :=
 (cE (cJ (gf 1 [] (ka (au 0)) (aG 0) none (oK wW (aw (au 0) aQ)))))
theorem pH(ds:List D)(G:Gp)(Q:DK)(h:fA ds G Q fun _ _=>False):pj (fun _ _=>False) (ends Q) (bg 1 ds) G:=Ii.pH ds G Q h
def gX:kC:=Ii.gX
def ph:iq :=
 (bY (Ki (jD (br (Of false) (au 1) (au 0))) (bB (br ic (br sR (au 1) (dC (.int 999))) (dC (.int 1))) (aG 1)))
 (cE (cJ (au 1))))
theorem pG(ds:List D)(G:Gp)(Q:DK)(h:gX ds G Q fun _ _=>False):ph (fun _ _=>False) (ends Q) (bg 2 ds) G:=Ii.pG ds G Q h
def Ap:iq :=
 (bY (bB (bC fA (aw (au 0) aQ)) (aG 4))
 (bY (bB (br sR (au 2) (br ic (oK sd (aw (br mD (au 4) (au 1)) aQ)) (dC (.int 1)))) (aG 2))
 (bY (bB (br ic (br ic (zk (br mD (au 4) (au 1)) ft (nH (au 2))) (au 3)) (zk (br mD (au 4) (au 1)) (nH (au 2)) ft)) (kb (au 4) (au 1)))
 (cE (cJ (au 4))))))
def kJ:kC:=fun ds G Q _=>∃ (rs:List (List D)) (i:Nat) (pl:Int) (more:List D),ds=[.dN (rs.map D.dN),.int i,.int pl,.dN more]/\(i < rs.length/\rs.length<=1000/\(∀ r∈rs,r.length<=500)/\more.length<=100)/\∀ (r:List D) (k:Nat),rs[i]?=some r->k<=r.length->(k:Int)=pl % ((r.length:Int)+1)->Q (.dN ((rs.set i (r.take k++more++r.drop k)).map D.dN)) G
theorem BH(ds:List D)(G:Gp)(Q:DK)(h:kJ ds G Q fun _ _=>False):Ap (fun _ _=>False) (ends Q) (bg 5 ds) G:=by
 obtain⟨rs,i,pl,more,rfl,⟨hi,hl,hr,hm⟩,q⟩:=h;unfold Ap;simp only [ends,bg,ak,aS,ai,aB,aR,aE,aM,cx,bB,bC,aw,au,aa,aQ,aG,aq,aj,br,ae,oK,dC,zk,ft,kb,cE,cJ,jE];refine⟨rs,rfl,hl,fun G1 p0 as h1=>?_⟩;obtain⟨r,er⟩:∃ r,rs[i]?=some r:=⟨rs[i],aC hi⟩;have hrl:=hr r (gO er);obtain⟨a,ea,ga,ia⟩:=h1.row (i:=i) (r:=r) er;refine Jl (IsL.ref h1.gp) ia (pD (IsL.ref ga) ?_);simp only [dq,iU,fU];refine⟨by lia,?_⟩;have c1:0<=pl % ((r.length:Int)+1):=kE _ (by lia);have c2:pl % ((r.length:Int)+1) < (r.length:Int)+1:=iH _ (by lia);generalize ec:pl % ((r.length:Int)+1)=c at c1 c2;obtain⟨k,rfl⟩:∃ k:Nat,c=(k:Int):=⟨c.toNat,by lia⟩;have hk:k<=r.length:=by lia
 refine Jl (IsL.ref h1.gp) ia (sQ (IsL.ref ga) fun p1 f1=>?_);rw [EM _ _ hk];have l1:=fh.new (o:=.lst (r.take k)) f1;refine zD (IsL.ref ax) (IsL.dN) (by rw [eB]; exact Aa (by lia)) fun p2 f2=>?_;have l2:=fh.new (o:=.lst (r.take k++more)) f2;have Zx:=l1.trans l2;refine Jl (IsL.ref (Zx _ _ h1.gp)) ia (sQ (IsL.ref (Zx _ _ ga)) fun p3 f3=>?_);rw [wQ _ _ hk];have l3:=fh.new (o:=.lst (r.drop k)) f3;refine zD (IsL.ref (l3 _ _ ax)) (IsL.ref ax) (by simp only [av,eB,cP]; exact Aa (by lia)) fun p4 f4=>?_;have l4:=fh.new (o:=.lst (r.take k++more++r.drop k)) f4;have h4:=h1.ext ((Zx.trans l3).trans l4);have hn:∀ o,G1 p4≠some o:=fun o z=>by
  have:=(Zx.trans l3) _ _ z;rw [f4] at this; cases this
 have n4:p4∉as:=fun z=>by
  obtain⟨j,hj⟩:=pT z;have W5:j < rs.length:=by rw [<-h1.len]; exact(List.getElem?_eq_some_iff.mp hj).1
  exact hn _ (h1.at' j p4 _ hj (aC W5))
 have n0:p4≠p0:=fun z=>hn _ (by rw [z]; exact h1.gp);have hf4:G p4=none:=by
  cases e:G p4 with
  | none=>rfl
  | some o=>exact absurd (h1.le _ _ e) (hn o)
 have hj:i < as.length:=(List.getElem?_eq_some_iff.mp ea).1;have h5:=h4.O8 (r':=r.take k++more++r.drop k) hj ax n4 hf4 n0;unfold Ah;simp only [h4.gp];have ei:LM (as.map D.ref).length (i:Int)=some i:=by
  unfold LM;rw [if_pos (by lia),if_pos (by rw [ao]; lia)]; simp
 simp only [ei];have es:(as.map D.ref).set i (.ref p4)=(as.set i p4).map D.ref:=by rw [List.map_set]
 rw [es];refine h5.fz ?_;exact q r k er hk ec.symm
theorem Pf{α:Type} [DecidableEq α] [Enc α]{G:Gp}{Q:DK}{rows:List (List α)}{i:Nat}{pl:Int}{more:List α}(h:i < rows.length/\rows.length<=1000/\(∀ r∈rows,r.length<=500)/\more.length<=100)
  (q:∀ (r:List α) (k:Nat),rows[i]?=some r->k<=r.length->(k:Int)=pl % ((r.length:Int)+1)->Q (enc (rows.set i (r.take k++more++r.drop k))) G):kJ [enc rows,.int i,.int pl,enc more] G Q fun _ _=>False:=by
 refine⟨rows.map fun r=>r.map enc,i,pl,more.map enc,by rw [iW]; rfl,⟨by rw [ao]; exact h.1,by rw [ao]; exact h.2.1,fun r hr=>?_,by rw [ao]; exact h.2.2.2⟩,fun r k hr hk e=>?_⟩
 ·obtain⟨r',Yj,rfl⟩:=List.mem_map.mp hr;rw [ao]; exact h.2.2.1 r' Yj
 ·rw [bx] at hr;obtain⟨r',Yj,rfl⟩:=Option.map_eq_some_iff.mp hr;rw [ao] at hk e;have:=q r' k Yj hk e;rw [iW,List.map_set,aL,aL,List.map_take,List.map_drop] at this;exact this
theorem Dr.two{rows R:Rows}(d:Dr rows){m h:Int}(hm:∀ p∈rows.flatten,p.a≠m)(hh:h=1\/h=-1)(hp:R.flatten.Perm (⟨m,1,h⟩ :: ⟨m,0,h⟩ :: rows.flatten))(EA:rows.flatten.length<=22)(str:R.length<=3):Dr R:=by
 have mem:∀ p,p∈R.flatten↔p=⟨m,1,h⟩\/p=⟨m,0,h⟩\/p∈rows.flatten:=fun p=>by rw [hp.mem_iff,bb,bb]
 refine⟨?_,fun p h1=>?_,fun p h1=>?_,fun p h1=>?_,?_,str⟩
 ·refine(hp.map T3.s).nodup_iff.mpr ?_;rw [ak,ak,aY,aY];have out:∀ w:Int,(⟨m,w⟩:T2)∉rows.flatten.map T3.s:=fun w z=>by
   obtain⟨p,xP,e⟩:=List.mem_map.mp z;injection e with e1 _
   exact hm p xP e1
  refine⟨fun z=>?_,out 0,d.nd⟩;rcases List.mem_cons.mp z with z | z
  ·injection z with _ z2; cases z2
  ·exact out 1 z
 ·rcases (mem p).mp h1 with rfl | rfl | h1
  ·exact .inr rfl
  ·exact .inl rfl
  ·exact d.way p h1
 ·rcases (mem p).mp h1 with rfl | rfl | h1
  ·exact hh
  ·exact hh
  ·exact d.hand p h1
 ·rcases (mem p).mp h1 with rfl | rfl | h1
  ·exact(mem _).mpr (.inr (.inl rfl))
  ·exact(mem _).mpr (.inl rfl)
  ·exact(mem _).mpr (.inr (.inr (d.JG p h1)))
 ·rw [hp.length_eq,ai,ai]; lia
theorem Dr.nil{S:Nat}(h:S<=3):Dr (aR S []):=by
 have e:(aR S ([]:List T3)).flatten=[]:=by
  rw [List.flatten_eq_nil_iff]; intro l hl; exact(List.mem_replicate.mp hl).2
 refine⟨by rw [e]; exact cq,fun p hp=>?_,fun p hp=>?_,fun p hp=>?_,by rw [e]; simp,by simpa using h⟩ <;> rw [e] at hp <;> cases hp
theorem GX{rows:Rows}{i k:Nat}{r more:List T3}(hr:rows[i]?=some r):(rows.set i (r.take k++more++r.drop k)).flatten.Perm (more++rows.flatten):=by
 refine(QO hr).trans ?_;refine List.Perm.trans ?_ ((Tx hr).symm.append_left _);rw [<-bP];refine List.Perm.append_right _ ?_
 conv=>rhs; rw [<-oR k r]
 rw [<-bP];exact List.perm_append_comm.append_right _
def ab8(rows:Rows)(ns:List Int):Prop:=∀ p∈rows.flatten,p.a∈ns
def fj:kC:=fun ds G Q _=>∃ (d:D) (cells:List Int) (S:Nat) (sp:Int),ds=[d,.int S,.int sp]/\IsL G d (cells.map D.int)/\(cells.length<=12/\(1<=S/\S<=3)/\1<=sp/\sp<=999) /\
 ∀ rows:Rows,Dr rows->rows.length=S->rows.flatten.length=2 * cells.length->Q (enc rows) G
end JB
namespace JB
open K2.P K2.J
open K2.Y (Po L ND NZ fY jw fT iK b8 cW kX pick ko kr Pl EE)
open K2.Ii (iW)
open K2.xi (yC qV gW)
variable {rows:Rows}
def wr(rows:Rows):Int:=((names rows).map (handOf rows)).sum
def hs(L:List T3):Int:=((L.filter fun p=>p.b == 0).map (·.c)).sum
def Zv(L:List T3):List (Int×Int):=(L.filter fun p=>p.b == 0).map fun p=>(p.a,p.c)
theorem LA(d:Dr rows):(nh rows).Perm (Zv rows.flatten):=by
 unfold nh names;refine((jm _).map _).trans ?_;rw [bh];unfold Zv;have:((rows.flatten.filter fun p=>p.b == 0).map ((fun n=>(n,handOf rows n))∘fun p:T3=>p.a))=(rows.flatten.filter fun p=>p.b == 0).map fun p=>(p.a,p.c):=by
  refine dB fun p hp=>?_;show (p.a,handOf rows p.a)=_;rw [Es d (List.mem_filter.mp hp).1]
 rw [this]
theorem PT{a b:List T3}(h:a.Perm b):(Zv a).Perm (Zv b):=(h.filter _).map _
theorem VU(rows:Rows):(nh rows).map (·.1)=names rows:=by
 unfold nh;rw [bh];exact lI _
end JB
end K2
end
section
set_option maxHeartbeats 1000000
end
section
namespace K2
open Enc (enc)
namespace JD
open K2.P K2.J K2.JB
section
variable {nm:Nat->Int} (inj:∀ i j,i < 12->j < 12->vv nm i=vv nm j->i=j)
include inj
omit inj in
end
def VJ(o:Bool)(p q:T3):List T3:=if o then [p,q] else [q,p]
def prs(a b c h0 h1 h2:Int)(o m u:Bool):List (List T3):=[VJ o ⟨a,0,h0⟩ ⟨b,0,h1⟩,VJ m ⟨a,1,h0⟩ ⟨c,0,h2⟩,VJ u ⟨b,1,h1⟩ ⟨c,1,h2⟩]
end JD
namespace JE
open K2.P K2.J K2.JB
theorem OR{A B:List (T3×T3)}(h:A.Perm B):(Oc A).Perm (Oc B):=h.map _
theorem Xz{A B:List (T3×T3)}(h:A.Perm B)(nd:(es (Oc A)).Nodup):pt (Oc A)=pt (Oc B):=SK (OR h) nd
def ex(X:Int)(p:T3):T3:=if p.a=X then ⟨X,1 - p.b,-p.c⟩ else p
theorem Dr.perm{rows R:Rows}(d:Dr rows)(h:R.flatten.Perm rows.flatten)(str:R.length<=3):Dr R :=
 ⟨(h.map _).nodup_iff.mpr d.nd,fun p hp=>d.way p (h.mem_iff.mp hp),fun p hp=>d.hand p (h.mem_iff.mp hp),fun p hp=>h.mem_iff.mpr (d.JG p (h.mem_iff.mp hp)),by rw [h.length_eq]; exact d.EA,str⟩
end JE
end K2
end
section
namespace K2
open PySem (Str)
open Enc (enc)
namespace JE
open K2.P K2.J K2.JB
open K2.Y (Po kX pick ko kr b8 eM cW gP)
open K2.Ii (AL iW nZ)
open K2.xi (Em yC qV)
def Dg(f s:Int):Prop:=0<=f/\f < s
def WR:List Int->List Int->Prop
 | [],[]=>True
 | f :: fs,s :: ss=>Dg f s/\WR fs ss
 | _,_=>False
def prim:List Int:=[10007,10009,10037,10039,10061,10067,10069,10079,10091,10093]
def uG:iq :=
 (bY (bB (gG (aw (dC (.int 10007)) (aw (dC (.int 10009)) (aw (dC (.int 10037)) (aw (dC (.int 10039)) (aw (dC (.int 10061)) (aw (dC (.int 10067)) (aw (dC (.int 10069)) (aw (dC (.int 10079)) (aw (dC (.int 10091)) (aw (dC (.int 10093)) aQ))))))))))) (aG 2))
 (bY (bB (br yB (au 0) (dC (.int 2))) (aG 3))
 (bY (bB (gG aQ) (aG 4))
 (bY (dF (Ha (au 1)) (ig (cL (aG 5) (cL (aG 6) hU))) (jF (jD (br (Fg false) (br sR (au 0) (dC (.int 2))) (dC (.int 0)))) (bY (jg (r8 DO mr (au 4) (aw (br sR (au 3) (au 6)) aQ)))
 (bB (br yB (au 3) (au 6)) (aG 3))) (jg (r8 DO mr (au 4) (aw (bC cW (aw (au 0) (aw (br mD (au 2) (au 5)) (aw (au 6) aQ)))) aQ)))))
 (cE (cJ (au 4)))))))
def hZ:kC:=fun ds G Q _=>∃ (cell:Int) (vH:List Int),ds=[.int cell,enc vH]/\(vH.length<=10/\∀ s∈vH,1<=s/\s<=10000)/\∀ fs:List Int,WR fs vH->Q (enc fs) G
theorem EB:∀ {fs ss:List Int} {f s:Int},WR fs ss->Dg f s->WR (fs++[f]) (ss++[s])
 | [],[],_,_,_,k=>⟨k,trivial⟩
 | _ :: _,[],_,_,h,_=>h.elim
 | [],_ :: _,_,_,h,_=>h.elim
 | _ :: _,_ :: _,_,_,h,k=>⟨h.1,EB h.2 k⟩
theorem Kb:∀ {fs ss:List Int},WR fs ss->fs.length=ss.length
 | [],[],_=>rfl
 | _ :: _,[],h=>h.elim
 | [],_ :: _,h=>h.elim
 | _ :: _,_ :: _,h=>by rw [ai,ai,Kb h.2]
theorem QU(xs:List Int):lL 0 (xs.map enc)=(xs.zipIdx 0).map fun p=>D.tup [.int (p.2:Int),.int p.1]:=by
 have:∀ (xs:List Int) (k:Nat),lL k (xs.map enc)=(xs.zipIdx k).map fun p=>D.tup [.int (p.2:Int),.int p.1]:=by
  intro xs;induction xs with
  | nil=>intro k; rfl
  | cons x xs ih =>
   intro k;show D.tup [.int (k:Int),.int x] :: lL (k+1) (xs.map enc)=_;rw [ih (k+1)]; rfl
 exact this xs 0
theorem uM(ds:List D)(G:Gp)(Q:DK)(h:hZ ds G Q fun _ _=>False):uG (fun _ _=>False) (ends Q) (bg 7 ds) G:=by
 obtain⟨cell,vH,rfl,⟨hl,hs⟩,q⟩:=h;unfold uG;simp only [↓cx,bB,gG,aw,dC,aQ,↓ai,↓aB,aG,br,au,bg,↓ak,↓aS,aR,↓aE,↓aM,↓aq,↓aj,↓aa,↓jK,ends];refine⟨by decide,fun p2 f2=>⟨by decide,by decide,by decide,fun p4 f4=>?_⟩⟩;have n24:p2≠p4:=fun z=>by rw [<-z,ax] at f4; cases f4
 have f4':G p4=none:=(fh.new f2).free f4;refine eG (fun τ G'=>∃ fs:List Int,WR fs vH/\fh G G'/\G' p4=some (.lst (fs.map enc))/\∃ a3 a5 a6,τ=[some (.int cell),some (enc vH),some (.ref p2),a3,some (.ref p4),a5,a6]) ?_ ?_
 ·intro N hN;simp only [dF,Ha,au,↓ae,↓aa];refine yL ?_;rw [QU];refine cX (xs:=vH.zipIdx 0) (fun pre τ G'=>∃ (fs:List Int) (left:Int) (a5 a6:Option D),WR fs (pre.map (·.1))/\fh G G'/\G' p2=some (.lst (prim.map D.int))/\G' p4=some (.lst (fs.map enc))/\τ=[some (.int cell),some (enc vH),some (.ref p2),some (.int left),some (.ref p4),a5,a6])
   ⟨[],_,_,_,trivial,(fh.new f2).trans (.new f4),by rw [cw n24,ax]; rfl,ax,rfl⟩ (fun _ _ _ _=>trivial) ?_ ?_
  ·rintro pre x post τ G' N2 e ⟨fs,left,a5,a6,fa,le,g2,g4,rfl⟩ lB;obtain⟨lf,rt,e1,e2,e3⟩:=vt e;have hx:1<=x.1/\x.1<=10000:=hs x.1 (by rw [e1]; simp);have hlf:lf.length < 10:=by have:=congrArg cM e1; simp at this; lia
   simp only [ig,cL,aG,hU,jF,↓eD,br,au,↓aq,↓aj,↓aa,dC,↓iU,↓vJ,jg,r8,↓ae,↓k7,aw,aQ,↓iM,bB,↓jK,bC];refine⟨by decide,_,_,.int _,.int _,?_⟩;simp only [↓b9,↓ay,nk,↓if_false];by_cases c:cell % 2=0
   ·have c':(cell % 2 == 0)=true:=by simpa using c
    simp only [c',g4,↓true_and,↓if_true];refine⟨by lia,by rw [ao]; exact ME (by have:=Kb fa; rw [this,e3,ao,List.length_zipIdx]; lia),by lia,by lia,?_⟩;refine lB _ _ ⟨fs++[left % x.1],_,_,_,by rw [aL]; exact EB fa ⟨kE _ (by lia),iH _ (by lia)⟩,le.put f4',by rw [cw n24]; exact g2,by rw [ax,aL]; rfl,rfl⟩
   ·have c':(cell % 2 == 0)=false:=by simpa using c
    simp only [c',↓ay,g4,↓true_and,↓if_false];rw [DY,g2];have ea:∃ pr:Int,uf (prim.map D.int) (x.2:Int)=some (.int pr)/\1<=pr/\pr<=10093:=by
     have hk:x.2 < prim.length:=by rw [e2]; exact hlf
     refine⟨prim[x.2],?_,?_⟩
     ·rw [ue _ (by lia) (by rw [ao]; lia)];simp only [eF,o9]
     ·have:∀ y∈prim,1<=y/\y<=10093:=by decide
      exact this _ (gI hk)
    obtain⟨pr,ea,pr1,pr2⟩:=ea;simp only [ea];refine⟨_,_,_,rfl,⟨by lia,by lia⟩,?_⟩;simp only [g4];refine⟨by rw [ao]; exact ME (by have:=Kb fa; rw [this,e3,ao,List.length_zipIdx]; lia),?_⟩;refine lB _ _ ⟨fs++[pick cell pr x.1],_,_,_,by rw [aL]; exact EB fa ⟨ko _ _ (by lia),kr _ _ (by lia)⟩,le.put f4',by rw [cw n24]; exact g2,by rw [ax,aL]; rfl,rfl⟩
  ·rintro τ G' ⟨fs,left,a5,a6,fa,le,g2,g4,rfl⟩;rw [qG] at fa;exact hN _ _ ⟨fs,fa,le,g4,_,_,_,rfl⟩
 ·rintro _ G' ⟨fs,fa,le,g4,a3,a5,a6,rfl⟩;simp only [cE,cJ,au,↓ae,↓aa];exact gS le f4' g4 (q fs fa)
section
variable (a b c d e f:D)
theorem x0:uf [a,b,c,d,e,f] 0=some a:=rfl
theorem x1:uf [a,b,c,d,e,f] 1=some b:=rfl
theorem x2:uf [a,b,c,d,e,f] (2+2 * 0)=some c:=rfl
theorem x3:uf [a,b,c,d,e,f] (3+2 * 0)=some d:=rfl
theorem x4:uf [a,b,c,d,e,f] (2+2 * 1)=some e:=rfl
theorem x5:uf [a,b,c,d,e,f] (3+2 * 1)=some f:=rfl
end
def lu:iq :=
 (bY (EK 3 (bB (gf 1 [] (A7 (au 1)) (aG 0) none (gG aQ)) (aG 3)))
 (bY (bB (gG aQ) (aG 4))
 (bY (dF (ka (au 0)) (aG 5) (bY (bB (bC hZ (aw (cJ (au 5)) (aw (cJ (gG (aw (au 2) (aw (dC (.int 2)) (aw (au 1) (aw (dC (.int 10000)) (aw (au 1) (aw (dC (.int 10000)) aQ)))))))) aQ))) (aG 6))
 (bY (bB (bC gX (aw (au 4) (aw (br ic (dC (.int 1)) (br mD (au 6) (dC (.int 0)))) aQ))) (aG 7))
 (bY (jg (r8 DO mr (au 4) (aw (au 7) aQ)))
 (dF (A7 (dC (.int 2))) (aG 8) (bB (cJ (bC kJ (aw (cJ (au 3)) (aw (cJ (br mD (au 6) (br ic (dC (.int 2)) (br DW (dC (.int 2)) (au 8))))) (aw (cJ (br mD (au 6) (br ic (dC (.int 3)) (br DW (dC (.int 2)) (au 8))))) (aw (cJ (gG (aw (ij (aw (au 7) (aw (au 8) (aw (br SA (dC (.int 1)) (br DW (dC (.int 2)) (br mD (au 6) (dC (.int 1))))) aQ)))) aQ))) aQ)))))) (aG 3)))))))
 (cE (cJ (au 3))))))
def fj:kC:=JB.fj
theorem oQ(ds:List D)(G:Gp)(Q:DK)(h:fj ds G Q fun _ _=>False):lu (fun _ _=>False) (ends Q) (bg 9 ds) G:=by
 obtain⟨d,cells,S,sp,rfl,hd,⟨JV,⟨hS1,hS3⟩,sp1,sp2⟩,q⟩:=h;unfold lu;simp only [ends,bg,ak,aS,ai,aB,aR,aE,aM,vI,nZ,bB,gf,aG,aq,aj,ae,aa,gG,aQ,qA,au,oj,eF];have Yi:(-(2 ^ 62):Int)<=(S:Int)/\(S:Int) < 2 ^ 62:=by lia
 refine⟨Yi.1,Yi.2,Aa (by simp [ja]; lia),?_⟩;refine TK (fun pre acc τ G'=>(∃ a,τ=[a])/\∃ as:List Nat,acc=as.map D.ref/\AL G G' as (aR pre.length [])) ⟨⟨_,rfl⟩,[],rfl,.nil G⟩ (fun _ _ _ _ _=>trivial) ?_ ?_
 ·rintro pre x post acc τ G' N e ⟨⟨a,rfl⟩,as,rfl,al⟩ hN;simp only [aG,gG,aQ,aB,aj];refine⟨by decide,fun p hp=>hN _ _ _ ⟨⟨_,rfl⟩,as++[p],by simp,?_⟩⟩;rw [av,cU,Sd];exact al.push hp []
 rintro acc τ G' ⟨⟨a,rfl⟩,as,rfl,al⟩ p3 f3;refine(al.top f3).fz ?_;have e3:D.dN ((aR (ja 0 S).length ([]:List D)).map D.dN)=enc (aR S ([]:List T3)):=by
  rw [iW]; simp [ja]
 rw [e3];clear al f3 p3 as G' a e3;refine⟨by decide,fun p6 f6=>?_⟩;simp only [dF];simp only [dM,au,aa];refine Em hd (.new f6) fun ok cu=>?_;refine cX (xs:=cells) (f:=D.int) (fun pre τ G'=>fh G G'/\∃ (rows:Rows) (ns:List Int) (a1 a2 a3 a4:Option D),(Dr rows/\rows.length=S/\rows.flatten.length=2 * pre.length/\ns.length=pre.length/\ab8 rows ns)/\G' p6=some (.lst (ns.map D.int)) /\
  τ=[some d,some (.int S),some (.int sp),some (enc rows),some (.ref p6),a1,a2,a3,a4]) ⟨.new f6,_,[],_,_,_,_,⟨Dr.nil hS3,by simp,by simp,rfl,fun p hp=>by simp at hp⟩,ax,rfl⟩ (fun _ _ _ h=>cu _ h.1) ?_ ?_
 ·rintro pre x post τ G' N2 e ⟨le,rows,ns,a1,a2,a3,a4,⟨dr,hlen,hfl,YD,Yp⟩,g6',rfl⟩ lB;have hlp:=gP e;simp only [aG,aq,aj,vI,bB,bC,aw,cJ,au,ae,aa,gG,dC,aQ,ai,aB,br,jg,r8,k7,iM];refine du ⟨by decide,fun p7 f7=>?_⟩;refine gS (xs:=([sp,2,(S:Int),10000,(S:Int),10000]:List Int)) (.new f7) f7 ax ?_;refine⟨_,_,rfl,⟨by simp,fun s hs=>by simp only [bb,bG,or_false] at hs; lia⟩,fun fs fa=>?_⟩
  match fs,fa with
  | [d0,d1,d2,d3,d4,d5],⟨⟨a0,b0⟩,⟨a1',b1⟩,⟨a2',b2⟩,⟨a3',b3⟩,⟨a4',b4⟩,⟨a5',b5⟩,_⟩ =>
  have e6:(enc [d0,d1,d2,d3,d4,d5]:D)=.dN [.int d0,.int d1,.int d2,.int d3,.int d4,.int d5]:=rfl;rw [e6];simp only [mC,x0,dq];refine⟨.ref p6,ns,_,rfl,IsL.ref g6',⟨by lia,by lia,by lia⟩,fun m m1 m2 m3=>?_⟩;simp only [g6',true_and];refine⟨ME (by rw [ao]; lia),?_⟩;have GP:fh G (dH G' p6 (.lst (ns.map D.int++[.int m]))):=le.put f6;have g62:(dH G' p6 (.lst (ns.map D.int++[.int m]))) p6=some (.lst (ns.map D.int++[.int m])):=ax;generalize dH G' p6 (.lst (ns.map D.int++[.int m]))=G2 at GP g62;have hh:(1 - 2 * d1)=1\/(1 - 2 * d1)=-1:=by lia
  simp only [dF];simp only [qA,dC,oj];refine⟨by decide,by decide,?_⟩;have er:ja 0 (Int.toNat 2)=([0,1]:List Int).map D.int:=rfl;rw [er];have rl:=Vt dr;have fw:=dr.EA;obtain⟨i,rfl⟩:∃ i:Nat,d2=(i:Int):=⟨d2.toNat,by lia⟩;obtain⟨j,rfl⟩:∃ i:Nat,d4=(i:Int):=⟨d4.toNat,by lia⟩;have hmf:∀ p∈rows.flatten,p.a≠m:=fun p hp z=>m1 (z ▸ Yp p hp);refine cX (xs:=([0,1]:List Int)) (f:=D.int) (fun sV τ G3=>G2=G3/\∃ (R:Rows) (b1:Option D),((sV=[]/\R=rows)\/(∃ (i:Nat) (r:List T3) (k:Nat),sV=[0]/\i < S/\rows[i]?=some r/\R=rows.set i (r.take k++[⟨m,0,1 - 2 * d1⟩]++r.drop k))\/(sV=[0,1]/\Dr R/\R.length=S/\R.flatten.Perm (⟨m,1,1 - 2 * d1⟩ :: ⟨m,0,1 - 2 * d1⟩ :: rows.flatten))) /\
   τ=[some d,some (.int S),some (.int sp),some (enc R),some (.ref p6),some (.int x),some (.dN [.int d0,.int d1,.int i,.int d3,.int j,.int d5]),some (.int m),b1]) ⟨rfl,rows,_,.inl ⟨rfl,rfl⟩,rfl⟩ (fun _ _ _ _=>trivial) ?_ ?_
  ·rintro sV w Pm τ G3 N3 e2 ⟨rfl,R,b1,J,rfl⟩ Bc;have WG:(sV=[]/\w=0)\/(sV=[0]/\w=1):=by
    cases sV with
    | nil=>cases e2; exact .inl ⟨rfl,rfl⟩
    | cons u sV =>
     cases sV with
     | nil=>cases e2; exact .inr ⟨rfl,rfl⟩
     | cons v sV =>
      have:=congrArg cM e2;simp at this
   rcases WG with ⟨rfl,rfl⟩ | ⟨rfl,rfl⟩
   ·have eR:R=rows:=by
     rcases J with ⟨_,z⟩ | ⟨_,_,_,z,_⟩ | ⟨z,_⟩
     ·exact z
     ·cases z
     ·cases z
    subst eR;simp only [aG,bB,cJ,bC,aw,au,aq,aj,ae,aa,br,dC,gG,ij,aQ,ai,aB,mC,x1,qp,sP,dq,x3,x2];refine du ⟨.inl ⟨by decide,by decide⟩,du ⟨.inl ⟨by decide,by decide⟩,du ?_⟩⟩;refine⟨.inl ⟨by decide,by decide⟩,by decide,by decide,fun pa fa=>?_⟩;refine gS (xs:=[(⟨m,0,1 - 2 * d1⟩:T3)]) (.new fa) fa ax ?_;refine Pf (rows:=R) (more:=[(⟨m,0,1 - 2 * d1⟩:T3)]) ⟨by rw [hlen]; lia,by rw [hlen]; lia,fun r hr=>by have:=rl r hr; lia,by simp⟩ fun r k hr hk ek=>du ?_;exact Bc _ _ ⟨rfl,_,_,.inr (.inl ⟨i,r,k,rfl,by lia,hr,rfl⟩),rfl⟩
   ·obtain⟨i',r,k,hi,hr,rfl⟩:∃ (i:Nat) (r:List T3) (k:Nat),i < S/\rows[i]?=some r/\R=rows.set i (r.take k++[⟨m,0,1 - 2 * d1⟩]++r.drop k):=by
     rcases J with ⟨z,_⟩ | ⟨i,r,k,_,z⟩ | ⟨z,_⟩
     ·cases z
     ·exact⟨i,r,k,z⟩
     ·cases z
    simp only [aG,bB,cJ,bC,aw,au,aq,aj,ae,aa,br,dC,gG,ij,aQ,ai,aB,mC,x1,qp,sP,dq,x5,x4];refine du ⟨.inl ⟨by decide,by decide⟩,du ⟨.inl ⟨by decide,by decide⟩,du ?_⟩⟩;refine⟨.inl ⟨by decide,by decide⟩,by decide,by decide,fun pa fa=>?_⟩;refine gS (xs:=[(⟨m,1,1 - 2 * d1⟩:T3)]) (.new fa) fa ax ?_;refine Pf (more:=[(⟨m,1,1 - 2 * d1⟩:T3)]) ⟨by rw [fD,hlen]; lia,by rw [fD,hlen]; lia,fun r2 hr2=>?_,by simp⟩ fun r' k' Yj UP ek'=>du ?_
    ·rcases KO hr2 with z | z
     ·have:=rl r2 z; lia
     ·have:=rl r (gO hr);rw [z,av,av,cU,eB,cP]; lia
    have pf:=(GX (k:=k') (more:=[⟨m,1,1 - 2 * d1⟩]) Yj).trans ((GX (k:=k) (more:=[⟨m,0,1 - 2 * d1⟩]) hr).append_left _);have dr2:=K2.JB.Dr.two dr hmf hh pf (by lia) (by rw [fD,fD]; lia);exact Bc _ _ ⟨rfl,_,_,.inr (.inr ⟨rfl,dr2,by rw [fD,fD]; exact hlen,pf⟩),rfl⟩
  ·rintro τ G3 ⟨rfl,R,b1,J,rfl⟩;obtain⟨drn,ln,pf⟩:Dr R/\R.length=S/\R.flatten.Perm (⟨m,1,1 - 2 * d1⟩ :: ⟨m,0,1 - 2 * d1⟩ :: rows.flatten):=by
    rcases J with ⟨z,_⟩ | ⟨_,_,_,z,_⟩ | ⟨_,z⟩
    ·cases z
    ·cases z
    ·exact z
   refine lB _ _ ⟨GP,R,ns++[m],_,_,_,_,⟨drn,ln,by rw [pf.length_eq,ai,ai,av,cU]; lia,by rw [av,av,YD]; rfl,fun p hp=>?_⟩,?_,rfl⟩
   ·rcases List.mem_cons.mp (pf.mem_iff.mp hp) with rfl | hp
    ·simp
    ·rcases List.mem_cons.mp hp with rfl | hp
     ·simp
     ·exact cH _ (Yp p hp)
   ·rw [g62,aL]; rfl
 ·rintro τ G' ⟨le,rows,ns,a1,a2,a3,a4,⟨dr,hlen,hfl,YD,Yp⟩,g6',rfl⟩;simp only [cE,cJ,au,ae,aa];exact wB le (q rows dr hlen hfl)
end JE
namespace B0
open K2.P K2.T
open K2.Mj (Nc Oj)
open K2.Ii (nZ)
open K2.Y
open K2.xi (zE jps MP Pd oA oB)
variable {rows:Rows}
def B9(a:List Int):D:=.dN (a.map D.int)
def ZO(c:Ch):D:=.iL (aT c)
def vA:D:=.tup [.int 0,.int 1]
def sL:iq :=
 (bY (bB (cJ (gG (aw (gG aQ) aQ))) (aG 1))
 (bY (dF (ka (au 0)) (aG 2) (bY (bB (gG aQ) (aG 3))
 (bY (dF (ka (au 1)) (aG 4) (jg (r8 DO t6 (au 3) (aw (gf 1 [4] (ka (au 2)) (aG 0) none (cJ (br ic (au 1) (gG (aw (au 0) aQ))))) aQ))))
 (bB (cJ (au 3)) (aG 1)))))
 (cE (cJ (au 1)))))
def jq:kC:=fun ds G Q _=>∃ k:Nat,ds=[.dN (aR k vA)]/\k<=6/\Q (.dN ((Od k).map B9)) G
theorem D5{k:Nat}(h:k<=6):2 ^ k<=64:=eQ (by decide) h
theorem OL:∀ l:List (List Int),(l.flatMap Ue).length=2 * l.length
 | []=>rfl
 | a :: l=>by rw [bO,av,OL l,ai]; show 2+_=_; lia
theorem tN(ds:List D)(G:Gp)(Q:DK)(h:jq ds G Q fun _ _=>False):sL (fun _ _=>False) (ends Q) (bg 5 ds) G:=by
 obtain⟨k,rfl,hk,q⟩:=h;unfold sL;simp only [ends,bg,ak,aS,ai,aB,aR,aE,aM,cx,bB,cJ,gG,aw,aQ,aG,aq,aj];refine⟨by decide,fun pa fa=>⟨by decide,fun pb fb=>?_⟩⟩;have la:fh G (dH (dH G pa (.lst [])) pb (.lst [.ref pa])):=(fh.new fa).trans (.new fb);have fb':G pb=none:=by
  cases e:G pb with
  | none=>rfl
  | some o=>have:=(fh.new (o:=.lst []) fa) _ _ e; rw [this] at fb; cases fb
 refine vb la fb' ax (.cons (.ref ((fh.new fb) _ _ ax) (by simp [fa]) .nil) .nil) ?_;refine eG (fun τ G'=>G=G'/\∃ a b c,τ=[some (.dN (aR k vA)),some (.dN ((Od k).map B9)),a,b,c]) ?_ ?_
 ·intro N hN;simp only [dF,dM,au,aa,nT];refine QJ (fun pre τ G'=>G=G'/\∃ a b c,τ=[some (.dN (aR k vA)),some (.dN ((Od pre.length).map B9)),a,b,c]) ⟨rfl,_,_,_,rfl⟩ (fun _ _ _ _=>trivial) ?_ ?_
  ·rintro pre x post τ G' N2 e ⟨rfl,a,b,c,rfl⟩ lB;have hx:x=vA:=List.eq_of_mem_replicate (n:=k) (by rw [e]; simp);have hj:pre.length < k:=by have:=congrArg cM e; simp at this; lia
   subst hx;simp only [aG,aq,aj,vI,bB,gG,aQ,aB];refine⟨by decide,fun p3 f3=>?_⟩;simp only [dF];simp only [dM,au,ae,aa,nT];have hz:=zx pre.length;have X9:=D5 (k:=pre.length) (by lia);refine cX (xs:=Od pre.length) (f:=B9) (fun sV τ G2=>fh G G2/\G2 p3=some (.lst ((sV.flatMap Ue).map B9))/\∃ c,τ=[some (.dN (aR k vA)),some (.dN ((Od pre.length).map B9)),some vA,some (.ref p3),c]) ⟨.new f3,ax,_,rfl⟩ (fun _ _ _ _=>trivial) ?_ ?_
   ·rintro sV a2 Pm τ G2 N3 e2 ⟨l2,g2,c,rfl⟩ Bc;have hlp:=gP e2;have hal:a2.length=pre.length:=vF _ _ (by rw [e2]; simp);simp only [aG,jg,r8,au,aq,aj,ae,aa,k7,g2,aw,gf,aQ,kU,dM,true_and];unfold vA;simp only [wy,ai,aB];refine⟨by decide,?_⟩;refine iY (xs:=([0,1]:List Int)) (f:=D.int) (fun pr acc τ G3=>G2=G3/\(∃ a,τ=[a,some (B9 a2)])/\acc=(pr.map fun w=>a2++[w]).map B9) ⟨rfl,⟨_,rfl⟩,rfl⟩ (fun _ _ _ _ _=>trivial) ?_ ?_
    ·rintro pr w po acc τ G3 N4 e3 ⟨rfl,⟨a,rfl⟩,rfl⟩ hN4;unfold B9;simp only [aG,cJ,br,au,aj,ae,aa,gG,aw,aQ,ai,aB,qt];refine⟨by decide,fun pc fc=>?_⟩;refine Mf IsL.dN (IsL.ref ax) (Aa (by rw [ao,hal]; show _+1<=1000; lia)) fun pd fd=>?_;have fd':G2 pd=none:=by
      cases e:G2 pd with
      | none=>rfl
      | some o=>have:=(fh.new (o:=.lst [.int w]) fc) _ _ e; rw [this] at fd; cases fd
     refine vb ((fh.new fc).trans (.new fd)) fd' ax (Fq.same _) ?_;refine hN4 _ _ _ ⟨rfl,⟨_,rfl⟩,?_⟩;rw [aL,aL];unfold B9;simp only [ak,aS,aL]
    ·rintro acc τ G3 ⟨rfl,⟨a,rfl⟩,rfl⟩ pc fc;have n3:p3≠pc:=fun z=>by rw [<-z,g2] at fc; cases fc
     have g3:(dH G2 pc (.lst [B9 (a2++[0]),B9 (a2++[1])])) p3=some (.lst ((sV.flatMap Ue).map B9)):=by rw [cw n3]; exact g2
     have lo:mE (.ref pc) (dH G2 pc (.lst [B9 (a2++[0]),B9 (a2++[1])]))=some [B9 (a2++[0]),B9 (a2++[1])]:=by unfold mE; simp only [ax]
     simp only [ak,aS,g3,lo,ai,aB];refine⟨Aa ?_,?_⟩
     ·rw [ao,OL]; show _+2<=1000; lia
     ·refine Bc _ _ ⟨(l2.trans (.new fc)).put f3,?_,_,rfl⟩;rw [ax,List.flatMap_append,nJ,aL]; rfl
   ·rintro τ G2 ⟨l2,g2,c,rfl⟩;simp only [bB,cJ,au,ae,aa,aG,aq,aj];refine vb l2 f3 g2 (Fq.same _) ?_;refine lB _ _ ⟨rfl,some vA,some (.ref p3),c,?_⟩;rw [av]; rfl
  ·rintro τ G' ⟨rfl,a,b,c,rfl⟩;rw [fx];exact hN _ _ ⟨rfl,_,_,_,rfl⟩
 ·rintro _ _ ⟨rfl,a,b,c,rfl⟩;simp only [cE,cJ,au,ae,aa];exact du q
def uH:iq :=
 (cE (cJ (gf 1 [0] (ka (bC jq (aw (cJ (gf 1 [] (ka (au 0)) (aG 0) none (cJ (ij (aw (dC (.int 0)) (aw (dC (.int 1)) aQ)))))) aQ))) (aG 0) none (cJ (Rc (au 1) (au 0))))))
def j5:kC:=fun ds G Q _=>∃ l:List Int,ds=[B9 l]/\(l.Nodup/\l.length<=6)/\Q (.dN ((L8 l).map ZO)) G
theorem uN(ds:List D)(G:Gp)(Q:DK)(h:j5 ds G Q fun _ _=>False):uH (fun _ _=>False) (ends Q) (bg 1 ds) G:=by
 obtain⟨l,rfl,⟨nd,hl⟩,q⟩:=h;unfold uH B9;simp only [cE,cJ,gf,bg,ak,aS,ai,aB,aE,aM,ends,dM,bC,aw,aQ,au,aa,nT];refine⟨Aa (by rw [ao]; lia),?_⟩;refine iY (xs:=l) (f:=D.int) (fun pr acc τ G3=>G=G3/\(∃ a,τ=[a])/\acc=aR pr.length vA) ⟨rfl,⟨_,rfl⟩,rfl⟩ (fun _ _ _ _ _=>trivial) ?_ ?_
 ·rintro pr w po acc τ G3 N e3 ⟨rfl,⟨a,rfl⟩,rfl⟩ hN;simp only [aG,cJ,ij,aw,dC,aQ,ai,aB,aj];refine⟨by decide,du (hN _ _ _ ⟨rfl,⟨_,rfl⟩,?_⟩)⟩;rw [av,cU,Sd]; rfl
 ·rintro acc τ G3 ⟨rfl,⟨a,rfl⟩,rfl⟩ pa fa;refine vb (.new fa) fa ax (Fq.same _) ?_;refine⟨l.length,rfl,hl,?_⟩;simp only [nT];refine⟨Aa (by rw [ao,zx]; have:=D5 hl; lia),?_⟩;refine iY (xs:=Od l.length) (f:=B9) (fun pr acc τ G3=>G=G3/\(∃ a,τ=[a,some (.dN (l.map D.int))])/\acc=(pr.map fun a=>l.zip a).map ZO) ⟨rfl,⟨_,rfl⟩,rfl⟩ (fun _ _ _ _ _=>trivial) ?_ ?_
  ·rintro pr a2 po acc τ G3 N e3 ⟨rfl,⟨a,rfl⟩,rfl⟩ hN;have hal:a2.length=l.length:=vF _ _ (by rw [e3]; simp);unfold B9;simp only [aG,cJ,Rc,au,aj,ae,aa];refine⟨l,a2,rfl,rfl,⟨nd,hal.symm,by lia⟩,fun p hp=>?_⟩;refine gu (.new hp) hp ax (hN _ _ _ ⟨rfl,⟨_,rfl⟩,?_⟩);rw [aL,aL]; rfl
  ·rintro acc τ G3 ⟨rfl,⟨a,rfl⟩,rfl⟩ pb fb;refine vb (.new fb) fb ax (Fq.same _) ?_;rw [<-L6]; exact q
end B0
namespace B0
open K2.P K2.T
open K2.Mj (Nc Oj)
open K2.Ii (nZ)
open K2.Y
open K2.xi (zE jps MP Pd oA oB)
variable {rows:Rows}
theorem XT{V:List T2}{ps:List (T2×T2)}{k:Nat}(h:Nc V (Cn ps) k):k<=V.length:=by
 obtain⟨A,a,rfl⟩:=h;have nd:A.Nodup:=List.nodup_iff_pairwise_ne.mpr (a.pw.imp fun {x y} h e=>h (by rw [e]; exact .refl _));exact mU nd fun x hx=>a.RZ x hx
theorem MG(rows:Rows):(iC rows).length<=rows.flatten.length+rows.length:=by
 unfold iC; rw [vD]; exact Ac rows
theorem ab6{c:Ch}:R rows c<=(iC rows).length:=by
 unfold R;split
 ·rename_i h; exact XT (IQ h)
 ·exact cp _
theorem yi:fY LP=2:=rfl
theorem Mi:ND LP:=by unfold ND LP; decide
theorem Jm{r:Nat}(h:r<=15):(cN LP r).length<=32768:=aU (qT LP r) (by show 2 ^ r<=2 ^ 15; exact eQ (by decide) h)
theorem Ma{n:Nat}(h:n<=100):2 ^ n < o3:=by
 unfold o3;exact Nat.pow_lt_pow_right (by decide) (by lia)
theorem AE{r:Nat}(h:r<=15):fY (cN LP r) < o3:=dW (oG LP r) (by rw [yi]; exact Ma (by lia))
theorem vS{r:Nat}(h:r<=15):r<=1000/\∀ k,k < r->LP.length ^ k * LP.length<=SZ/\fY LP ^ k < o3:=by
 refine⟨by lia,fun k hk=>⟨?_,by rw [yi]; exact Ma (by lia)⟩⟩;show 2 ^ k * 2<=16777216;rw [<-xm];exact eQ (n:=2) (by decide) (show k+1<=24 by lia)
theorem CI{n:Nat}(h:n<=1000):n < o3:=dW h (bK (show 1000 < 2 ^ 10 by decide) (by unfold o3; exact eQ (by decide) (by decide)))
structure Tp(T:Po)(n:Nat)(f:(Int->Int)->Int):Prop where
 nd:ND T
 nz:NZ T
 len:T.length<=n * 32768
 val:∀ g,L g T=f g
theorem Tp.nil:Tp [] 0 (fun _=>0):=⟨.nil,fun p h=>(by cases h),aH _,fun _=>rfl⟩
theorem Tp.add{T:Po}{n r:Nat}{f:(Int->Int)->Int}(t:Tp T n f)(hr:r<=15)(b c:Int):Tp (vX T (jw (cN LP r) b c)) (n+1) (fun g=>f g+c * L (fun i=>g (i+b)) (cN LP r)):=by
 refine⟨Ls t.nd,AK _,?_,fun g=>?_⟩
 ·have h1:=PF T (jw (cN LP r) b c);have h2:(jw (cN LP r) b c).length<=(cN LP r).length:=aU (oq _) (by rw [ao]; exact aH _);have h3:=Jm hr;have h4:=t.len;lia
 ·rw [RD g t.nd,t.val,Ig]
noncomputable def ky(rows:Rows)(c:Ch):T2:=⟨MP rows c,(R rows c:Int)⟩
def pz:iq :=
 (bY (bB lD (aG 1))
 (bY (EK 1 (dF (ka (bC j5 (aw (cJ (bC gx (aw (au 0) aQ))) aQ))) (aG 2) (bY (bB (ij (aw (bC oB (aw (au 0) (aw (au 2) aQ))) (aw (bC oA (aw (au 0) (aw (au 2) aQ))) aQ))) (aG 3))
 (bB (br ic (r8 RS LD (au 1) (aw (au 3) (aw (dC (.int 0)) aQ))) (dC (.int 1))) (kb (au 1) (au 3))))))
 (bY (bB lD (aG 4))
 (bY (dF (wo (au 1)) (ig (cL (aG 3) (cL (aG 5) hU))) (bB (bC ju (aw (cJ (au 4)) (aw (cJ (bC fT (aw (cJ (bC gB (aw (cJ (Bq [(2,-1),(-2,-1)])) (aw (cJ (br mD (au 3) (dC (.int 1)))) aQ)))) (aw (cJ (br mD (au 3) (dC (.int 0)))) (aw (cJ (au 5)) aQ))))) aQ))) (aG 4)))
 (cE (cJ (au 4)))))))
def fO:kC:=fun ds G Q _=>∃ rows:Rows,ds=[enc rows]/\(Dr rows/\(names rows).length<=6/\(names rows).Nodup/\rows.flatten.length<=12)/\∀ T:Po,Tp T 64 (fun g=>BS rows (names rows) g)->gv G (.eW (aT T)) Q
theorem pI(ds:List D)(G:Gp)(Q:DK)(h:fO ds G Q fun _ _=>False):pz (fun _ _=>False) (ends Q) (bg 6 ds) G:=by
 obtain⟨rows,rfl,⟨d,hn,nn,hf⟩,q⟩:=h;have str:=d.str;have EA:=d.EA;have Og:=MG rows;have hR:∀ c:Ch,R rows c<=15:=fun c=>aU ab6 (by lia);unfold pz;simp only [ends,bg,ak,aS,ai,aB,aR,aE,aM,cx,bB,lD,aG,aq,aj];intro p1 f1;refine eG (fun τ G'=>G=G'/\∃ (l:List (T2×Int)) (a b c e:Option D),Ct l (L8 (names rows)).length 15/\(∀ h,cn h l=((L8 (names rows)).map fun c=>h (ky rows c)).sum)/\τ=[some (enc rows),some (.iL (aT l)),a,b,c,e]) ?_ ?_
 ·intro N hN;simp only [nZ,dF,dM,bC,aw,cJ,au,aa,aQ];refine⟨rows,rfl,(show rows.flatten.length < 64 by lia),du ⟨names rows,rfl,⟨nn,hn⟩,?_⟩⟩;simp only [nT];have YF:(L8 (names rows)).length<=64:=by rw [L7]; exact D5 hn
  refine cX (xs:=L8 (names rows)) (f:=ZO) (fun pre τ G'=>fh G G'/\∃ (l:List (T2×Int)) (a b c e:Option D),Ct l pre.length 15/\(∀ h,cn h l=(pre.map fun c=>h (ky rows c)).sum)/\G' p1=some (.eW (aT l))/\τ=[some (enc rows),some (.ref p1),a,b,c,e])
   ⟨.new f1,[],_,_,_,_,Ct.nil 15,fun _=>rfl,ax,rfl⟩ (fun _ _ _ _=>trivial) ?_ ?_
  ·rintro pre c post τ G' N2 e ⟨le,l,a1,a2,a3,a4,ct,hv,gp,rfl⟩ lB;have hlp:=gP e;obtain⟨c1,c2⟩:=Rl (names rows) c (by rw [e]; simp);have cl:c.length<=24:=by have:=congrArg cM c1; rw [ao] at this; lia
   have cm:∀ p∈c,p.1∈names rows:=fun p hp=>by rw [<-c1]; exact bA hp
   unfold ZO;simp only [aG,aq,aj,vI,bB,ij,aw,bC,au,aa,ae,aQ,ai,aB,br,r8,qQ,dC,kb];refine⟨rows,c,rfl,⟨d,cl,cm⟩,?_⟩;refine⟨rows,c,rfl,⟨d,cl,cm⟩,fun k nc=>?_⟩;have ek:R rows c=k:=Y6 nc;subst ek;refine⟨by decide,?_⟩;simp only [gp,true_and];refine PX (k:=ky rows c) (e:=(0:Int)) gp ?_;simp only [qD,dq];refine P.fH (k:=ky rows c) (v:=(bH l (ky rows c)).getD 0+1) gp (aU ct.len (by lia)) ?_;have ct2:=ct.put (k:=ky rows c) ⟨R rows c,rfl,hR c⟩;refine lB _ _ ⟨le.put f1,Rf l (ky rows c),_,_,_,_,by rw [av]; exact ct2,fun h=>?_,by rw [ax]; rfl,rfl⟩;rw [WE h ct.nd,hv,aL,vC];simp
  ·rintro τ G' ⟨le,l,a1,a2,a3,a4,ct,hv,gp,rfl⟩;simp only [ae,aa,aq,aj];exact gu le f1 gp (hN _ _ ⟨rfl,l,_,_,_,_,ct,hv,rfl⟩)
 rintro _ _ ⟨rfl,l,a,b,c,e,ct,hv,rfl⟩;have YF:(L8 (names rows)).length<=64:=by rw [L7]; exact D5 hn
 generalize (L8 (names rows)).length=M at ct YF;clear f1;simp only [cx,bB,lD,aG,aq,aj];intro p4 f4;refine eG (fun τ G'=>∃ (T:Po) (p:Nat) (a b c:Option D),Tp T l.length (fun g=>cn (fun k=>L (fun i=>g (i+k.a)) (cN LP k.b.toNat)) l)/\G p=none/\fh G G'/\G' p=some (.eW (aT T))/\τ=[some (enc rows),some (.iL (aT l)),a,b,some (.ref p),c]) ?_ ?_
 ·intro N hN;simp only [dF,wo,au,ae,aa];have hk:(((aT l).all fun p=>ly p.1)=true):=by
   unfold aT; rw [lO,eY]; intro p _; rfl
  refine⟨hk,?_⟩;have em:((aT l).map fun p=>D.tup [p.1,p.2])=l.map fun p=>D.tup [enc p.1,enc p.2]:=by unfold aT; rw [bh]; rfl
  rw [em];refine cX (xs:=l) (f:=fun p=>D.tup [enc p.1,enc p.2]) (fun pre τ G'=>∃ (T:Po) (p:Nat) (a b c:Option D),Tp T pre.length (fun g=>cn (fun k=>L (fun i=>g (i+k.a)) (cN LP k.b.toNat)) pre)/\G p=none/\fh G G'/\G' p=some (.eW (aT T))/\τ=[some (enc rows),some (.iL (aT l)),a,b,some (.ref p),c])
   ⟨[],p4,_,_,_,Tp.nil,f4,.new f4,ax,rfl⟩ (fun _ _ _ _=>trivial) ?_ ?_
  ·rintro pre x post τ G' N2 e ⟨T,p,a1,a2,a3,tp,fp,le,gp,rfl⟩ lB;have hlp:=gP e;have hm:x∈l:=by rw [e]; simp
   obtain⟨r,er,hr⟩:=ct.key x hm;have hx:=ct.num x hm;have hl:=ct.len;simp only [ig,cL,aG,hU,bB,bC,aw,cJ,au,QW,aq,aj,qD,ae,aa,br,dC,aQ,jv,W9,Rx];refine gu le fp gp ?_;unfold Bq;intro p5 f5;refine gu (.new f5) f5 ax (du ?_);rw [er];refine⟨_,LP,r,rfl,⟨rfl,Mi⟩,vS hr,by rw [yi]; exact CI (by decide),fun p6 f6=>?_⟩;refine gu (.new f6) f6 ax (du (du ?_));refine⟨_,cN LP r,_,_,rfl,⟨rfl,qv _ _⟩,aU (Jm hr) (by decide),⟨AE hr,CI (by lia)⟩,fun p7 f7=>?_⟩;refine gu (.new f7) f7 ax ?_;have Yk:(jw (cN LP r) x.1.a x.2).length<=32768:=aU (aU (oq _) (by rw [ao]; exact aH _)) (Jm hr);refine⟨_,_,T,jw (cN LP r) x.1.a x.2,rfl,⟨rfl,tp.nd⟩,⟨rfl,CO (qv _ _) _ _⟩,?_,fun p8 f8=>?_⟩
   ·have h4:=tp.len;show _<=16777216;lia
   ·have t2:=tp.add hr x.1.a x.2;refine lB _ _ ⟨_,p8,_,_,_,?_,f8,.new f8,ax,rfl⟩;rw [av];refine⟨t2.nd,t2.nz,t2.len,fun g=>?_⟩;rw [t2.val];unfold cn;rw [aL,vC];show _=_+(x.2 * L (fun i=>g (i+x.1.a)) (cN LP x.1.b.toNat)+0);rw [er,eF,xq]
  ·rintro τ G' ⟨T,p,a1,a2,a3,tp,fp,le,gp,rfl⟩;exact hN _ _ ⟨T,p,_,_,_,tp,fp,le,gp,rfl⟩
 ·rintro _ G' ⟨T,p,a1,a2,a3,tp,fp,le,gp,rfl⟩;simp only [cE,cJ,au,ae,aa];refine uc le fp gp (q T ⟨tp.nd,tp.nz,aU tp.len (iZ _ (by have:=ct.len; lia)),fun g=>?_⟩);rw [tp.val,hv];show _=SS _ _;rw [<-Sr];rfl
end B0
end K2
end
section
namespace K2
open Enc (enc)
namespace JF
open K2.P K2.J K2.JB
theorem Rv{rows R:Rows}(d:Dr rows)(dR:Dr R)(pp:(pairsOf R).Perm (pairsOf rows))(pf:R.flatten.Perm rows.flatten)(l:lo R=lo rows)(g:Fn):brk R g=brk rows g:=by
 have pn:(nh R).Perm (nh rows):=(LA dR).trans ((PT pf).trans (LA d).symm);have ef:fr R=fr rows:=JE.Xz pp (xu dR);unfold brk;rw [Mn pn (by rw [VU]; exact Hk dR),ef,l]
theorem Vv{rows:Rows}{σ:List T3->List T3}(h:∀ r∈rows,∃ k,σ r=r.drop k++r.take k):(pairsOf (rows.map σ)).Perm (pairsOf rows)/\(rows.map σ).flatten.Perm rows.flatten/\lo (rows.map σ)=lo rows:=by
 induction rows with
 | nil=>exact⟨.refl _,.refl _,rfl⟩
 | cons r rows ih =>
  obtain⟨k,hk⟩:=h r (by simp);obtain⟨i1,i2,i3⟩:=ih fun r' hr=>h r' (by simp [hr]);have e:r.take k++r.drop k=r:=oR k r;refine⟨?_,?_,?_⟩
  ·rw [ak,j8,j8,bO,bO,<-j8,<-j8];refine nM ?_ i1;rw [hk];refine(TJ _ _).trans ?_;rw [e]
  ·rw [ak,cO,cO];refine nM ?_ i2;rw [hk];refine List.perm_append_comm.trans ?_;rw [e]
  ·rw [ak];have ee:(σ r).isEmpty=r.isEmpty:=by
    have hl:(σ r).length=r.length:=by rw [hk,av,cP,eB]; lia
    cases h1:σ r with
    | nil=>rw [h1] at hl; cases r with
     | nil=>rfl
     | cons=>simp at hl
    | cons=>rw [h1] at hl; cases r with
     | nil=>simp at hl
     | cons=>rfl
   unfold lo at i3 ⊢;rw [bD,bD,ee];split
   ·rw [ai,ai,i3]
   ·exact i3
def rf(p:T3):T3:=⟨p.a,p.b,-p.c⟩
end JF
end K2
end
section
namespace K2
namespace RF
def ab(c:Int):Int:=if c < 0 then -c else c
variable {α:Type}
end RF
end K2
end
section
namespace K2
open PySem (Str)
open Enc (enc)
namespace RF
open K2.P
def Ok(n:Int)(cs:List Int):Prop:=n<=3/\cs.length<=40/\∀ c∈cs,1<=ab c/\ab c < n
end RF
namespace RF
open K2.P
def Good(n:Int)(cs:List Int):Prop:=(1<=n/\n<=3)/\cs.length<=12/\∀ c∈cs,1<=ab c/\ab c < n
instance (n:Int) (cs:List Int):Decidable (Good n cs):=by unfold Good; exact inferInstance
end RF
namespace RF
open K2.P
def M9:List T3->T3
 | []=>⟨0,0,0⟩
 | a :: r=>r.foldl (fun m x=>if bo.lt x m=true then x else m) a
def FP(r:List T3):List T3:=r.drop (r.idxOf (M9 r))++r.take (r.idxOf (M9 r))
end RF
namespace K3
open K2.P K2.Om
theorem JT{c:yf}{a b:iq}{E:nA}{K:mK}{τ:jc}{G:Gp}:jF c a b E K τ G=c E τ G fun k G1=>if k=true then a E K τ G1 else b E K τ G1:=rfl
end K3
namespace K3
open K2.P K2.Om
def ins(r:List T3)(k:Nat)(p:T3):List T3:=r.take k++p :: r.drop k
end K3
namespace Ua
open K2.P
open K2.RF (FP M9)
abbrev M:=List (Int×Int)
def rn1(m:M)(t:T3):T3:=⟨(bH m t.a).getD 0,t.b,t.c⟩
def ren(m:M)(r:List T3):List T3:=r.map (rn1 m)
def rot(r:List T3)(k:Nat):List T3:=r.drop k++r.take k
def aaC(m:M)(n:Int):M:=if (bH m n).isSome=true then m else df m n ((m.length:Int)+1)
def met(L:List T3):M:=L.foldl (fun m t=>aaC m t.a) []
end Ua
namespace Ua
open K2.P
open K2.RF (FP M9)
def sm(rows:Rows):Rows:=(rows.map (ren (met rows.flatten))).map FP
end Ua
namespace Ua
open K2.P
open K2.RF (FP M9)
def tp(c:Rows):D:=.tup [enc (sm c),.iL (aT (met c.flatten))]
end Ua
namespace Ua
open K2.P
open K2.RF (FP M9)
open K2.Om (z3)
theorem Sz{r:List T3}{k:Nat}{G:Gp}{Q:DK}{d:D}(hd:IsL G d (r.map enc))(hk:k<=r.length)(hl:r.length<=1000)(q:∀ p G1,fh G G1->G p=none->G1 p=some (.lst ((rot r k).map enc))->Q (.ref p) G1) :
  RW d (some (k:Int)) none G fun x G1=>RW d none (some (k:Int)) G1 fun y G2=>ic x y G2 Q:=by
 refine sQ hd ?_;rw [oe,wQ r k hk];intro p hp;refine sQ (hd.mono (.new hp)) ?_;rw [oe,EM r k hk];intro p2 qb;have abb:p≠p2:=fun z=>by rw [<-z,ax] at qb; cases qb
 have g1:dH (dH G p (.lst ((r.drop k).map enc))) p2 (.lst ((r.take k).map enc)) p=some (.lst ((r.drop k).map enc)):=by rw [cw abb,ax]
 have gl:fh G (dH (dH G p (.lst ((r.drop k).map enc))) p2 (.lst ((r.take k).map enc))):=(fh.new hp).trans (.new qb);show yd _ _ _ _;unfold yd;rw [jA (IsL.ref (ds:=(r.drop k).map enc) g1),jA (IsL.ref (ds:=(r.take k).map enc) ax)];refine⟨Aa (by simp; lia),fun p3 hp3=>?_⟩;refine q _ _ (gl.trans (.new hp3)) (gl.free hp3) ?_;rw [ax];unfold rot;rw [aL]
end Ua
namespace ZU
open K2.P K2.J K2.JB
open K2.Y (Po L ND NZ fY iK kX pick ko kr b8 cW EE)
open K2.Ii (iW)
open K2.JE (hZ)
open K2.xi (yC qV xH gW)
theorem OG:∀ ds G Q E,JB.i6 ds G Q E->xi.i6 ds G Q E:=by
 rintro ds G Q E ⟨n,w,rfl,q⟩;refine⟨n,wI w,rfl,?_⟩;cases w <;> exact q
theorem IW:∀ ds G Q E,JB.gw ds G Q E->xi.gw ds G Q E:=by
 rintro ds G Q E ⟨h,w,rfl,q⟩;refine⟨h,wI w,rfl,?_⟩;cases w <;> exact q
def lu:iq :=
 (bY (EK 3 (bB (gf 1 [] (A7 (au 1)) (aG 0) none (gG aQ)) (aG 3)))
 (bY (bB (gG aQ) (aG 4))
 (bY (dF (ka (au 0)) (aG 5) (bY (bB (bC hZ (aw (cJ (au 5)) (aw (cJ (gG (aw (au 2) (aw (dC (.int 2)) (aw (au 1) (aw (dC (.int 10000)) (aw (au 1) (aw (dC (.int 10000)) aQ)))))))) aQ))) (aG 6))
 (bY (bB (bC gX (aw (au 4) (aw (br ic (dC (.int 1)) (br mD (au 6) (dC (.int 0)))) aQ))) (aG 7))
 (bY (jg (r8 DO mr (au 4) (aw (au 7) aQ)))
 (dF (A7 (dC (.int 2))) (aG 8) (bB (cJ (bC kJ (aw (cJ (au 3)) (aw (cJ (br mD (au 6) (br ic (dC (.int 2)) (br DW (dC (.int 2)) (au 8))))) (aw (cJ (br mD (au 6) (br ic (dC (.int 3)) (br DW (dC (.int 2)) (au 8))))) (aw (cJ (gG (aw (ij (aw (au 7) (aw (au 8) (aw (br SA (dC (.int 1)) (br DW (dC (.int 2)) (br mD (au 6) (dC (.int 1))))) aQ)))) aQ))) aQ)))))) (aG 3)))))))
 (cE (cJ (au 3))))))
def fj:kC:=JB.fj
theorem oQ(ds:List D)(G:Gp)(Q:DK)(h:fj ds G Q fun _ _=>False):lu (fun _ _=>False) (ends Q) (bg 9 ds) G:=JE.oQ ds G Q h
def sM:iq :=
 (bY (bB (cJ (gG aQ)) (aG 2))
 (bY (bB (br yB (au 1) (dC (.int 2))) (aG 3))
 (bY (dF (ka (au 0)) (aG 4) (bY (bB (br sR (au 3) (br ic (oK sd (aw (au 2) aQ)) (dC (.int 1)))) (aG 5))
 (bY (bB (br yB (au 3) (br ic (oK sd (aw (au 2) aQ)) (dC (.int 1)))) (aG 3))
 (bY (jF (jD (br (Fg false) (br sR (au 1) (dC (.int 2))) (dC (.int 1)))) (bB (bC cW (aw (br ic (au 4) (au 1)) (aw (dC (.int 10079)) (aw (br ic (oK sd (aw (au 2) aQ)) (dC (.int 1))) aQ)))) (aG 5)) fR)
 (bB (cJ (br ic (br ic (zk (au 2) ft (nH (au 5))) (gG (aw (au 4) aQ))) (zk (au 2) (nH (au 5)) ft))) (aG 2))))))
 (cE (cJ (au 2))))))
def lh:kC:=fun ds G Q _=>∃ (d:D) (ns:List Int) (c:Int),ds=[d,.int c]/\IsL G d (ns.map enc)/\ns.length<=100/\∀ ms:List Int,ms.Perm ns->Q (enc ms) G
theorem Qt(ms:List Int)(k:Nat)(n:Int):(ms.take k++[n]++ms.drop k).Perm (n :: ms):=by
 rw [bP];refine List.perm_append_comm.trans ?_;rw [aE];refine .cons _ ?_;show ([]++ms.drop k++ms.take k).Perm ms;rw [aM];exact List.perm_append_comm.trans (by rw [oR])
theorem BG(ds:List D)(G:Gp)(Q:DK)(h:lh ds G Q fun _ _=>False):sM (fun _ _=>False) (ends Q) (bg 6 ds) G:=by
 obtain⟨d,ns,c,rfl,hd,hl,q⟩:=h;unfold sM;simp only [↓cx,bB,cJ,gG,aQ,↓aB,aG,br,au,bg,↓ak,↓aS,↓ai,aR,↓aE,↓aM,↓aq,↓aj,↓ae,↓aa,dC,↓jK,ends];refine⟨by decide,fun p0 f0=>gS (xs:=([]:List Int)) (.new f0) f0 ax ?_⟩;refine⟨by decide,by decide,?_⟩;refine eG (fun τ G'=>G'=G/\∃ (ms:List Int) (a b e:Option D),τ=[some d,some (.int c),some (enc ms),a,b,e]/\ms.Perm ns) ?_ ?_
 ·intro N hN;simp only [dF,↓dM,au,↓aa];refine V7 hd fun ok cu=>?_;refine cX (xs:=ns) (fun pre τ G'=>G'=G/\∃ (ms:List Int) (l:Int) (b e:Option D),τ=[some d,some (.int c),some (enc ms),some (.int l),b,e]/\ms.Perm pre) ⟨rfl,[],_,_,_,rfl,.refl _⟩ (fun _ _ _ h=>by rw [h.1]; exact cu _ (.refl _)) ?_ ?_
  ·rintro pre n post τ G' N2 e ⟨rfl,ms,l,b,e0,rfl,hp⟩ lB;have hm:ms.length<=100:=by rw [hp.length_eq]; have:=congrArg cM e; rw [av,ai] at this; lia
   simp only [aG,↓cx,bB,br,au,↓aq,↓aj,↓ae,↓aa,oK,aw,aQ,dC];refine pD (IsL.enc ms) ?_;rw [ao];simp only [↓dq,↓iU];refine⟨by lia,?_⟩;refine pD (IsL.enc ms) ?_;rw [ao];simp only [↓dq,↓jK];refine⟨by lia,by lia,?_⟩;have k1:0<=l % ((ms.length:Int)+1):=kE _ (by lia);have k2:l % ((ms.length:Int)+1) < (ms.length:Int)+1:=iH _ (by lia);generalize l % ((ms.length:Int)+1)=k at k1 k2;refine eG (fun τ G2=>G2=G'/\∃ j:Nat,j<=ms.length/\∃ l':Int,τ=[some d,some (.int c),some (enc ms),some (.int l'),some (.int n),some (.int j)]) ?_ ?_
   ·intro N3 Bc;have en:(enc n:D)=.int n:=rfl;rw [en];simp only [jF,↓eD,br,au,↓ae,↓aa,dC,↓iU,bB,bC,aw,↓dq,oK,aQ,aG,↓aq,↓aj,fR];refine⟨by decide,_,_,.int _,.int _,?_⟩;obtain⟨k',UP⟩:=mX k1;cases jj (.int (c % 2)) (.int 1)
    ·simp only [↓b9,↓ay,↓di,↓if_false];exact Bc _ _ ⟨rfl,k',by lia,_,by rw [UP]⟩
    ·simp only [↓b9,↓ay,↓bF,↓if_false,↓if_true];refine pD (IsL.enc ms) ?_;rw [ao];simp only [↓dq];refine⟨_,_,_,rfl,⟨by decide,by lia⟩,?_⟩;have p1:=ko (n+c) 10079 (m:=(ms.length:Int)+1) (by lia);have p2:=kr (n+c) 10079 (m:=(ms.length:Int)+1) (by lia);obtain⟨j,hj⟩:=mX p1;exact Bc _ _ ⟨rfl,j,by lia,_,by rw [hj]⟩
   ·rintro _ G2 ⟨rfl,j,hj,l',rfl⟩;simp only [bB,cJ,br,zk,au,↓ae,↓aa,ft,↓jE,↓fU,gG,aw,aQ,↓ai,↓aB,aG,↓aq,↓aj];refine sQ (IsL.enc ms) ?_;rw [oe,EM ms j hj];intro p1 f1;refine⟨by decide,fun p2 f2=>?_⟩;have h12:p1≠p2:=fun z=>by rw [<-z,ax] at f2; cases f2
    show yd _ _ _ _;unfold yd;rw [jA (IsL.ref (ds:=(ms.take j).map enc) (by rw [cw h12,ax])),jA (IsL.ref (ds:=[D.int n]) ax)];refine⟨Aa (by rw [ao,eB]; simp; lia),fun p3 f3=>?_⟩;refine sQ (IsL.enc ms) ?_;rw [oe,wQ ms j hj];intro p4 f4;have h34:p3≠p4:=fun z=>by rw [<-z,ax] at f4; cases f4
    show yd _ _ _ _;unfold yd;rw [jA (IsL.ref (ds:=(ms.take j).map enc++[D.int n]) (by rw [cw h34,ax])),jA (IsL.ref (ds:=(ms.drop j).map enc) ax)];refine⟨Aa (by rw [av,ao,ao,eB,cP]; simp; lia),fun p5 f5=>?_⟩;have le:=(((fh.new (o:=GO.lst ((ms.take j).map enc)) f1).trans (fh.new (o:=GO.lst [D.int n]) f2)).trans (fh.new (o:=GO.lst ((ms.take j).map enc++[D.int n])) f3)).trans (fh.new (o:=GO.lst ((ms.drop j).map enc)) f4);have em:(ms.take j).map enc++[D.int n]++(ms.drop j).map enc=(ms.take j++[n]++ms.drop j).map (enc:Int->D):=by rw [aL,aL]; rfl
    rw [em];refine gS (xs:=ms.take j++[n]++ms.drop j) (le.trans (.new f5)) (le.free f5) ax ?_;refine lB _ _ ⟨rfl,_,_,_,_,rfl,(Qt ms j n).trans ((hp.cons n).trans ?_)⟩;exact(oS (l₁:=[n]) (l₂:=pre))
  ·rintro τ G' ⟨rfl,ms,l,b,e,rfl,hp⟩;exact hN _ _ ⟨rfl,ms,_,_,_,rfl,hp⟩
 rintro _ G' ⟨rfl,ms,a,b,e,rfl,hp⟩;simp only [cE,cJ,au,↓ae,↓aa];exact du (q ms hp)
def vQ:iq :=
 (bY (bB (gG aQ) (aG 2))
 (bY (bB (br yB (au 1) (dC (.int 2))) (aG 3))
 (bY (dF (ka (au 0)) (aG 4) (bY (bB (br sR (au 3) (br ic (oK sd (aw (au 4) aQ)) (dC (.int 1)))) (aG 5))
 (bY (bB (br yB (au 3) (br ic (oK sd (aw (au 4) aQ)) (dC (.int 1)))) (aG 3))
 (bY (jF (jD (br (Fg false) (br sR (au 1) (dC (.int 2))) (dC (.int 1)))) (bB (bC cW (aw (br ic (au 1) (oK sd (aw (au 4) aQ))) (aw (dC (.int 10103)) (aw (br ic (oK sd (aw (au 4) aQ)) (dC (.int 1))) aQ)))) (aG 5)) fR)
 (jg (r8 DO mr (au 2) (aw (cJ (br ic (zk (au 4) (nH (au 5)) ft) (zk (au 4) ft (nH (au 5))))) aQ)))))))
 (cE (cJ (au 2))))))
def nQ:kC:=fun ds G Q _=>∃ (rows:Rows) (c:Int),ds=[enc rows,.int c]/\(rows.length<=100/\∀ r∈rows,r.length<=100)/\∀ σ:List Nat,σ.length=rows.length->Q (enc (rows.zipWith (fun r k=>r.drop k++r.take k) σ)) G
theorem E8(ds:List D)(G:Gp)(Q:DK)(h:nQ ds G Q fun _ _=>False):vQ (fun _ _=>False) (ends Q) (bg 6 ds) G:=by
 obtain⟨rows,c,rfl,⟨hl,hr⟩,q⟩:=h;unfold vQ;simp only [↓cx,bB,gG,aQ,↓aB,aG,br,au,bg,↓ak,↓aS,↓ai,aR,↓aE,↓aM,↓aq,↓aj,↓ae,↓aa,dC,↓jK,ends];refine⟨by decide,fun p0 f0=>⟨by decide,by decide,?_⟩⟩;refine eG (fun τ G'=>fh G G'/\∃ (σ:List Nat) (a b e:Option D),σ.length=rows.length/\G' p0=some (.lst ((rows.zipWith (fun r k=>r.drop k++r.take k) σ).map enc))/\τ=[some (enc rows),some (.int c),some (.ref p0),a,b,e]) ?_ ?_
 ·intro N hN;simp only [dF,↓dM,au,↓aa];refine cX (xs:=rows) (fun pre τ G'=>fh G G'/\∃ (σ:List Nat) (l:Int) (b e:Option D),σ.length=pre.length/\G' p0=some (.lst ((pre.zipWith (fun r k=>r.drop k++r.take k) σ).map enc))/\τ=[some (enc rows),some (.int c),some (.ref p0),some (.int l),b,e]) ⟨.new f0,[],_,_,_,rfl,ax,rfl⟩ (fun _ _ _ _=>trivial) ?_ ?_
  ·rintro pre r post τ G' N2 e ⟨le,σ,l,b,e0,hs,gp,rfl⟩ lB;have hrl:=hr r (by rw [e]; simp);have Cc:pre.length<=100:=by have:=congrArg cM e; rw [av,ai] at this; lia
   simp only [aG,↓cx,bB,br,au,↓aq,↓aj,↓ae,↓aa,oK,aw,aQ,dC];refine pD (IsL.enc r) ?_;rw [ao];simp only [↓dq,↓iU];refine⟨by lia,?_⟩;refine pD (IsL.enc r) ?_;rw [ao];simp only [↓dq,↓jK];refine⟨by lia,by lia,?_⟩;have k1:0<=l % ((r.length:Int)+1):=kE _ (by lia);have k2:l % ((r.length:Int)+1) < (r.length:Int)+1:=iH _ (by lia);generalize l % ((r.length:Int)+1)=k at k1 k2;refine eG (fun τ G2=>G2=G'/\∃ j:Nat,j<=r.length/\∃ l':Int,τ=[some (enc rows),some (.int c),some (.ref p0),some (.int l'),some (enc r),some (.int j)]) ?_ ?_
   ·intro N3 Bc;simp only [jF,↓eD,br,au,↓ae,↓aa,dC,↓iU,bB,bC,aw,oK,aQ,aG,↓aq,↓aj,fR];refine⟨by decide,_,_,.int _,.int _,?_⟩;obtain⟨k',UP⟩:=mX k1;cases jj (.int (c % 2)) (.int 1)
    ·simp only [↓b9,↓ay,↓di,↓if_false];exact Bc _ _ ⟨rfl,k',by lia,_,by rw [UP]⟩
    ·simp only [↓b9,↓ay,↓bF,↓if_false,↓if_true];refine pD (IsL.enc r) ?_;rw [ao];simp only [↓dq];refine pD (IsL.enc r) ?_;rw [ao];simp only [↓dq];refine⟨_,_,_,rfl,⟨by decide,by lia⟩,?_⟩;have p1:=ko (c+(r.length:Int)) 10103 (m:=(r.length:Int)+1) (by lia);have p2:=kr (c+(r.length:Int)) 10103 (m:=(r.length:Int)+1) (by lia);obtain⟨j,hj⟩:=mX p1;exact Bc _ _ ⟨rfl,j,by lia,_,by rw [hj]⟩
   ·rintro _ G2 ⟨rfl,j,hj,l',rfl⟩;simp only [jg,r8,au,↓ae,↓aa,↓k7,gp,aw,cJ,br,zk,↓jE,↓fU,ft,aQ,↓iM,↓true_and];refine(Ua.Sz (r:=r) (k:=j) (d:=enc r) (IsL.enc r) hj (by lia) (fun p1 G3 l3 f3 g3=>?_):RW (enc r) (some (j:Int)) none G2 _);refine gS (xs:=Ua.rot r j) l3 f3 g3 ?_;simp only [gp];refine⟨by rw [ao,List.length_zipWith]; show _ < 16777216; lia,lB _ _ ⟨le.put f0,σ++[j],_,_,_,by rw [av,av,hs]; rfl,?_,rfl⟩⟩;rw [ax,List.zipWith_append hs.symm,aL];rfl
  ·rintro τ G' ⟨le,σ,l,b,e,hs,gp,rfl⟩;exact hN _ _ ⟨le,σ,_,_,_,hs,gp,rfl⟩
 rintro _ G' ⟨le,σ,a,b,e,hs,gp,rfl⟩;simp only [cE,cJ,au,↓ae,↓aa];exact gS le f0 gp (q σ hs)
end ZU
namespace ZU
open K2.P K2.J K2.JB
open K2.Y (Po L ND NZ fY iK kX pick ko kr b8 cW EE)
open K2.Ii (iW)
open K2.xi (yC qV xH gW)
open K2.B0 (fO Tp)
abbrev zw(rows:Rows)(σ:List Nat):Rows:=rows.zipWith (fun r k=>r.drop k++r.take k) σ
theorem LF(r:List T3)(rs:Rows):lo (r :: rs)=lo [r]+lo rs:=by
 unfold lo;rw [bD,bD];split <;> simp <;> lia
theorem Vs:∀ (rows:Rows) (σ:List Nat),σ.length=rows.length->(pairsOf (zw rows σ)).Perm (pairsOf rows)/\(zw rows σ).flatten.Perm rows.flatten/\lo (zw rows σ)=lo rows:=by
 intro rows;induction rows with
 | nil=>intro σ _; exact⟨.refl _,.refl _,rfl⟩
 | cons r rows ih =>
  intro σ h;cases σ with
  | nil=>cases h
  | cons k σ =>
   obtain⟨i1,i2,i3⟩:=ih σ (Nat.succ.inj h);obtain⟨a1,a2,a3⟩:=JF.Vv (rows:=[r]) (σ:=fun r=>r.drop k++r.take k) fun r _=>⟨k,rfl⟩;have e:zw (r :: rows) (k :: σ)=(r.drop k++r.take k) :: zw rows σ:=rfl;rw [e];refine⟨?_,?_,?_⟩
   ·rw [j8,j8,bO,bO,<-j8,<-j8];refine nM ?_ i1;rw [rW,j8,j8,nJ,nJ] at a1;exact a1
   ·rw [cO,cO];refine nM ?_ i2;rw [rW,OC,OC] at a2;exact a2
   ·rw [LF,LF r,i3];rw [rW] at a3;rw [a3]
theorem Vo{S:Su}(so:R5 S []):S.length<=1:=by
 have h:=O1 so;have nd:=so.Jz.1
 match S,h,nd with
 | [],_,_=>exact cp _
 | [_],_,_=>exact aH _
 | p :: q :: S,h,nd =>
  have e1:=h p (by simp);have e2:=h q (by simp);rw [ak,ak,aY] at nd;exact absurd (by rw [e1,e2]; simp) nd.1
abbrev Vn:kC:=CH
def Pa:iq :=
 (bY (bB (br ic (dC (.int 1)) (br sR (bC b8 (aw (au 0) (aw (dC (.int 0)) aQ))) (dC (.int 3)))) (aG 1))
 (bY (bB (dC (.int 12)) (aG 2))
 (bY (jF (jD (br (B8 false) (br sR (bC b8 (aw (au 0) (aw (dC (.int 1)) aQ))) (dC (.int 2))) (dC (.int 1)))) (bB (dC (.int 999)) (aG 2)) fR)
 (bY (bB (cJ (bC fj (aw (zk (au 0) (nH (dC (.int 4))) (nH (br ic (dC (.int 4)) (br sR (bC b8 (aw (au 0) (aw (dC (.int 3)) aQ))) (dC (.int 6)))))) (aw (au 1) (aw (au 2) aQ))))) (aG 3))
 (bY (bB (cJ (bC lh (aw (bC gW (aw (au 3) aQ)) (aw (bC b8 (aw (au 0) (aw (dC (.int 2)) aQ))) aQ)))) (aG 4))
 (bY (bB (cJ (bC fA (aw (au 3) aQ))) (aG 5))
 (bY (bB (Kj kK (aw (au 5) aQ)) (aG 6))
 (bY (jF (Oi (uq (jD (Kk iK (aw (au 6) aQ)))) (jD (br (B8 true) (au 6) (bC fO (aw (au 5) aQ))))) (cE (cJ (dC (.bl false)))) fR)
 (bY (bB (bC lQ (aw (cJ (au 5)) (aw (cJ (oK wW (aw (au 4) aQ))) aQ))) (aG 7))
 (bY (jF (Oi (uq (jD (Q8 (au 7)))) (Oi (jD (br (B8 true) (r8 tyP CS (au 7) (aw (cJ (ij aQ)) (aw (cJ lD) aQ))) (au 6))) (Oi (jD (br rGt (oK Rn (aw (au 7) aQ)) (dC (.int 1)))) (jD (br (B8 true) (au 5) (au 3)))))) (cE (cJ (dC (.bl false)))) fR)
 (bY (bB (cJ (bC nQ (aw (au 3) (aw (bC b8 (aw (au 0) (aw (dC (.int 9)) aQ))) aQ)))) (aG 8))
 (bY (bB (oK HQ (aw (au 6) aQ)) (aG 9))
 (bY (bB (dC (.int 1)) (kb (au 6) (dC (.int 101))))
 (cE (cJ (HB (br (B8 false) (bC kK (aw (au 8) aQ)) (au 9)) (br (B8 false) (bC kK (aw (au 5) aQ)) (au 9))))))))))))))))))
theorem WQ(ds:List D)(G:Gp)(Q:DK)(h:Vn ds G Q fun _ _=>False):Pa (fun _ _=>False) (ends Q) (bg 10 ds) G:=by
 obtain⟨ns,rfl,hl,hG,q⟩:=h;unfold Pa;simp only [↓cx,bB,br,dC,bC,aw,au,bg,↓ak,↓aS,↓ai,↓aB,aR,↓aE,↓aM,↓aa,aQ,aG,ends,↓aq,↓aj];refine⟨ns,0,rfl,by decide,by decide,?_⟩;have s1:0<=kX ns 0 % 3:=kE _ (by decide);have s2:kX ns 0 % 3 < 3:=iH _ (by decide);generalize kX ns 0 % 3=s0 at s1 s2;obtain⟨S,hS⟩:∃ S:Nat,1+s0=(S:Int):=⟨(1+s0).toNat,by lia⟩;have hS1:1<=S:=by lia
 have hS3:S<=3:=by lia
 simp only [↓dq,hS];refine eG (fun τ G'=>G=G'/\∃ sp:Int,(1<=sp/\sp<=999)/\τ=[some (.dN (ns.map D.int)),some (.int S),some (.int sp),none,none,none,none,none,none,none]) ?_ ?_
 ·intro N hN;simp only [jF,↓eD,br,bC,aw,au,↓aa,dC,aQ,bB,aG,↓aq,↓aj,fR];refine⟨ns,1,rfl,by decide,by decide,Pc ?_⟩;simp only [↓b9,↓ay,↓if_false];split
  ·exact hN _ _ ⟨rfl,999,by decide,rfl⟩
  ·exact hN _ _ ⟨rfl,12,by decide,rfl⟩
 rintro _ _ ⟨rfl,sp,⟨sp1,sp2⟩,rfl⟩;simp only [↓cx,bB,cJ,bC,aw,zk,au,↓aa,↓jE,dC,↓fU,br,aQ,↓zy,↓ae,aG,↓aq,↓aj];refine⟨ns,3,rfl,by decide,by decide,?_⟩;have d1:0<=kX ns 3 % 6:=kE _ (by decide);have d2:kX ns 3 % 6 < 6:=iH _ (by decide);generalize kX ns 3 % 6=j at d1 d2;simp only [↓dq,↓fU];rw [oe];intro pS fS;have JV:(cut ns (some 4) (some (4+j))).length<=5:=by
  unfold cut kn;simp only;rw [if_neg (by lia),if_neg (by lia)];simp only [eB,cP]; lia
 generalize cut ns (some 4) (some (4+j))=cells at JV;refine⟨.ref pS,cells,S,sp,rfl,IsL.ref ax,⟨by lia,⟨hS1,hS3⟩,sp1,sp2⟩,fun rows d hlen hfl=>wB (.new fS) ?_⟩;have nl:=AS d;have aa5:∀ r∈rows,r.length<=100:=fun r hr=>aU (Om.GL hr) (by lia);have ol:=qV rows.flatten;refine⟨rows,rfl,by lia,?_⟩;refine⟨ns,2,rfl,by decide,?_⟩;refine⟨enc (yC rows.flatten),yC rows.flatten,_,rfl,IsL.enc _,by lia,fun ms hms=>du ?_⟩;have Yq:ms.Perm (names rows):=hms.trans (xH rows);have hml:=Yq.length_eq;refine⟨rows.map fun r=>r.map enc,by rw [iW],by rw [ao]; lia,fun G3 p2 as2 h2=>h2.fz ?_⟩;rw [<-iW];have nod:vY [(enc rows:D)]=true:=by
  have n3:∀ r:List T3,vY (r.map (enc:T3->D))=true:=fun r=>by
   induction r with
   | nil=>rfl
   | cons t r ih=>rw [ak]; show (Zu (enc t)&&vY (r.map enc))=true; rw [ih]; rfl
  have n2:∀ rs:Rows,vY (rs.map (enc:List T3->D))=true:=fun rs=>by
   induction rs with
   | nil=>rfl
   | cons t r ih=>rw [ak]; show (vY (t.map enc)&&vY (r.map enc))=true; rw [ih,n3]; rfl
  show (vY (rows.map enc)&&true)=true;rw [n2]; rfl
 simp only [Kj,aw,au,↓ae,↓aa,aQ];refine⟨nod,rows,rfl,⟨d,by lia⟩,fun T bT=>⟨aT T,rfl,?_,fun pF fF=>?_⟩⟩
 ·refine List.all_eq_true.mpr fun p hp=>?_;unfold aT at hp;obtain⟨x,_,rfl⟩:=List.mem_map.mp hp;rfl
 have gF:(dH G pF (.eW (aT T))) pF=some (.eW (aT T)):=ax;have lF:fh G (dH G pF (.eW (aT T))):=.new fF;generalize dH G pF (.eW (aT T))=G1 at gF lF;simp only [bY,jF,Oi,uq,↓eD,Kk,aw,au,↓ae,↓aa,aQ,cE,cJ,dC,fR,↓cx,bB,bC,oK,aG,↓aq,↓aj,kb,↓tE,br,↓if_true,r8,ij,↓aB,lD];refine⟨_,gF,_,_,rfl,⟨rfl,bT.nd⟩,bT.nz,.inl ⟨rfl,?_⟩⟩;simp only [↓b9,↓bF,↓ay,↓if_false];refine⟨rows,rfl,⟨d,by lia,v3 d,by lia⟩,fun U tU p4 f4=>?_⟩;have Yn:pF≠p4:=fun z=>by rw [<-z,gF] at f4; cases f4
 have same:∀ {A B:Po},ND A->NZ A->ND B->NZ B->(∀ g,L g A=brk rows g)->(∀ g,L g B=brk rows g)->zj A B=true:=fun {A B} a1 a2 b1 b2 h1 h2=>EE a1 b1 a2 b2 fun g=>(h1 g).trans (h2 g).symm;refine vU (vn.ref (by rw [cw Yn]; exact gF)) (vn.ref ax) ?_;rw [same bT.nd bT.nz tU.nd tU.nz bT.val fun g=>(tU.val g).trans (JK.TZ d g)];have YL:(dH G1 p4 (.eW (aT U))) pF=some (.eW (aT T)):=by rw [cw Yn]; exact gF
 generalize dH G1 p4 (.eW (aT U))=G2 at YL;simp only [↓b9,↓bF,↓if_true,↓ay,↓if_false];refine du (HN (IsL.enc ms) fun p5 f5=>gS (xs:=ms) (.new f5) f5 ax ?_);refine⟨rows,ms,rfl,⟨d,Yq,by lia⟩,fun S' so hn hv=>?_⟩;simp only [Q8,au,↓ae,↓aa,↓b9,↓bF,↓ay,↓if_false];refine⟨trivial,by decide,du ?_⟩;intro p6 f6;refine gu (.new f6) f6 ax ?_;refine⟨[],rfl,?_⟩;have e:(qx (iR S') []).getD (.iL [])=.iL (aT ((bH S' []).getD [])):=by
  rw [xN];cases bH S' [] <;> rfl
 rw [e];refine vU vn.iL (vn.ref YL) ?_;have hbr:∀ g,Br (fr rows) (xh rows ms) (kL (lo rows) g)=brk rows g:=fun g=>Mn (ps:=xh rows ms) (qs:=xh rows (names rows)) (Yq.map _) (by rw [Eg]; exact⟨(Hk d).iv,(Yq.nodup_iff).mpr (Hk d).nd,fun n hn=>(Hk d).dm n (Yq.mem_iff.mp hn)⟩) _;rw [same (so.Jz.get []).1 (so.Jz.get []).2 bT.nd bT.nz (fun g=>by rw [<-KY so,hv,hbr]) bT.val];simp only [↓b9,↓bF,↓if_true,↓ay,↓if_false];have h1:=Vo so;have hle:(iR S').length=S'.length:=by unfold iR; rw [ao]
 refine⟨by rw [hle]; lia,?_⟩;simp only [↓zC,↓b9];rw [if_neg (by rw [hle]; simp; lia)];refine .inl ⟨_,_,Enc.sn G2 8 rows (by decide),Enc.sn G2 8 rows (by decide),?_⟩;rw [Enc.eqv,decide_eq_true rfl];simp only [↓b9,↓bF,↓if_true,↓ay,↓if_false];refine⟨ns,9,rfl,by decide,?_⟩;refine⟨rows,_,rfl,⟨by lia,aa5⟩,fun σ hσ=>du ?_⟩;obtain⟨a1,a2,a3⟩:=Vs rows σ hσ;have dR:Dr (zw rows σ):=JE.Dr.perm d a2 (by rw [List.length_zipWith]; have:=d.str; lia);have hR:(zw rows σ).flatten.length<=12:=by rw [a2.length_eq]; lia
 refine⟨_,vn.ref YL,?_,?_,fun p7 f7=>?_⟩
 ·exact kW _
 ·unfold aT;rw [ao];exact aU bT.len (by decide)
 have h7:pF≠p7:=fun z=>by rw [<-z,YL] at f7; cases f7
 have g7:(dH G2 p7 (.eW (aT T))) p7=some (.eW (aT T)):=ax;have gF7:(dH G2 p7 (.eW (aT T))) pF=some (.eW (aT T)):=by rw [cw h7]; exact YL
 generalize dH G2 p7 (.eW (aT T))=G5 at g7 gF7;simp only [↓cJ,↓bg,↓ends,↓eD,↓br,↓W8,↓au,↓oK,↓r8,↓aw,↓aQ,↓cE,↓Q5,↓jg,↓bB,↓aG,↓dC,↓fR,↓ij,↓gG,↓lD,↓wO,↓WA,↓Oi,↓uq,↓tE,↓EJ,↓wN,↓zk,↓jE,↓ft,↓dM,↓qA,↓bC,↓gf,↓dq,↓vV,↓sT,↓qt,↓sP,↓qp,↓iU,↓jK,↓vT,↓zB,↓DX,↓zC,↓DZ,↓jv,↓mC,↓tR,↓zy,↓zA,↓tG,↓Bz,↓yb,↓iM,↓kU,↓sY,↓ni,↓k7,↓qQ,↓DN,↓DM,↓true_and,↓and_true,↓nT,↓wy,↓fU,↓b9,↓oj,↓wm,↓Ek,↓A6,↓ak,↓aS,↓aE,↓aM,↓aa,↓ae,↓aj,↓aq,↓ai,↓aB,↓aR,↓if_true,↓if_false,↓bF,↓di,↓ay,↓cx,↓vJ,↓kb,↓jb,↓uJ,↓Ax,↓qr,↓Dp,↓ig,↓cL,↓hU];refine K2.fH (α:=Int) (v:=1) gF7 (dW bT.len (by decide)) ?_;have g8:(dH G5 pF (.eW (aT (df T 101 1)))) p7=some (.eW (aT T)):=by rw [cw (dG h7)]; exact g7
 generalize dH G5 pF (.eW (aT (df T 101 1)))=G6 at g8;refine⟨zw rows σ,rfl,⟨dR,hR⟩,fun V bV=>?_⟩;refine vU vn.iL (vn.ref g8) ?_;rw [same bV.nd bV.nz bT.nd bT.nz (fun g=>(bV.val g).trans (JF.Rv d dR a1 a2 a3 g)) bT.val];simp only [↓b9,↓ay,↓bF,↓if_false,↓if_true];refine⟨rows,rfl,⟨d,by lia⟩,fun W bW=>?_⟩;refine vU vn.iL (vn.ref g8) ?_;rw [same bW.nd bW.nz bT.nd bT.nz bW.val bT.val];exact du (q _)
end ZU
end K2
end
namespace Fin
open PySem PySem.Spec PyProof.Rows L2 K2
open K2.JB (kH BE j4 uK jt yY jr tP lg w6 lQ DB kK BK fA pH gX pG kJ BH)
open K2.JE (hZ uM)
open K2.xi (lR BJ y0 i6 DC gw yU i5 uL oA H0 oB Ia gW w8)
open K2.B0 (jq tN j5 uN fO pI)
open K2.ZU
open K2.P (gM tM gx yV ib BI kI BF mz yS mB yT lj w9)
open K2.Y (da oP ju Ib jo HZ fT BD gB DA b8 tO eM w7 cW yX iK yW)
def top(i:Nat):Stmt:=PySem.Challenge.pw_knotwise_k44_whole_both_ways_one_bracket.main.body.getD i (.Pass ⟨0,0,0,0⟩)
theorem O4:pK ["_law_script","_law_strings","_law_spread","_law_rows","_law_names_here","_law_handed","_law_found","_law_told","_law_begun_here","_law_due"] ["_law_script"] (cf (top 52)):=scm
section
variable {V:Uc} (Y:U5 V)
include Y
seal yh Iw gH Cw
theorem Bj (F:iF V.K "_law_cell_at" (top 40)) (fM:ou V.K "len"):fV V 1 "_law_cell_at" ["_law_script","_law_k"] b8 :=
 qK ["_law_script","_law_k"] Y F tO fun hr nd=>have hu:=hr.units; have hu0:=hr.OH; (aI (jx (fC (PI hu0) (bw 1) (ez iE rfl (Y.no fM) nv (jz (bw 0))) (gR _)) (aN (bX (aX (eK hu (bw 0) (bw 1) (fun _ _=>rfl))))) gN)
 (aN (bX (aX aO))))
theorem Hr (F:iF V.K "_law_pick" (top 42)):fV V 1 "_law_pick" ["_law_cell","_law_prime","_law_many"] cW :=
 qK ["_law_cell","_law_prime","_law_many"] Y F yX fun hr nd=>(aN (bX (aX (bZ jL (bZ jL (bZ zG (bw 0) aO) (bw 1)) (bw 2)))))
theorem Cg (F:iF V.K "_law_digits" (top 47)) (jM:ou V.K "enumerate") (oM:fV V 1 "_law_pick" ["_law_cell","_law_prime","_law_many"] cW):fV V 2 "_law_digits" ["_law_cell","_law_sizes"] hZ :=
 qK ["_law_cell","_law_sizes","_law_primes","_law_left","_law_found","_law_at","_law_size"] Y F uM fun hr nd=>have hu:=hr.units; (aI (jH (i:=2) nd rfl (fJ (dO aO (dO aO (dO aO (dO aO (dO aO (dO aO (dO aO (D8 aO aO aO))))))))))
 (aI (jH (i:=3) nd rfl (bZ qw (bw 0) aO))
 (aI (jH (i:=4) nd rfl (fJ fP))
 (aI (cR aZ rfl (Gg rfl (Y.no jM) (bw 1)) (gn rfl (bL (jZ (i:=5) nd rfl) (bL (jZ (i:=6) nd rfl) fk)) (bM (bM fm))) (aN (jx (fC (lU hu) (bZ jL (bw 0) aO) aO (gR _)) (aI (lx (jy dn gk gj k8 lW (bw 4) (jz (bZ jL (bw 3) (bw 6)))))
 (aN (jH (i:=3) nd rfl (bZ qw (bw 3) (bw 6))))) (aN (lx (jy dn gk gj k8 lW (bw 4) (jz (j7 oM hr (D8 (bw 0) (eK hu (bw 2) (bw 5) (fun _ _=>rfl)) (bw 6))))))))))
 (aN (bX (aX (bw 4))))))))
theorem Hs (F:iF V.K "_law_free" (top 45)):fV V 1 "_law_free" ["_law_names_here","_law_name"] gX :=
 qK ["_law_names_here","_law_name"] Y F pG fun hr nd=>have hu:=hr.units; (aI (MQ aZ (fC (VQ hu) (bw 1) (bw 0) (by with_unfolding_all rfl)) (aN (jH (i:=1) nd rfl (bZ dc (bZ jL (bw 1) aO) aO))))
 (aN (bX (aX (bw 1)))))
theorem Ht (F:iF V.K "_law_copy" (top 44)) (t4:ou V.K "list"):fV V 1 "_law_copy" ["_law_rows"] fA :=
 qK ["_law_rows"] Y F pH fun hr nd=>(aN (bX (aX (j6 ["_law_row"] (sc:=cf (top 44)) (XN:=["_law_rows"]) (d8 (bw 0)) (fun _ _ _ _=>(jZ (i:=0) (show (["_law_row"]:List Str).Nodup by decide +kernel) rfl)) (fun _ _ _ _=>.none) (fun _ _ _ _=>(oF Bv rfl (Y.no t4) L9 (jz (bw 0))))))))
theorem J3 (F:iF V.K "_law_put" (top 46)) (fM:ou V.K "len") (vh:fV V 1 "_law_copy" ["_law_rows"] fA):fV V 2 "_law_put" ["_law_rows","_law_at","_law_place","_law_more"] kJ :=
 qK ["_law_rows","_law_at","_law_place","_law_more","_law_made"] Y F BH fun hr nd=>have hu:=hr.units; (aI (jH (i:=4) nd rfl (j7 vh hr (jz (bw 0))))
 (aI (jH (i:=2) nd rfl (bZ jL (bw 2) (bZ dc (ez iE rfl (Y.no fM) nv (jz (eK hu (bw 4) (bw 1) (fun _ _=>rfl)))) aO)))
 (aI (gY (bZ dc (bZ dc (gC (eK hu (bw 4) (bw 1) (fun _ _=>rfl)) iV (gZ (bw 2))) (bw 3)) (gC (eK hu (bw 4) (bw 1) (fun _ _=>rfl)) (gZ (bw 2)) iV)) (iO hu (bw 4) (bw 1)))
 (aN (bX (aX (bw 4)))))))
theorem Bi (F:iF V.K "_law_drawing" (top 48)) (oH:ou V.K "range") (EV:fV V 2 "_law_digits" ["_law_cell","_law_sizes"] hZ) (Ks:fV V 1 "_law_free" ["_law_names_here","_law_name"] gX) (NP:fV V 2 "_law_put" ["_law_rows","_law_at","_law_place","_law_more"] kJ):fV V 3 "_law_drawing" ["_law_cells","_law_strings","_law_spread"] fj :=
 qK ["_law_cells","_law_strings","_law_spread","_law_rows","_law_names_here","_law_cell","_law_part","_law_name","_law_way"] Y F oQ fun hr nd=>have hu:=hr.units; (aI (zF (AD ["_law_k"] (sc:=cf (top 48)) (XN:=["_law_cells","_law_strings","_law_spread","_law_rows","_law_names_here","_law_cell","_law_part","_law_name","_law_way"]) (i:=3) nd rfl rfl (uW rfl (Y.no oH) (bw 1)) (fun _ _ _ _=>(jZ (i:=0) (show (["_law_k"]:List Str).Nodup by decide +kernel) rfl)) (fun _ _ _ _=>.none) (fun _ _ _ _=>(fJ fP))))
 (aI (jH (i:=4) nd rfl (fJ fP))
 (aI (cR aZ rfl (d8 (bw 0)) (jZ (i:=5) nd rfl) (aI (jH (i:=6) nd rfl (j7 EV hr (mZ (aX (bw 5)) (aX (fJ (dO (bw 2) (dO aO (dO (bw 1) (D8 aO (bw 1) aO)))))))))
 (aI (jH (i:=7) nd rfl (j7 Ks hr (mZ (bw 4) (bZ dc aO (eK hu (bw 6) aO (fun _ _=>rfl))))))
 (aI (lx (jy dn gk gj k8 lW (bw 4) (jz (bw 7))))
 (aN (cR aZ rfl (uW rfl (Y.no oH) aO) (jZ (i:=8) nd rfl) (aN (jH (i:=3) nd rfl (aX (j7 NP hr (dO (aX (bw 3)) (D8 (aX (eK hu (bw 6) (bZ dc aO (bZ zG aO (bw 8))) (fun _ _=>rfl))) (aX (eK hu (bw 6) (bZ dc aO (bZ zG aO (bw 8))) (fun _ _=>rfl))) (aX (fJ (jz (eN (D8 (bw 7) (bw 8) (bZ S4 aO (bZ zG aO (eK hu (bw 6) aO (fun _ _=>rfl)))))))))))))))))))))
 (aN (bX (aX (bw 3)))))))
theorem Bh (F:iF V.K "_law_stirred" (top 50)) (fM:ou V.K "len") (oM:fV V 1 "_law_pick" ["_law_cell","_law_prime","_law_many"] cW):fV V 2 "_law_stirred" ["_law_every","_law_cell"] lh :=
 qK ["_law_every","_law_cell","_law_names_here","_law_left","_law_name","_law_place"] Y F BG fun hr nd=>have hu:=hr.units; (aI (jH (i:=2) nd rfl (aX (fJ fP)))
 (aI (jH (i:=3) nd rfl (bZ qw (bw 1) aO))
 (aI (cR aZ rfl (d8 (bw 0)) (jZ (i:=4) nd rfl) (aI (jH (i:=5) nd rfl (bZ jL (bw 3) (bZ dc (ez iE rfl (Y.no fM) nv (jz (bw 2))) aO)))
 (aI (jH (i:=3) nd rfl (bZ qw (bw 3) (bZ dc (ez iE rfl (Y.no fM) nv (jz (bw 2))) aO)))
 (aI (jx (fC (lU hu) (bZ jL (bw 1) aO) aO (gR _)) (aN (jH (i:=5) nd rfl (j7 oM hr (D8 (bZ dc (bw 4) (bw 1)) aO (bZ dc (ez iE rfl (Y.no fM) nv (jz (bw 2))) aO))))) gN)
 (aN (jH (i:=2) nd rfl (aX (bZ dc (bZ dc (gC (bw 2) iV (gZ (bw 5))) (fJ (jz (bw 4)))) (gC (bw 2) (gZ (bw 5)) iV)))))))))
 (aN (bX (aX (bw 2)))))))
theorem Ew (F:iF V.K "_law_names" (top 49)):fV V 1 "_law_names" ["_law_rows"] gW :=
 qK ["_law_rows","_law_names_here","_law_row","_law_passing"] Y F w8 fun hr nd=>have hu:=hr.units; (aI (jH (i:=1) nd rfl (fJ fP))
 (aI (cR aZ rfl (d8 (bw 0)) (jZ (i:=2) nd rfl) (aN (cR aZ rfl (d8 (bw 2)) (jZ (i:=3) nd rfl) (aN (jx (fC (lU hu) (eK hu (bw 3) aO (fun _ _=>rfl)) aO (gR _)) (aN (lx (jy dn gk gj k8 lW (bw 1) (jz (eK hu (bw 3) aO (fun _ _=>rfl)))))) gN)))))
 (aN (bX (aX (bw 1))))))
theorem Bf (F:iF V.K "passings_of" (top 4)):fV V 1 "passings_of" ["rows"] gM :=
 qK ["rows","passings","row"] Y F tM fun hr nd=>(aI (jH (i:=1) nd rfl (fJ fP))
 (aI (cR aZ rfl (d8 (bw 0)) (jZ (i:=2) nd rfl) (aN (lx (jy dn rS rR k8 uZ (bw 1) (jz (bw 2))))))
 (aN (bX (aX (bw 1))))))
theorem J4 (F:iF V.K "hand_of" (top 6)) (qe:fV V 1 "passings_of" ["rows"] gM):fV V 2 "hand_of" ["drawing","name"] ib :=
 qK ["drawing","name","passing"] Y F BI fun hr nd=>have hu:=hr.units; (aI (cR aZ rfl (d8 (j7 qe hr (jz (bw 0)))) (jZ (i:=2) nd rfl) (aN (jx (fC (lU hu) (eK hu (bw 2) aO (fun _ _=>rfl)) (bw 1) (gR _)) (aN (bX (aX (eK hu (bw 2) aO (fun _ _=>rfl))))) gN)))
 (aN MR))
theorem J2 (F:iF V.K "next_of" (top 9)) (qX:ou V.K "zip"):fV V 1 "next_of" ["drawing"] kI :=
 qK ["drawing","behind","row","passing","follower"] Y F BF fun hr nd=>have hu:=hr.units; (aI (jH (i:=1) nd rfl kA)
 (aI (cR aZ rfl (d8 (bw 0)) (jZ (i:=2) nd rfl) (aN (cR aZ rfl (Lm rfl (Y.no qX) (bw 2) (bZ dc (gC (bw 2) (gZ aO) iV) (gC (bw 2) iV (gZ aO)))) (gn rfl (bL (jZ (i:=3) nd rfl) (bL (jZ (i:=4) nd rfl) fk)) (bM (bM fm))) (aN (gY (gC (bw 4) iV (gZ aO)) (iO hu (bw 1) (gC (bw 3) iV (gZ aO))))))))
 (aN (bX (aX (bw 1))))))
theorem J1 (F:iF V.K "plan_of" (top 32)) (gE:ou V.K "sorted") (AR:ou V.K "tuple"):fV V 1 "plan_of" ["far"] kH :=
 qK ["far"] Y F BE fun hr nd=>have hu:=hr.units; have hu0:=hr.OH; (aN (bX (aX (oF HH rfl (Y.no AR) Ru (jz (ez (lz rfl hu) rfl (Y.no gE) qE (jz (j6 ["end","far"] (sc:=cf (top 32)) (XN:=["far"]) (AH (bw 0)) (fun _ _ _ _=>(jZ (i:=0) (show (["end","far"]:List Str).Nodup by decide +kernel) rfl)) (fun _ _ _ _=>(.some (fC (PI hu0) (bw 0) (eK hu (bw 1) (bw 0) (fun _ _=>rfl)) (gR _)))) (fun _ _ _ _=>(eN (mZ (bw 0) (eK hu (bw 1) (bw 0) (fun _ _=>rfl)))))))))))))
theorem Hu (F:iF V.K "far_ends" (top 34)):fV V 1 "far_ends" ["threads"] jt :=
 qK ["threads","far","one","other"] Y F yY fun hr nd=>have hu:=hr.units; (aI (jH (i:=1) nd rfl kA)
 (aI (cR aZ rfl (d8 (bw 0)) (gn rfl (bL (jZ (i:=2) nd rfl) (bL (jZ (i:=3) nd rfl) fk)) (bM (bM fm))) (aI (gY (bw 3) (iO hu (bw 1) (bw 2)))
 (aN (gY (bw 2) (iO hu (bw 1) (bw 3))))))
 (aN (bX (aX (bw 1))))))
theorem Ce (F:iF V.K "whole_plan" (top 33)) (x6:fV V 1 "next_of" ["drawing"] kI) (xZ:fV V 1 "plan_of" ["far"] kH) (vi:fV V 1 "far_ends" ["threads"] jt):fV V 2 "whole_plan" ["drawing"] j4 :=
 qK ["drawing","threads"] Y F uK fun hr nd=>(aI (AD ["spot","after"] (sc:=cf (top 33)) (XN:=["drawing","threads"]) (i:=1) nd rfl rfl (AF (j7 x6 hr (jz (bw 0)))) (fun _ _ _ _=>(gn rfl (bL (jZ (i:=0) (show (["spot","after"]:List Str).Nodup by decide +kernel) rfl) (bL (jZ (i:=1) (show (["spot","after"]:List Str).Nodup by decide +kernel) rfl) fk)) (bM (bM fm)))) (fun _ _ _ _=>.none) (fun _ _ _ _=>(eN (mZ (bZ dc (bw 0) (eN (jz aO))) (bZ dc (bw 1) (eN (jz aO)))))))
 (aN (bX (aX (j7 xZ hr (jz (aX (j7 vi hr (jz (bw 1))))))))))
theorem vc (F:iF V.K "without_noughts" (top 15)):fV V 1 "without_noughts" ["sums"] da :=
 qK ["sums","kept","power","number"] Y F oP fun hr nd=>have hu:=hr.units; (aI (jH (i:=1) nd rfl kA)
 (aI (cR aZ rfl (lT (bw 0)) (gn rfl (bL (jZ (i:=2) nd rfl) (bL (jZ (i:=3) nd rfl) fk)) (bM (bM fm))) (aN (jx (fC (PH hu) (bw 3) aO (gR _)) (aN (gY (bw 3) (iO hu (bw 1) (bw 2)))) gN)))
 (aN (bX (aX (bw 1))))))
theorem QK (F:iF V.K "times" (top 17)) (hV:fV V 1 "without_noughts" ["sums"] da):fV V 2 "times" ["one","other"] jo :=
 qK ["one","other","sums","power","number","other_power","other_number","both"] Y F HZ fun hr nd=>have hu:=hr.units; (aI (jH (i:=2) nd rfl kA)
 (aI (cR aZ rfl (lT (bw 0)) (gn rfl (bL (jZ (i:=3) nd rfl) (bL (jZ (i:=4) nd rfl) fk)) (bM (bM fm))) (aN (cR aZ rfl (lT (bw 1)) (gn rfl (bL (jZ (i:=5) nd rfl) (bL (jZ (i:=6) nd rfl) fk)) (bM (bM fm))) (aI (jH (i:=7) nd rfl (bZ dc (bw 3) (bw 5)))
 (aN (gY (bZ dc (jy cI dh ik oy LC (bw 2) (mZ (bw 7) aO)) (bZ Gk (bw 4) (bw 6))) (iO hu (bw 2) (bw 7))))))))
 (aN (bX (aX (j7 hV hr (jz (aX (bw 2)))))))))
theorem NH (F:iF V.K "raised" (top 19)) (oH:ou V.K "range") (EU:fV V 2 "times" ["one","other"] jo):fV V 3 "raised" ["one","count"] gB :=
 qK ["one","count","product","step"] Y F DA fun hr nd=>(aI (jH (i:=2) nd rfl (PB aO aO))
 (aI (cR aZ rfl (uW rfl (Y.no oH) (bw 1)) (jZ (i:=3) nd rfl) (aN (jH (i:=2) nd rfl (j7 EU hr (mZ (aX (bw 2)) (aX (bw 0)))))))
 (aN (bX (aX (bw 2))))))
theorem Bk (F:iF V.K "joined_plan" (top 35)) (vi:fV V 1 "far_ends" ["threads"] jt) (xZ:fV V 1 "plan_of" ["far"] kH):fV V 2 "joined_plan" ["plan","pairs"] jr :=
 qK ["plan","pairs","far","closed","one","other","before","after"] Y F tP fun hr nd=>have hu:=hr.units; (aI (jH (i:=2) nd rfl (j7 vi hr (jz (bw 0))))
 (aI (jH (i:=3) nd rfl aO)
 (aI (cR aZ rfl (d8 (bw 1)) (gn rfl (bL (jZ (i:=4) nd rfl) (bL (jZ (i:=5) nd rfl) fk)) (bM (bM fm))) (aI (jH (i:=6) nd rfl (jy cI uP Mp oy (Gz hu) (bw 2) (jz (bw 4))))
 (aI (jH (i:=7) nd rfl (jy cI uP Mp oy (Gz hu) (bw 2) (jz (bw 5))))
 (aN (jx (fC (lU hu) (bw 6) (bw 5) (gR _)) (aN (jH (i:=3) nd rfl (bZ dc (bw 3) aO))) (aI (gY (bw 7) (iO hu (bw 2) (bw 6)))
 (aN (gY (bw 6) (iO hu (bw 2) (bw 7))))))))))
 (aN (bX (aX (eN (mZ (j7 xZ hr (jz (aX (bw 2)))) (bw 3)))))))))
theorem NJ (F:iF V.K "joints" (top 25)) {nP:Tok} (iX:e7 V.K bR "ALONG" = some (some (.int 0 nP))):fV V 1 "joints" ["name","split"] i6 :=
 qK ["name","split"] Y F DC fun hr nd=>have hu:=hr.units; (aI (jx (fC (lU hu) (bw 1) (tX rfl (Y.mg iX)) (gR _)) (aN (bX (aX (fJ (mZ (eN (mZ (eN (D8 (bw 0) aO aO)) (eN (D8 (bw 0) aO aO)))) (eN (mZ (eN (D8 (bw 0) aO aO)) (eN (D8 (bw 0) aO aO))))))))) gN)
 (aN (bX (aX (fJ (mZ (eN (mZ (eN (D8 (bw 0) aO aO)) (eN (D8 (bw 0) aO aO)))) (eN (mZ (eN (D8 (bw 0) aO aO)) (eN (D8 (bw 0) aO aO))))))))))
theorem J0 (F:iF V.K "shifted" (top 18)) (hV:fV V 1 "without_noughts" ["sums"] da):fV V 2 "shifted" ["one","by","factor"] fT :=
 qK ["one","by","factor","sums","power","number"] Y F BD fun hr nd=>have hu:=hr.units; (aI (jH (i:=3) nd rfl kA)
 (aI (cR aZ rfl (lT (bw 0)) (gn rfl (bL (jZ (i:=4) nd rfl) (bL (jZ (i:=5) nd rfl) fk)) (bM (bM fm))) (aN (gY (bZ Gk (bw 5) (bw 2)) (iO hu (bw 3) (bZ dc (bw 4) (bw 1))))))
 (aN (bX (aX (j7 hV hr (jz (aX (bw 3)))))))))
theorem Hn (F:iF V.K "power_at" (top 26)) {nP:Tok} (iX:e7 V.K bR "ALONG" = some (some (.int 0 nP))):fV V 1 "power_at" ["hand","split"] gw :=
 qK ["hand","split"] Y F yU fun hr nd=>have hu:=hr.units; (aN (bX (aX (Pz (fC (lU hu) (bw 1) (tX rfl (Y.mg iX)) (gR _)) (bw 0) (VH Sl (bw 0))))))
theorem QN (F:iF V.K "added" (top 16)) (no_dict:ou V.K "dict") (hV:fV V 1 "without_noughts" ["sums"] da):fV V 2 "added" ["one","other"] ju :=
 qK ["one","other","sums","power","number"] Y F Ib fun hr nd=>have hu:=hr.units; (aI (jH (i:=2) nd rfl (oF Bw rfl (Y.no no_dict) ud (jz (bw 0))))
 (aI (cR aZ rfl (lT (bw 1)) (gn rfl (bL (jZ (i:=3) nd rfl) (bL (jZ (i:=4) nd rfl) fk)) (bM (bM fm))) (aN (gY (bZ dc (jy cI dh ik oy LC (bw 2) (mZ (bw 3) aO)) (bw 4)) (iO hu (bw 2) (bw 3)))))
 (aN (bX (aX (j7 hV hr (jz (aX (bw 2)))))))))
theorem Et (F:iF V.K "opened_at" (top 36)) (no_dict:ou V.K "dict") {ql:Tok} (ma:e7 V.K bR "AGAINST" = some (some (.int 1 ql))) {nP:Tok} (iX:e7 V.K bR "ALONG" = some (some (.int 0 nP))) {kM:Addr} (nV:e7 V.K bR "LOOP" = some (some (.ref kM))) (nU:(kM == cS)=false) (nW:Bp V.K kM [(2,-1),(-2,-1)]=true) (Cs:fV V 2 "joined_plan" ["plan","pairs"] jr) (By:fV V 1 "joints" ["name","split"] K2.JB.i6) (xY:fV V 2 "shifted" ["one","by","factor"] fT) (ve:fV V 1 "power_at" ["hand","split"] K2.JB.gw) (EU:fV V 2 "times" ["one","other"] jo) (tF:fV V 3 "raised" ["one","count"] gB) (EX:fV V 2 "added" ["one","other"] ju):fV V 4 "opened_at" ["sums","name","hand"] lg :=
 qK ["sums","name","hand","after","plan","poly","split","made","part","kept"] Y F w6 fun hr nd=>have hu:=hr.units; (aI (jH (i:=3) nd rfl Lo)
 (aI (zF (cR aZ rfl (AG (bw 0)) (gn rfl (bL (jZ (i:=4) nd rfl) (bL (jZ (i:=5) nd rfl) fk)) (bM (bM fm))) (aN (cR aZ rfl (d8 (eN (mZ (tX rfl (Y.mg iX)) (tX rfl (Y.mg ma))))) (jZ (i:=6) nd rfl) (aI (jH (i:=7) nd rfl (j7 Cs hr (mZ (bw 4) (j7 By hr (mZ (bw 1) (bw 6))))))
 (aI (jH (i:=8) nd rfl (j7 xY hr (D8 (aX (j7 EU hr (mZ (aX (bw 5)) (aX (j7 tF hr (mZ (aX (xD rfl (Y.no no_dict) rfl (Y.mg nV) nU nW (by decide) (by decide))) (aX (eK hu (bw 7) aO (fun _ _=>rfl))))))))) (aX (j7 ve hr (mZ (bw 2) (bw 6)))) (aX aO))))
 (aN (gY (aX (j7 EX hr (mZ (aX (jy cI dh ik DP (AU hu) (bw 3) (mZ (aX (eK hu (bw 7) aO (fun _ _=>rfl))) (aX kA)))) (aX (bw 8))))) (Gh hu (bw 3) (eK hu (bw 7) aO (fun _ _=>rfl)))))))))))
 (aI (jH (i:=9) nd rfl Lo)
 (aI (zF (cR aZ rfl (AG (bw 3)) (gn rfl (bL (jZ (i:=4) nd rfl) (bL (jZ (i:=5) nd rfl) fk)) (bM (bM fm))) (aN (jx (kS (bw 5)) (aN (gY (aX (bw 5)) (Gh hu (bw 9) (bw 4)))) gN))))
 (aN (bX (aX (bw 9))))))))
theorem NI (F:iF V.K "opened" (top 37)) (no_dict:ou V.K "dict") (fM:ou V.K "len") (qX:ou V.K "zip") {kM:Addr} (nV:e7 V.K bR "LOOP" = some (some (.ref kM))) (nU:(kM == cS)=false) (nW:Bp V.K kM [(2,-1),(-2,-1)]=true) (x8:fV V 2 "hand_of" ["drawing","name"] ib) (ET:fV V 2 "whole_plan" ["drawing"] j4) (tF:fV V 3 "raised" ["one","count"] gB) (HI:fV V 4 "opened_at" ["sums","name","hand"] lg):fV V 5 "opened" ["drawing","names"] lQ :=
 qK ["drawing","names","hands","loose","sums","name","hand"] Y F DB fun hr nd=>have hu:=hr.units; (aI (AD ["name","drawing"] (sc:=cf (top 37)) (XN:=["drawing","names","hands","loose","sums","name","hand"]) (i:=2) nd rfl rfl (d8 (bw 1)) (fun _ _ _ _=>(jZ (i:=0) (show (["name","drawing"]:List Str).Nodup by decide +kernel) rfl)) (fun _ _ _ _=>.none) (fun _ _ _ _=>(j7 x8 hr (mZ (bw 1) (bw 0)))))
 (aI (jH (i:=3) nd rfl (ez iE rfl (Y.no fM) nv (jz (j6 ["row"] (sc:=cf (top 37)) (XN:=["drawing","names","hands","loose","sums","name","hand"]) (d8 (bw 0)) (fun _ _ _ _=>(jZ (i:=0) (show (["row"]:List Str).Nodup by decide +kernel) rfl)) (fun _ _ _ _=>(.some (qS (kS (bw 0))))) (fun _ _ _ _=>(bw 0))))))
 (aI (jH (i:=4) nd rfl (aX (PA hu (j7 ET hr (jz (bw 0))) (aX (j7 tF hr (mZ (aX (xD rfl (Y.no no_dict) rfl (Y.mg nV) nU nW (by decide) (by decide))) (aX (bw 3))))))))
 (aI (cR aZ rfl (Lm rfl (Y.no qX) (bw 1) (bw 2)) (gn rfl (bL (jZ (i:=5) nd rfl) (bL (jZ (i:=6) nd rfl) fk)) (bM (bM fm))) (aN (jH (i:=4) nd rfl (aX (j7 HI hr (D8 (bw 4) (bw 5) (bw 6)))))))
 (aN (bX (aX (bw 4))))))))
theorem Ho (F:iF V.K "names_of" (top 5)) (gE:ou V.K "sorted") (qe:fV V 1 "passings_of" ["rows"] gM):fV V 2 "names_of" ["drawing"] gx :=
 qK ["drawing"] Y F yV fun hr nd=>have hu:=hr.units; (aN (bX (aX (ez (lz rfl hu) rfl (Y.no gE) qE (jz (j6 ["passing"] (sc:=cf (top 5)) (XN:=["drawing"]) (d8 (j7 qe hr (jz (bw 0)))) (fun _ _ _ _=>(jZ (i:=0) (show (["passing"]:List Str).Nodup by decide +kernel) rfl)) (fun _ _ _ _=>(.some (fC (lU hu) (eK hu (bw 0) aO (fun _ _=>rfl)) aO (gR _)))) (fun _ _ _ _=>(eK hu (bw 0) aO (fun _ _=>rfl)))))))))
theorem J8 (F:iF V.K "bracket" (top 38)) (Bx:fV V 5 "opened" ["drawing","names"] lQ) (vg:fV V 2 "names_of" ["drawing"] gx):fV V 6 "bracket" ["drawing"] kK :=
 qK ["drawing"] Y F BK fun hr nd=>have hu:=hr.units; (aN (bX (aX (jy cI dh ik DP (AU hu) (j7 Bx hr (mZ (bw 0) (j7 vg hr (jz (bw 0))))) (mZ (aX (eN fP)) (aX kA))))))
theorem Eu (F:iF V.K "_law_whole" (top 41)) (Ed:ou V.K "bool") (Jv:ou V.K "int") (fi:ou V.K "isinstance"):fV V 1 "_law_whole" ["_law_found"] eM :=
 qK ["_law_found"] Y F w7 fun hr nd=>(aN (bX (aX (Lq (D6 "int" (by decide) rfl (Y.no fi) rfl (Y.no Jv) WL (bw 0)) (Ln (SY (D6 "bool" (by decide) rfl (Y.no fi) rfl (Y.no Ed) TY (bw 0))))))))
theorem Hq (F:iF V.K "_law_poly" (top 43)) (no_dict:ou V.K "dict") (fi:ou V.K "isinstance") (yR:fV V 1 "_law_whole" ["_law_found"] eM):fV V 2 "_law_poly" ["_law_found"] iK :=
 qK ["_law_found","_law_at"] Y F yW fun hr nd=>have hu:=hr.units; (aI (jx (qS (kS (D6 "dict" (by decide) rfl (Y.no fi) rfl (Y.no no_dict) ud (bw 0)))) (aN (bX (aX AI))) gN)
 (aI (cR aZ rfl (AH (bw 0)) (jZ (i:=1) nd rfl) (aN (jx (U3.pt (xB (qS (kS (j7 yR hr (jz (bw 1))))) (xB (qS (kS (j7 yR hr (jz (eK hu (bw 0) (bw 1) (fun _ _=>rfl)))))) (D0 (fC (lU hu) (eK hu (bw 0) (bw 1) (fun _ _=>rfl)) aO (gR _)))))) (aN (bX (aX AI))) gN)))
 (aN (bX (aX AI)))))
theorem Bg (F:iF V.K "one_of_each" (top 12)):fV V 1 "one_of_each" ["lists"] jq :=
 qK ["lists","picked","members","longer","ahead"] Y F tN fun hr nd=>(aI (jH (i:=1) nd rfl (aX (fJ (jz (fJ fP)))))
 (aI (cR aZ rfl (d8 (bw 0)) (jZ (i:=2) nd rfl) (aI (jH (i:=3) nd rfl (fJ fP))
 (aI (cR aZ rfl (d8 (bw 1)) (jZ (i:=4) nd rfl) (aN (lx (jy dn rS rR k8 uZ (bw 3) (jz (j6 ["member","ahead"] (sc:=cf (top 12)) (XN:=["lists","picked","members","longer","ahead"]) (d8 (bw 2)) (fun _ _ _ _=>(jZ (i:=0) (show (["member","ahead"]:List Str).Nodup by decide +kernel) rfl)) (fun _ _ _ _=>.none) (fun _ _ _ _=>(aX (bZ dc (bw 1) (fJ (jz (bw 0))))))))))))
 (aN (jH (i:=1) nd rfl (aX (bw 3)))))))
 (aN (bX (aX (bw 1))))))
theorem Ci (F:iF V.K "choices_of" (top 30)) (no_dict:ou V.K "dict") (qX:ou V.K "zip") {ql:Tok} (ma:e7 V.K bR "AGAINST" = some (some (.int 1 ql))) {nP:Tok} (iX:e7 V.K bR "ALONG" = some (some (.int 0 nP))) (Cp:fV V 1 "one_of_each" ["lists"] jq):fV V 2 "choices_of" ["names"] j5 :=
 qK ["names"] Y F uN fun hr nd=>(aN (bX (aX (j6 ["splits","names"] (sc:=cf (top 30)) (XN:=["names"]) (d8 (j7 Cp hr (jz (aX (j6 ["name"] (sc:=cf (top 30)) (XN:=["names"]) (d8 (bw 0)) (fun _ _ _ _=>(jZ (i:=0) (show (["name"]:List Str).Nodup by decide +kernel) rfl)) (fun _ _ _ _=>.none) (fun _ _ _ _=>(aX (eN (mZ (tX rfl (Y.mg iX)) (tX rfl (Y.mg ma))))))))))) (fun _ _ _ _=>(jZ (i:=0) (show (["splits","names"]:List Str).Nodup by decide +kernel) rfl)) (fun _ _ _ _=>.none) (fun _ _ _ _=>(aX (Gi rfl rfl (Y.no no_dict) rfl (Y.no qX) (bw 1) (bw 0))))))))
theorem Ez (F:iF V.K "coming_of" (top 21)) (x6:fV V 1 "next_of" ["drawing"] kI):fV V 2 "coming_of" ["drawing"] lj :=
 qK ["drawing","behind","coming","spot"] Y F w9 fun hr nd=>have hu:=hr.units; (aI (jH (i:=1) nd rfl (j7 x6 hr (jz (bw 0))))
 (aI (jH (i:=2) nd rfl kA)
 (aI (cR aZ rfl (AH (bw 1)) (jZ (i:=3) nd rfl) (aN (gY (bw 3) (iO hu (bw 2) (eK hu (bw 1) (bw 3) (fun _ _=>rfl))))))
 (aN (bX (aX (bw 2)))))))
theorem Cf (F:iF V.K "stretch_at" (top 27)):fV V 1 "stretch_at" ["coming","end"] i5 :=
 qK ["coming","end","spot"] Y F uL fun hr nd=>have hu:=hr.units; (aI (jH (i:=2) nd rfl (gC (bw 1) iV (gZ aO)))
 (aN (bX (aX (Pz (fC (lU hu) (eK hu (bw 1) aO (fun _ _=>rfl)) aO (gR _)) (eK hu (bw 0) (bw 2) (fun _ _=>rfl)) (bw 2))))))
theorem J7 (F:iF V.K "grouped" (top 11)) (Ju:ou V.K "min") (gE:ou V.K "sorted"):fV V 1 "grouped" ["members","pairs"] lR :=
 qK (len:=y0) ["members","pairs","group_of","member","one","other","joined"] Y F BJ fun hr nd=>have hu:=hr.units; (aI (jH (i:=2) nd rfl kA)
 (aI (cR aZ rfl (d8 (bw 0)) (jZ (i:=3) nd rfl) (aN (gY (aX (fJ (jz (bw 3)))) (iO hu (bw 2) (bw 3)))))
 (aI (cR aZ rfl (d8 (bw 1)) (gn rfl (bL (jZ (i:=4) nd rfl) (bL (jZ (i:=5) nd rfl) fk)) (bM (bM fm))) (aN (jx (fC (MZ hu) (bw 5) (eK hu (bw 2) (bw 4) (fun _ _=>rfl)) (by with_unfolding_all rfl)) (aI (jH (i:=6) nd rfl (aX (bZ dc (eK hu (bw 2) (bw 4) (fun _ _=>rfl)) (eK hu (bw 2) (bw 5) (fun _ _=>rfl)))))
 (aN (cR aZ rfl (d8 (bw 6)) (jZ (i:=3) nd rfl) (aN (gY (aX (bw 6)) (iO hu (bw 2) (bw 3))))))) gN)))
 (aN (bX (aX (ez (lz rfl hu) rfl (Y.no gE) qE (jz (j6 ["member","group_of"] (sc:=cf (top 11)) (XN:=["members","pairs","group_of","member","one","other","joined"]) (d8 (bw 0)) (fun _ _ _ _=>(jZ (i:=0) (show (["member","group_of"]:List Str).Nodup by decide +kernel) rfl)) (fun _ _ _ _=>(.some (fC (lU hu) (ez (NO rfl hu) rfl (Y.no Ju) WK (jz (eK hu (bw 1) (bw 0) (fun _ _=>rfl)))) (bw 0) (gR _)))) (fun _ _ _ _=>(aX (ez (lz rfl hu) rfl (Y.no gE) qE (jz (eK hu (bw 1) (bw 0) (fun _ _=>rfl)))))))))))))))
theorem Hl (F:iF V.K "spots_on" (top 7)):fV V 1 "spots_on" ["row","string"] mz :=
 qK ["row","string"] Y F yS fun hr nd=>(aI (jx (qS (kS (bw 0))) (aN (bX (aX (fJ (jz (eN (mZ (bw 1) aO))))))) gN)
 (aN (bX (aX (j6 ["passing"] (sc:=cf (top 7)) (XN:=["row","string"]) (d8 (bw 0)) (fun _ _ _ _=>(jZ (i:=0) (show (["passing"]:List Str).Nodup by decide +kernel) rfl)) (fun _ _ _ _=>.none) (fun _ _ _ _=>(gC (bw 0) iV (gZ aO))))))))
theorem Hm (F:iF V.K "spots_of" (top 8)) (jM:ou V.K "enumerate") (gE:ou V.K "sorted") (Ko:fV V 1 "spots_on" ["row","string"] mz):fV V 2 "spots_of" ["drawing"] mB :=
 qK ["drawing","spots","string","row"] Y F yT fun hr nd=>have hu:=hr.units; (aI (jH (i:=1) nd rfl (fJ fP))
 (aI (cR aZ rfl (Gg rfl (Y.no jM) (bw 0)) (gn rfl (bL (jZ (i:=2) nd rfl) (bL (jZ (i:=3) nd rfl) fk)) (bM (bM fm))) (aN (lx (jy dn rS rR k8 uZ (bw 1) (jz (j7 Ko hr (mZ (bw 3) (bw 2))))))))
 (aN (bX (aX (ez (lz rfl hu) rfl (Y.no gE) qE (jz (bw 1))))))))
theorem QL (F:iF V.K "rings" (top 28)) (fM:ou V.K "len") (HM:fV V 2 "coming_of" ["drawing"] lj) (By:fV V 1 "joints" ["name","split"] i6) (wV:fV V 1 "stretch_at" ["coming","end"] i5) (NQ:fV V 1 "grouped" ["members","pairs"] lR) (Kq:fV V 2 "spots_of" ["drawing"] mB):fV V 3 "rings" ["drawing","choice"] oA :=
 qK ["drawing","choice","coming","joined","name","split","one","other"] Y F H0 fun hr nd=>(aI (jH (i:=2) nd rfl (j7 HM hr (jz (bw 0))))
 (aI (jH (i:=3) nd rfl (fJ fP))
 (aI (cR aZ rfl (lT (bw 1)) (gn rfl (bL (jZ (i:=4) nd rfl) (bL (jZ (i:=5) nd rfl) fk)) (bM (bM fm))) (aN (cR aZ rfl (d8 (j7 By hr (mZ (bw 4) (bw 5)))) (gn rfl (bL (jZ (i:=6) nd rfl) (bL (jZ (i:=7) nd rfl) fk)) (bM (bM fm))) (aN (lx (jy dn gk gj k8 lW (bw 3) (jz (eN (mZ (j7 wV hr (mZ (bw 2) (bw 6))) (j7 wV hr (mZ (bw 2) (bw 7))))))))))))
 (aN (bX (aX (ez iE rfl (Y.no fM) nv (jz (j7 NQ hr (mZ (aX (j7 Kq hr (jz (bw 0)))) (aX (bw 3))))))))))))
theorem QM (F:iF V.K "power" (top 29)) (Jt:ou V.K "sum") (ve:fV V 1 "power_at" ["hand","split"] gw) (x8:fV V 2 "hand_of" ["drawing","name"] ib):fV V 3 "power" ["drawing","choice"] oB :=
 qK ["drawing","choice"] Y F Ia fun hr nd=>(aN (bX (aX (ez (NN rfl) rfl (Y.no Jt) WJ (jz (j6 ["name","split","drawing"] (sc:=cf (top 29)) (XN:=["drawing","choice"]) (lT (bw 1)) (fun _ _ _ _=>(gn rfl (bL (jZ (i:=0) (show (["name","split","drawing"]:List Str).Nodup by decide +kernel) rfl) (bL (jZ (i:=1) (show (["name","split","drawing"]:List Str).Nodup by decide +kernel) rfl) fk)) (bM (bM fm)))) (fun _ _ _ _=>.none) (fun _ _ _ _=>(j7 ve hr (mZ (j7 x8 hr (mZ (bw 2) (bw 0))) (bw 1))))))))))
theorem wF (F:iF V.K "bracket_by_all" (top 31)) (no_dict:ou V.K "dict") {kM:Addr} (nV:e7 V.K bR "LOOP" = some (some (.ref kM))) (nU:(kM == cS)=false) (nW:Bp V.K kM [(2,-1),(-2,-1)]=true) (EW:fV V 2 "choices_of" ["names"] j5) (vg:fV V 2 "names_of" ["drawing"] gx) (TR:fV V 3 "rings" ["drawing","choice"] oA) (TU:fV V 3 "power" ["drawing","choice"] oB) (EX:fV V 2 "added" ["one","other"] ju) (xY:fV V 2 "shifted" ["one","by","factor"] fT) (tF:fV V 3 "raised" ["one","count"] gB):fV V 4 "bracket_by_all" ["drawing"] fO :=
 qK ["drawing","counts","choice","key","total","count"] Y F pI fun hr nd=>have hu:=hr.units; (aI (jH (i:=1) nd rfl kA)
 (aI (zF (cR aZ rfl (d8 (j7 EW hr (jz (aX (j7 vg hr (jz (bw 0))))))) (jZ (i:=2) nd rfl) (aI (jH (i:=3) nd rfl (eN (mZ (j7 TU hr (mZ (bw 0) (bw 2))) (j7 TR hr (mZ (bw 0) (bw 2))))))
 (aN (gY (bZ dc (jy cI dh ik oy (PV hu) (bw 1) (mZ (bw 3) aO)) aO) (iO hu (bw 1) (bw 3)))))))
 (aI (jH (i:=4) nd rfl kA)
 (aI (cR aZ rfl (AF (bw 1)) (gn rfl (bL (jZ (i:=3) nd rfl) (bL (jZ (i:=5) nd rfl) fk)) (bM (bM fm))) (aN (jH (i:=4) nd rfl (j7 EX hr (mZ (aX (bw 4)) (aX (j7 xY hr (D8 (aX (j7 tF hr (mZ (aX (xD rfl (Y.no no_dict) rfl (Y.mg nV) nU nW (by decide) (by decide))) (aX (eK hu (bw 3) aO (fun _ _=>rfl)))))) (aX (eK hu (bw 3) aO (fun _ _=>rfl))) (aX (bw 5))))))))))
 (aN (bX (aX (bw 4))))))))
theorem Ey (F:iF V.K "_law_begun" (top 51)) (fM:ou V.K "len") (oM:fV V 1 "_law_pick" ["_law_cell","_law_prime","_law_many"] cW):fV V 2 "_law_begun" ["_law_rows","_law_cell"] nQ :=
 qK ["_law_rows","_law_cell","_law_made","_law_left","_law_row","_law_cut"] Y F E8 fun hr nd=>have hu:=hr.units; (aI (jH (i:=2) nd rfl (fJ fP))
 (aI (jH (i:=3) nd rfl (bZ qw (bw 1) aO))
 (aI (cR aZ rfl (d8 (bw 0)) (jZ (i:=4) nd rfl) (aI (jH (i:=5) nd rfl (bZ jL (bw 3) (bZ dc (ez iE rfl (Y.no fM) nv (jz (bw 4))) aO)))
 (aI (jH (i:=3) nd rfl (bZ qw (bw 3) (bZ dc (ez iE rfl (Y.no fM) nv (jz (bw 4))) aO)))
 (aI (jx (fC (lU hu) (bZ jL (bw 1) aO) aO (gR _)) (aN (jH (i:=5) nd rfl (j7 oM hr (D8 (bZ dc (bw 1) (ez iE rfl (Y.no fM) nv (jz (bw 4)))) aO (bZ dc (ez iE rfl (Y.no fM) nv (jz (bw 4))) aO))))) gN)
 (aN (lx (jy dn gk gj k8 lW (bw 2) (jz (aX (bZ dc (gC (bw 4) (gZ (bw 5)) iV) (gC (bw 4) iV (gZ (bw 5)))))))))))))
 (aN (bX (aX (bw 2)))))))
theorem Wv {f:Addr} {fd:gy} (F:Ub V.K "law" "law" (top 52) f fd) (no_dict:ou V.K "dict") (fi:ou V.K "isinstance") (fM:ou V.K "len") (t4:ou V.K "list") (kc:fV V 1 "_law_cell_at" ["_law_script","_law_k"] b8) (Cr:fV V 3 "_law_drawing" ["_law_cells","_law_strings","_law_spread"] fj) (Cq:fV V 2 "_law_stirred" ["_law_every","_law_cell"] lh) (HJ:fV V 1 "_law_names" ["_law_rows"] gW) (vh:fV V 1 "_law_copy" ["_law_rows"] fA) (ya:fV V 6 "bracket" ["drawing"] kK) (Kr:fV V 2 "_law_poly" ["_law_found"] iK) (x9:fV V 4 "bracket_by_all" ["drawing"] fO) (Bx:fV V 5 "opened" ["drawing","names"] lQ) (HK:fV V 2 "_law_begun" ["_law_rows","_law_cell"] nQ):uw V.P V.w V.K V.mg V.base Iy 7 f fd ["_law_script"] (zd V.K K2.CH) :=
 fo2 F O4 WQ fun _ _ _ _ _ _ hr=>have nd:=O4.nd; have hu:=hr.units; (aI (jH (i:=1) nd rfl (bZ dc aO (bZ jL (j7 kc hr (mZ (bw 0) aO)) aO)))
 (aI (jH (i:=2) nd rfl aO)
 (aI (jx (fC (Ea hu) (bZ jL (j7 kc hr (mZ (bw 0) aO)) aO) aO (gR _)) (aN (jH (i:=2) nd rfl aO)) gN)
 (aI (jH (i:=3) nd rfl (aX (j7 Cr hr (D8 (gC (bw 0) (gZ aO) (gZ (bZ dc aO (bZ jL (j7 kc hr (mZ (bw 0) aO)) aO)))) (bw 1) (bw 2)))))
 (aI (jH (i:=4) nd rfl (aX (j7 Cq hr (mZ (j7 HJ hr (jz (bw 3))) (j7 kc hr (mZ (bw 0) aO))))))
 (aI (jH (i:=5) nd rfl (aX (j7 vh hr (jz (bw 3)))))
 (aI (jH (i:=6) nd rfl (ya.el fun _ _ q=>MW q.ok (hr.mono (by decide)) rfl q.mg q.kp q.bi (jz (bw 5))))
 (aI (jx (U3.pt (xB (qS (kS (Kr.el fun _ _ q=>MX q.ok (hr.mono (by decide)) rfl q.mg q.kp q.bi (jz (bw 6))))) (D0 (fC (D9 hu) (bw 6) (j7 x9 hr (jz (bw 5))) (gR _))))) (aN (bX (aX AI))) gN)
 (aI (jH (i:=7) nd rfl (j7 Bx hr (mZ (aX (bw 5)) (aX (oF Bv rfl (Y.no t4) L9 (jz (bw 4)))))))
 (aI (jx (U3.pt (xB (qS (kS (Py rfl (Y.no fi) rfl (Y.no no_dict) ud (bw 7)))) (xB (fC (D9 hu) (jy cI dh ik DP (AU hu) (bw 7) (mZ (aX (eN fP)) (aX kA))) (bw 6) (gR _)) (xB (fC VR (ez Kn rfl (Y.no fM) nv (jz (bw 7))) aO (gR _)) (D0 (fC (D9 hu) (bw 5) (bw 3) (gR _))))))) (aN (bX (aX AI))) gN)
 (aI (jH (i:=8) nd rfl (aX (j7 HK hr (mZ (bw 3) (j7 kc hr (mZ (bw 0) aO))))))
 (aI (jH (i:=9) nd rfl (oF Bw rfl (Y.no no_dict) ud (jz (bw 6))))
 (aI (gY aO (iO hu (bw 6) aO))
 (aN (bX (aX (Lq (Lp (Ea hu) (j7 ya hr (jz (bw 8))) (bw 9) (gR _)) (Ln (Lp (Ea hu) (j7 ya hr (jz (bw 5))) (bw 9) (gR _))))))))))))))))))))
end
theorem all_mk {l:DF} {w:World} {K:ar} {h:Heap} {mg:Str->Option Value} {fa fl:Addr} {dl:gy} (X:K.In h) (G:h.Ns bR mg) (hfa:mg "law" = some (.ref fa)) (FL:At K "law" (top 52) fl dl) (F0:iF K "_law_cell_at" (top 40)) (F1:iF K "_law_pick" (top 42)) (F2:iF K "_law_digits" (top 47)) (F3:iF K "_law_free" (top 45)) (F4:iF K "_law_copy" (top 44)) (F5:iF K "_law_put" (top 46)) (F6:iF K "_law_drawing" (top 48)) (F7:iF K "_law_stirred" (top 50)) (F8:iF K "_law_names" (top 49)) (F9:iF K "passings_of" (top 4)) (F10:iF K "hand_of" (top 6)) (F11:iF K "next_of" (top 9)) (F12:iF K "plan_of" (top 32)) (F13:iF K "far_ends" (top 34)) (F14:iF K "whole_plan" (top 33)) (F15:iF K "without_noughts" (top 15)) (F16:iF K "times" (top 17)) (F17:iF K "raised" (top 19)) (F18:iF K "joined_plan" (top 35)) (F19:iF K "joints" (top 25)) (F20:iF K "shifted" (top 18)) (F21:iF K "power_at" (top 26)) (F22:iF K "added" (top 16)) (F23:iF K "opened_at" (top 36)) (F24:iF K "opened" (top 37)) (F25:iF K "names_of" (top 5)) (F26:iF K "bracket" (top 38)) (F27:iF K "_law_whole" (top 41)) (F28:iF K "_law_poly" (top 43)) (F29:iF K "one_of_each" (top 12)) (F30:iF K "choices_of" (top 30)) (F31:iF K "coming_of" (top 21)) (F32:iF K "stretch_at" (top 27)) (F33:iF K "grouped" (top 11)) (F34:iF K "spots_on" (top 7)) (F35:iF K "spots_of" (top 8)) (F36:iF K "rings" (top 28)) (F37:iF K "power" (top 29)) (F38:iF K "bracket_by_all" (top 31)) (F39:iF K "_law_begun" (top 51)) {nP:Tok} (iX:autoParam (e7 K bR "ALONG" = some (some (.int 0 nP))) Aq._auto_1) {ql:Tok} (ma:autoParam (e7 K bR "AGAINST" = some (some (.int 1 ql))) Aq._auto_1) {kM:Addr} (nV:autoParam (e7 K bR "LOOP" = some (some (.ref kM))) Aq._auto_1) (nU:autoParam ((kM == cS)=false) Ae._auto_1) (nW:autoParam (Bp K kM [(2,-1),(-2,-1)]=true) Af._auto_1) (fM:autoParam (ou K "len") N0._auto_1) (jM:autoParam (ou K "enumerate") N0._auto_1) (t4:autoParam (ou K "list") N0._auto_1) (oH:autoParam (ou K "range") N0._auto_1) (qX:autoParam (ou K "zip") N0._auto_1) (gE:autoParam (ou K "sorted") N0._auto_1) (AR:autoParam (ou K "tuple") N0._auto_1) (no_dict:autoParam (ou K "dict") N0._auto_1) (Ed:autoParam (ou K "bool") N0._auto_1) (Jv:autoParam (ou K "int") N0._auto_1) (fi:autoParam (ou K "isinstance") N0._auto_1) (Ju:autoParam (ou K "min") N0._auto_1) (Jt:autoParam (ou K "sum") N0._auto_1) :
  ∃ fd:gy,(∀ (s:aA) (v:Value),BindsTo s fd ⟨[v],[]⟩ [("_law_script",v)])/\∀ base:Heap,K.In base->base.Ns bR mg->uw l.prog w K mg base Iy 7 fa fd ["_law_script"] (zd K K2.CH):=by
 have e:=hfa.symm.trans (PySem.W.mg_of X G FL.a);cases e;obtain⟨Fa,Fl⟩:=FL;obtain⟨oc,od,kV,doc,pm,an,ot,ct,MY,rfl,lk,LO⟩:=Fl.ex;refine⟨lA "law" "law" (mw (top 52)) (jf (top 52)) (cf (top 52)) .none kV doc pm an ot ct,fun s v=>.of_eq rfl,fun base _ _=>?_⟩;have Y:U5 ⟨l.prog,w,K,mg,base⟩:=⟨X,G⟩;have c0:=Bj Y F0 fM;have c1:=Hr Y F1;have c2:=Cg Y F2 jM c1;have c3:=Hs Y F3;have c4:=Ht Y F4 t4;have c5:=J3 Y F5 fM c4;have c6:=Bi Y F6 oH c2 c3 c5;have c7:=Bh Y F7 fM c1;have c8:=Ew Y F8;have c9:=Bf Y F9;have c10:=J4 Y F10 c9;have c11:=J2 Y F11 qX;have c12:=J1 Y F12 gE AR;have c13:=Hu Y F13;have c14:=Ce Y F14 c11 c12 c13;have c15:=vc Y F15;have c16:=QK Y F16 c15;have c17:=NH Y F17 oH c16;have c18:=Bk Y F18 c13 c12;have c19:=NJ Y F19 iX;have c20:=J0 Y F20 c15;have c21:=Hn Y F21 iX;have c22:=QN Y F22 no_dict c15;have c23:=Et Y F23 no_dict ma iX nV nU nW c18 (HD OG c19) c20 (HD IW c21) c16 c17 c22;have c24:=NI Y F24 no_dict fM qX nV nU nW c10 c14 c17 c23;have c25:=Ho Y F25 gE c9;have c26:=J8 Y F26 c24 c25;have c27:=Eu Y F27 Ed Jv fi;have c28:=Hq Y F28 no_dict fi c27;have c29:=Bg Y F29;have c30:=Ci Y F30 no_dict qX ma iX c29;have c31:=Ez Y F31 c11;have c32:=Cf Y F32;have c33:=J7 Y F33 Ju gE;have c34:=Hl Y F34;have c35:=Hm Y F35 jM gE c34;have c36:=QL Y F36 fM c31 c19 c32 c33 c35;have c37:=QM Y F37 Jt c21 c10;have c38:=wF Y F38 no_dict nV nU nW c30 c25 c36 c37 c22 c20 c17;have c39:=Ey Y F39 fM c1;exact Wv Y Fl no_dict fi fM t4 c0 c6 c7 c8 c4 c26 c28 c38 c24 c39
section
open PySem.W PySem.Calls
def hC (n:Str) (t:Nat) (l:List Value):Obj:=⟨.type "code",none,.fields (.str n t :: .str n (t+1) :: .str "/claim/cut.py" (t+2) :: l).toArray,#[]⟩
def hI(n:Int):Value:=.int n 0
def hR(n:Nat):Value:=.ref n
def hN:Value:=.none
def hT:Value:=.bool true
def hS (n:Nat):Value:=.str "/claim/cut.py" n
def hD(n:Str)(t:Nat)(l a:Int)(r:Nat)(x y z:Value)(u:Nat):Obj:=hC n t [hI l,hI a,hI 0,hI 0,hI 3,hR r,hT,hI 181,hR (r+1),hN,x,y,z,hI (u - 1),hI l,hS u]
abbrev hF (i:Nat) (n:Str) (m c:Value):Obj:=⟨.type "function",none,.func (lA n n (mw (top i)) (jf (top i)) (cf (top i)) .none .none .none m none c .none),#[]⟩
abbrev hE(P:Params)(s:Str)(t:Nat)(v:Value):fL:=⟨PyData.keyHash P s,.str s t,v⟩
def hQ:bE:=PySem.W.view PySem.Challenge.pw_knotwise_k44_whole_both_ways_one_bracket [1,2,4,5,6,7,8,9,11,12,14,15,16,17,18,19,21,23,24,25,26,27,28,29,30,31,32,33,34,35,36,37,38,40,41,42,43,44,45,46,47,48,49,50,51,52]
def hK (P:Params):ar:=(nat_lit 3,⟨(.type "dict"),none,(.dict #[hE P "__name__" 165 (.str "law_knotwise_k44_whole_both_ways_one_bracket" 505),hE P "__doc__" 166 .none,hE P "__package__" 167 .none,hE P "__loader__" 168 (.builtin "__main__.__loader__#opaque"),hE P "__spec__" 169 .none,hE P "__annotations__" 170 (.ref 6),hE P "__builtins__" 171 (.ref 4),hE P "__file__" 173 (.str "/claim/cut.py" 172),hE P "__cached__" 174 .none,hE P "KnotError" 206 (.ref 24),hE P "NoName" 222 (.ref 37),hE P "passings_of" 233 (.ref 46),hE P "names_of" 239 (.ref 51),hE P "hand_of" 248 (.ref 58),hE P "spots_on" 254 (.ref 63),hE P "spots_of" 264 (.ref 70),hE P "next_of" 275 (.ref 77),hE P "grouped" 283 (.ref 82),hE P "one_of_each" 289 (.ref 87),hE P "LOOP" 301 (.ref 88),hE P "without_noughts" 311 (.ref 95),hE P "added" 322 (.ref 102),hE P "times" 336 (.ref 109),hE P "shifted" 348 (.ref 116),hE P "raised" 358 (.ref 123),hE P "coming_of" 370 (.ref 130),hE P "ALONG" 374 (.int 0 373),hE P "AGAINST" 376 (.int 1 375),hE P "joints" 384 (.ref 137),hE P "power_at" 392 (.ref 144),hE P "stretch_at" 401 (.ref 151),hE P "rings" 415 (.ref 158),hE P "power" 421 (.ref 163),hE P "choices_of" 427 (.ref 168),hE P "bracket_by_all" 439 (.ref 175),hE P "plan_of" 445 (.ref 180),hE P "whole_plan" 451 (.ref 185),hE P "far_ends" 461 (.ref 192),hE P "joined_plan" 475 (.ref 199),hE P "opened_at" 491 (.ref 206),hE P "opened" 497 (.ref 211),hE P "bracket" 504 (.ref 218),hE P "_law_cell_at" 514 (.ref 225),hE P "_law_whole" 521 (.ref 232),hE P "_law_pick" 530 (.ref 239),hE P "_law_poly" 538 (.ref 246),hE P "_law_copy" 544 (.ref 251),hE P "_law_free" 552 (.ref 258),hE P "_law_put" 563 (.ref 265),hE P "_law_digits" 576 (.ref 272),hE P "_law_drawing" 582 (.ref 277),hE P "_law_names" 592 (.ref 284),hE P "_law_stirred" 604 (.ref 291),hE P "_law_begun" 616 (.ref 298),hE P "law" 632 (.ref 305)] 55),#[]⟩) ::
(nat_lit 45,hD "passings_of" 225 7 1 40 (hR 42) (hR 43) (hR 44) 232) ::
(nat_lit 46,hF 4 "passings_of" (.str "knotwise.drawings" 223) (.ref 45)) ::
(nat_lit 50,hD "names_of" 234 12 1 47 hN hN (hR 49) 238) ::
(nat_lit 51,hF 5 "names_of" (.str "knotwise.drawings" 223) (.ref 50)) ::
(nat_lit 57,hD "hand_of" 240 14 2 52 (hR 54) (hR 55) (hR 56) 247) ::
(nat_lit 58,hF 6 "hand_of" (.str "knotwise.drawings" 223) (.ref 57)) ::
(nat_lit 62,hD "spots_on" 249 19 2 59 hN hN (hR 61) 253) ::
(nat_lit 63,hF 7 "spots_on" (.str "knotwise.drawings" 223) (.ref 62)) ::
(nat_lit 69,hD "spots_of" 255 23 1 64 (hR 66) (hR 67) (hR 68) 263) ::
(nat_lit 70,hF 8 "spots_of" (.str "knotwise.drawings" 223) (.ref 69)) ::
(nat_lit 76,hD "next_of" 265 28 1 71 (hR 73) (hR 74) (hR 75) 274) ::
(nat_lit 77,hF 9 "next_of" (.str "knotwise.drawings" 223) (.ref 76)) ::
(nat_lit 81,hD "grouped" 278 35 2 78 hN hN (hR 80) 282) ::
(nat_lit 82,hF 11 "grouped" (.str "knotwise.groups" 276) (.ref 81)) ::
(nat_lit 86,hD "one_of_each" 284 45 1 83 hN hN (hR 85) 288) ::
(nat_lit 87,hF 12 "one_of_each" (.str "knotwise.groups" 276) (.ref 86)) ::
(nat_lit 88,⟨(.type "dict"),none,(.dict #[⟨2,(.int 2 292),(.int (-1) 294)⟩,⟨(-2),(.int (-2) 296),(.int (-1) 298)⟩] 2),#[]⟩) ::
(nat_lit 94,hD "without_noughts" 302 55 1 89 (hR 91) (hR 92) (hR 93) 310) ::
(nat_lit 95,hF 15 "without_noughts" (.str "knotwise.polys" 290) (.ref 94)) ::
(nat_lit 101,hD "added" 312 61 2 96 (hR 98) (hR 99) (hR 100) 321) ::
(nat_lit 102,hF 16 "added" (.str "knotwise.polys" 290) (.ref 101)) ::
(nat_lit 108,hD "times" 323 66 2 103 (hR 105) (hR 106) (hR 107) 335) ::
(nat_lit 109,hF 17 "times" (.str "knotwise.polys" 290) (.ref 108)) ::
(nat_lit 115,hD "shifted" 337 73 3 110 (hR 112) (hR 113) (hR 114) 347) ::
(nat_lit 116,hF 18 "shifted" (.str "knotwise.polys" 290) (.ref 115)) ::
(nat_lit 122,hD "raised" 349 78 2 117 (hR 119) (hR 120) (hR 121) 357) ::
(nat_lit 123,hF 19 "raised" (.str "knotwise.polys" 290) (.ref 122)) ::
(nat_lit 129,hD "coming_of" 361 84 1 124 (hR 126) (hR 127) (hR 128) 369) ::
(nat_lit 130,hF 21 "coming_of" (.str "knotwise.sides" 359) (.ref 129)) ::
(nat_lit 136,hD "joints" 377 93 2 131 (hR 133) (hR 134) (hR 135) 383) ::
(nat_lit 137,hF 25 "joints" (.str "knotwise.brackets" 371) (.ref 136)) ::
(nat_lit 143,hD "power_at" 385 97 2 138 (hR 140) (hR 141) (hR 142) 391) ::
(nat_lit 144,hF 26 "power_at" (.str "knotwise.brackets" 371) (.ref 143)) ::
(nat_lit 150,hD "stretch_at" 393 99 2 145 (hR 147) (hR 148) (hR 149) 400) ::
(nat_lit 151,hF 27 "stretch_at" (.str "knotwise.brackets" 371) (.ref 150)) ::
(nat_lit 157,hD "rings" 402 102 2 152 (hR 154) (hR 155) (hR 156) 414) ::
(nat_lit 158,hF 28 "rings" (.str "knotwise.brackets" 371) (.ref 157)) ::
(nat_lit 162,hD "power" 416 109 2 159 hN hN (hR 161) 420) ::
(nat_lit 163,hF 29 "power" (.str "knotwise.brackets" 371) (.ref 162)) ::
(nat_lit 167,hD "choices_of" 422 111 1 164 hN hN (hR 166) 426) ::
(nat_lit 168,hF 30 "choices_of" (.str "knotwise.brackets" 371) (.ref 167)) ::
(nat_lit 174,hD "bracket_by_all" 428 113 1 169 (hR 171) (hR 172) (hR 173) 438) ::
(nat_lit 175,hF 31 "bracket_by_all" (.str "knotwise.brackets" 371) (.ref 174)) ::
(nat_lit 179,hD "plan_of" 440 122 1 176 hN hN (hR 178) 444) ::
(nat_lit 180,hF 32 "plan_of" (.str "knotwise.brackets" 371) (.ref 179)) ::
(nat_lit 184,hD "whole_plan" 446 124 1 181 hN hN (hR 183) 450) ::
(nat_lit 185,hF 33 "whole_plan" (.str "knotwise.brackets" 371) (.ref 184)) ::
(nat_lit 191,hD "far_ends" 452 127 1 186 (hR 188) (hR 189) (hR 190) 460) ::
(nat_lit 192,hF 34 "far_ends" (.str "knotwise.brackets" 371) (.ref 191)) ::
(nat_lit 198,hD "joined_plan" 462 133 2 193 (hR 195) (hR 196) (hR 197) 474) ::
(nat_lit 199,hF 35 "joined_plan" (.str "knotwise.brackets" 371) (.ref 198)) ::
(nat_lit 205,hD "opened_at" 476 145 3 200 (hR 202) (hR 203) (hR 204) 490) ::
(nat_lit 206,hF 36 "opened_at" (.str "knotwise.brackets" 371) (.ref 205)) ::
(nat_lit 210,hD "opened" 492 157 2 207 hN hN (hR 209) 496) ::
(nat_lit 211,hF 37 "opened" (.str "knotwise.brackets" 371) (.ref 210)) ::
(nat_lit 217,hD "bracket" 498 164 1 212 (hR 214) (hR 215) (hR 216) 503) ::
(nat_lit 218,hF 38 "bracket" (.str "knotwise.brackets" 371) (.ref 217)) ::
(nat_lit 224,hD "_law_cell_at" 507 167 2 219 (hR 221) (hR 222) (hR 223) 513) ::
(nat_lit 225,hF 40 "_law_cell_at" (.str "law_knotwise_k44_whole_both_ways_one_bracket" 505) (.ref 224)) ::
(nat_lit 231,hD "_law_whole" 515 171 1 226 (hR 228) (hR 229) (hR 230) 520) ::
(nat_lit 232,hF 41 "_law_whole" (.str "law_knotwise_k44_whole_both_ways_one_bracket" 505) (.ref 231)) ::
(nat_lit 238,hD "_law_pick" 522 173 3 233 (hR 235) (hR 236) (hR 237) 529) ::
(nat_lit 239,hF 42 "_law_pick" (.str "law_knotwise_k44_whole_both_ways_one_bracket" 505) (.ref 238)) ::
(nat_lit 245,hD "_law_poly" 531 175 1 240 (hR 242) (hR 243) (hR 244) 537) ::
(nat_lit 246,hF 43 "_law_poly" (.str "law_knotwise_k44_whole_both_ways_one_bracket" 505) (.ref 245)) ::
(nat_lit 250,hD "_law_copy" 539 182 1 247 hN hN (hR 249) 543) ::
(nat_lit 251,hF 44 "_law_copy" (.str "law_knotwise_k44_whole_both_ways_one_bracket" 505) (.ref 250)) ::
(nat_lit 257,hD "_law_free" 545 184 2 252 (hR 254) (hR 255) (hR 256) 551) ::
(nat_lit 258,hF 45 "_law_free" (.str "law_knotwise_k44_whole_both_ways_one_bracket" 505) (.ref 257)) ::
(nat_lit 264,hD "_law_put" 553 188 4 259 (hR 261) (hR 262) (hR 263) 562) ::
(nat_lit 265,hF 46 "_law_put" (.str "law_knotwise_k44_whole_both_ways_one_bracket" 505) (.ref 264)) ::
(nat_lit 271,hD "_law_digits" 564 193 2 266 (hR 268) (hR 269) (hR 270) 575) ::
(nat_lit 272,hF 47 "_law_digits" (.str "law_knotwise_k44_whole_both_ways_one_bracket" 505) (.ref 271)) ::
(nat_lit 276,hD "_law_drawing" 577 204 3 273 hN hN (hR 275) 581) ::
(nat_lit 277,hF 48 "_law_drawing" (.str "law_knotwise_k44_whole_both_ways_one_bracket" 505) (.ref 276)) ::
(nat_lit 283,hD "_law_names" 583 214 1 278 (hR 280) (hR 281) (hR 282) 591) ::
(nat_lit 284,hF 49 "_law_names" (.str "law_knotwise_k44_whole_both_ways_one_bracket" 505) (.ref 283)) ::
(nat_lit 290,hD "_law_stirred" 593 221 2 285 (hR 287) (hR 288) (hR 289) 603) ::
(nat_lit 291,hF 50 "_law_stirred" (.str "law_knotwise_k44_whole_both_ways_one_bracket" 505) (.ref 290)) ::
(nat_lit 297,hD "_law_begun" 605 231 2 292 (hR 294) (hR 295) (hR 296) 615) ::
(nat_lit 298,hF 51 "_law_begun" (.str "law_knotwise_k44_whole_both_ways_one_bracket" 505) (.ref 297)) ::
(nat_lit 304,hD "law" 617 241 1 299 (hR 301) (hR 302) (hR 303) 631) ::
(nat_lit 305,hF 52 "law" (.str "law_knotwise_k44_whole_both_ways_one_bracket" 505) (.ref 304)) :: []
def hA:List Addr:=[3,45,46,50,51,57,58,62,63,69,70,76,77,81,82,86,87,88,94,95,101,102,108,109,115,116,122,123,129,130,136,137,143,144,150,151,157,158,162,163,167,168,174,175,179,180,184,185,191,192,198,199,205,206,210,211,217,218,224,225,231,232,238,239,245,246,250,251,257,258,264,265,271,272,276,277,283,284,290,291,297,298,304,305]
def hL:List Str:=["LOOP"]
abbrev QG(w:World):Prop:=∀ os:OsState,(topFrom treeTable (PySem.Challenge.rw_knotwise_k44_whole_both_ways_one_bracket).row.prog w 3716 ⟨Oz w.params,Ms [],IH,Oy,os⟩).map (fun s=>(openSeen hQ hL (zU (PySem.Challenge.rw_knotwise_k44_whole_both_ways_one_bracket).row.prog.main.body) (Vb PySem.Challenge.rw_knotwise_k44_whole_both_ways_one_bracket hQ) true s,hA.map s.heap.get?))=some (openGood hQ hL,(hK w.params).map fun p=>some p.2)
theorem h_f (w:World):QG (w.withFollow "special-get-raises" false):=fun os=>by kernel_rfl
theorem h_t (w:World):QG (w.withFollow "special-get-raises" true):=fun os=>by kernel_rfl
theorem Wo (w:World) (os:OsState):(topFrom treeTable (PySem.Challenge.rw_knotwise_k44_whole_both_ways_one_bracket).row.prog w 3716 ⟨Oz w.params,Ms [],IH,Oy,os⟩).map (fun s=>(openSeen hQ hL (zU (PySem.Challenge.rw_knotwise_k44_whole_both_ways_one_bracket).row.prog.main.body) (Vb PySem.Challenge.rw_knotwise_k44_whole_both_ways_one_bracket hQ) true s,hA.map s.heap.get?))=some (openGood hQ hL,(hK w.params).map fun p=>some p.2):=(byRow2 "special-get-raises" (P:=fun w=>QG w) h_f h_t) w os
theorem Wn:(PySem.Challenge.rw_knotwise_k44_whole_both_ways_one_bracket).wellSaid=true:=by kernel_rfl
theorem Wm:K0 PySem.Challenge.rw_knotwise_k44_whole_both_ways_one_bracket hQ=true:=by kernel_rfl
end
end Fin
end Internal
open Internal
open PySem PySem.W PyProof.Rows
set_option maxRecDepth 100000 in
set_option maxHeartbeats 0 in
theorem PySem.Challenge.cw_knotwise_k44_whole_both_ways_one_bracket_holds : PySem.Challenge.rw_knotwise_k44_whole_both_ways_one_bracket.Holds := by
 w_on
 refine K2.NA (q:=Fin.hQ) (K:=Fin.hK) (as:=Fin.hA) (N:=3716) Fin.Wn (by kernel_rfl) (by kernel_rfl) (fun _=>by kernel_rfl) (fun _=>by kernel_rfl) Fin.Wo (by rfl) (by rfl) (by rfl) (by rfl) Fin.Wm ⟨rfl,rfl,rfl,rfl,rfl,by decide +kernel⟩ ?hw ?hc
 (case hw=>w_witness2)
 k_fill
 refine K2.P7 (l:=PySem.Challenge.rw_knotwise_k44_whole_both_ways_one_bracket) (k:=7) (x:="_law_script") rfl rfl ⟨rfl,by decide,by decide⟩ (fun w h Y=>Y) ?F
 case F =>
  intro w mg fa h KX G Wf;exact Fin.all_mk KX G Wf K2.U1 K2.eZ K2.eZ K2.eZ K2.eZ K2.eZ K2.eZ K2.eZ K2.eZ K2.eZ K2.eZ K2.eZ K2.eZ K2.eZ K2.eZ K2.eZ K2.eZ K2.eZ K2.eZ K2.eZ K2.eZ K2.eZ K2.eZ K2.eZ K2.eZ K2.eZ K2.eZ K2.eZ K2.eZ K2.eZ K2.eZ K2.eZ K2.eZ K2.eZ K2.eZ K2.eZ K2.eZ K2.eZ K2.eZ K2.eZ K2.eZ
